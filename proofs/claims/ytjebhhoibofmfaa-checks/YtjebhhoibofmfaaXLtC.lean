import Derived.Test.YtjebhhoibofmfaaMLt
namespace Go.Proofs.Ytjebhhoibofmfaa
open Go.RowKit

set_option maxHeartbeats 400000 in
theorem has_any (x y : Int) (n : Bool) (E A : Nat) (w : World) (hx : 0 ≤ x) (hx9 : x < 9) (hy : 0 ≤ y) (hy9 : y < 9) (hE : E < 18446744073709551616) (hA : A < 18446744073709551616) :
    Calls Try.prog 72 #[.agg #[.int .u64 E, .int .u64 A], .agg #[.int .i64 x, .int .i64 y, .bool n]] w fun e w' => e = .returned (.bool (hasS E A ⟨x, y, n⟩)) ∧ Below w.heap.size w w' := by
  obtain ⟨W, hW⟩ : ∃ W, W = (w.alloc (.cells #[.int .u64 E, .int .u64 A] 84)).alloc (.cells #[.int .i64 x, .int .i64 y, .bool n] 50) := ⟨_, rfl⟩
  have hb0 : Below w.heap.size w W := by rw [hW]; exact ((Below.refl _ _).alloc (Nat.le_refl _) _).alloc (by simp) _
  have e1 := bits_and hE (bitN_lt hx hx9 hy hy9)
  have e2 := bits_and hA (bitN_lt hx hx9 hy hy9)
  have c0 : W.cell? ⟨w.heap.size, 0, none⟩ = some (.int .u64 E) := by rw [hW]; simp
  have c1 : W.cell? ⟨w.heap.size, 1, none⟩ = some (.int .u64 A) := by rw [hW]; simp
  have l0 : W.cell? ⟨w.heap.size + 1, 0, none⟩ = some (.int .i64 x) := by rw [hW]; simp
  have l1 : W.cell? ⟨w.heap.size + 1, 1, none⟩ = some (.int .i64 y) := by rw [hW]; simp
  have l2 : W.cell? ⟨w.heap.size + 1, 2, none⟩ = some (.bool n) := by rw [hW]; simp
  have E1 : Hid ((((E &&& bitN x y : Nat) : Int) != 0) = E.testBit (ixN x y)) := and_two_b E (ixN x y)
  have A1 : Hid ((((A &&& bitN x y : Nat) : Int) != 0) = A.testBit (ixN x y)) := and_two_b A (ixN x y)
  generalize (E &&& bitN x y) = P at *
  generalize (A &&& bitN x y) = Q at *
  cases n
  · go_enter Try.func72, Try.ntmps72
    go_upto_region 3 with fail
    rw [← hW]
    clear hW
    go_region_with (go_at_call 85; refine (bit_any _ _ _ _ hx hx9 hy hy9).mono ?_; rintro e w' ⟨rfl, hb⟩; have q0 := cell_below hb c0; have q1 := cell_below hb c1)
    all_goals
      go_wp2_with fail
      go_ret
      exact ⟨ret_bool E1.out, hb0.trans (((Below.refl _ _).drew.trans hb).mono hb0.size)⟩
  · go_enter Try.func72, Try.ntmps72
    go_upto_region 2 with fail
    rw [← hW]
    clear hW
    go_region_with (go_at_call 85; refine (bit_any _ _ _ _ hx hx9 hy hy9).mono ?_; rintro e w' ⟨rfl, hb⟩; have q0 := cell_below hb c0; have q1 := cell_below hb c1)
    all_goals
      go_wp2_with fail
      go_ret
      exact ⟨ret_bool A1.out, hb0.trans (((Below.refl _ _).drew.trans hb).mono hb0.size)⟩

end Go.Proofs.Ytjebhhoibofmfaa
