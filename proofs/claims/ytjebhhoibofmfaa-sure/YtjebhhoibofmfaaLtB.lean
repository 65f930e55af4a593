import Derived.Test.YtjebhhoibofmfaaLtA
namespace Go.Proofs.Ytjebhhoibofmfaa
open Go.RowKit

theorem ret_two {k : Nat} {x y : Int} (h : k ≤ 44) (e : ixN x y = k) : Ending.returned (.int .u64 (IntKind.u64.wrap (2 ^ k))) = .returned (.int .u64 ((bitN x y : Nat) : Int)) := by
  unfold bitN
  rw [e]
  have := wrap_u64 (two_lt h)
  rw [show ((2 ^ k : Nat) : Int) = (2 : Int) ^ k from by norm_cast] at this
  rw [this]; norm_cast

set_option maxHeartbeats 1000000 in
theorem bit_any (x y : Int) (n : Bool) (w : World) (hx : 0 ≤ x) (hx9 : x < 9) (hy : 0 ≤ y) (hy9 : y < 9) :
    Calls Try.prog 85 #[.agg #[.int .i64 x, .int .i64 y, .bool n]] w fun e w' => e = .returned (.int .u64 (bitN x y : Nat)) ∧ Below w.heap.size w w' := by
  have hb0 : Below w.heap.size w (w.alloc (.cells #[.int .i64 x, .int .i64 y, .bool n] 50)) := (Below.refl _ _).alloc (Nat.le_refl _) _
  go_enter Try.func85, Try.ntmps85
  go_upto_region 1 with fail
  go_cut [3, 4] (fun s3 s4 wx => s3 = .int .i64 (min x y) ∧ s4 = .int .i64 (max x y) ∧ ∃ n', wx = (w.alloc (.cells #[.int .i64 x, .int .i64 y, .bool n] 50)).drewN n')
  case first =>
    by_cases hxy : x < y
    · have h2 : ¬ y < x := by omega
      go_region
      all_goals (go_wp2_with fail; go_meet; exact ⟨by congr 1; omega, by congr 1; omega, 1, rfl⟩)
    · by_cases h2 : y < x
      · go_region
        all_goals (go_wp2_with fail; go_meet; exact ⟨by congr 1; omega, by congr 1; omega, 1, rfl⟩)
      · go_region
        all_goals (go_wp2_with fail; go_meet; exact ⟨by congr 1; omega, by congr 1; omega, 1, rfl⟩)
  case rest =>
    obtain ⟨rfl, rfl, n', rfl⟩ := hcut
    have h1 : 0 ≤ min x y := by omega
    have h2 : max x y ≤ 8 := by omega
    have h3 : min x y ≤ max x y := by omega
    have Hix : Hid (ixN x y = tri (min x y).toNat (max x y).toNat) := by show ixN x y = _; unfold ixN; congr 1 <;> omega
    have hb1 := below_drewN hb0 n'
    generalize min x y = l at *
    generalize max x y = g at *
    clear hb0
    obtain ⟨l, rfl⟩ := Int.eq_ofNat_of_zero_le h1
    obtain ⟨g, rfl⟩ := Int.eq_ofNat_of_zero_le (show 0 ≤ g by omega)
    have hg : g = 0 ∨ g = 1 ∨ g = 2 ∨ g = 3 ∨ g = 4 ∨ g = 5 ∨ g = 6 ∨ g = 7 ∨ g = 8 := by omega
    rcases hg with rfl | rfl | rfl | rfl | rfl | rfl | rfl | rfl | rfl
    all_goals
      go_wp2_with fail
      go_ret
      exact ⟨ret_two (by omega) (by rw [Hix.out]; simp [tri]), hb1⟩

end Go.Proofs.Ytjebhhoibofmfaa
