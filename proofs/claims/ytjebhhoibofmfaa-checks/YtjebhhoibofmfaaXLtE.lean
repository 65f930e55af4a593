import Derived.Test.YtjebhhoibofmfaaMLt
namespace Go.Proofs.Ytjebhhoibofmfaa
open Go.RowKit

set_option maxHeartbeats 1000000 in
theorem wout_any (x y : Int) (n : Bool) (E A : Nat) (w : World) (hx : 0 ≤ x) (hx9 : x < 9) (hy : 0 ≤ y) (hy9 : y < 9) (hE : E < 18446744073709551616) (hA : A < 18446744073709551616) :
    Calls Try.prog 118 #[.agg #[.int .u64 E, .int .u64 A], .agg #[.int .i64 x, .int .i64 y, .bool n]] w fun e w' => e = .returned (.agg #[.int .u64 (woutE E ⟨x, y, n⟩ : Nat), .int .u64 (woutA A ⟨x, y, n⟩ : Nat)]) ∧ Below w.heap.size w w' := by
  have e1 := bits_but hE (bitN_lt hx hx9 hy hy9)
  have e2 := bits_but hA (bitN_lt hx hx9 hy hy9)
  have HE0 : Hid (woutE E ⟨x, y, false⟩ = (butN E (bitN x y))) := rfl
  have HA0 : Hid (woutA A ⟨x, y, false⟩ = A) := rfl
  have HE1 : Hid (woutE E ⟨x, y, true⟩ = E) := rfl
  have HA1 : Hid (woutA A ⟨x, y, true⟩ = (butN A (bitN x y))) := rfl
  generalize (butN E (bitN x y)) = P at *
  generalize (butN A (bitN x y)) = Q at *
  obtain ⟨W2, hW2⟩ : ∃ W2, W2 = (w.alloc (.cells #[.int .u64 E, .int .u64 A] 84)).alloc (.cells #[.int .i64 x, .int .i64 y, .bool n] 50) := ⟨_, rfl⟩
  have hs2 : W2.heap.size = w.heap.size + 1 + 1 := by rw [hW2]; simp
  have c0 : W2.cell? ⟨w.heap.size, 0, none⟩ = some (.int .u64 E) := by rw [hW2]; simp
  have c1 : W2.cell? ⟨w.heap.size, 1, none⟩ = some (.int .u64 A) := by rw [hW2]; simp
  have f0 : W2.frozen? ⟨w.heap.size, 0, none⟩ = false := by rw [hW2]; simp
  have f1 : W2.frozen? ⟨w.heap.size, 1, none⟩ = false := by rw [hW2]; simp
  have l0 : W2.cell? ⟨w.heap.size + 1, 0, none⟩ = some (.int .i64 x) := by rw [hW2]; simp
  have l1 : W2.cell? ⟨w.heap.size + 1, 1, none⟩ = some (.int .i64 y) := by rw [hW2]; simp
  have l2 : W2.cell? ⟨w.heap.size + 1, 2, none⟩ = some (.bool n) := by rw [hW2]; simp
  have hb2 : Below w.heap.size w W2 := by rw [hW2]; exact ((Below.refl _ _).alloc (Nat.le_refl _) _).alloc (by simp) _
  obtain ⟨W, hW⟩ : ∃ W, W = W2.alloc (.cells #[.int .u64 0, .int .u64 0] 84) := ⟨_, rfl⟩
  have hbW : Below W2.heap.size W2 W := by rw [hW]; exact (Below.refl _ _).alloc (Nat.le_refl _) _
  have hs : W.heap.size = w.heap.size + 3 := by rw [hW]; simp [hs2]
  replace c0 := cell_below hbW c0
  replace c1 := cell_below hbW c1
  replace l0 := cell_below hbW l0
  replace l1 := cell_below hbW l1
  replace l2 := cell_below hbW l2
  replace f0 := frozen_below hbW (by omega) f0
  replace f1 := frozen_below hbW (by omega) f1
  have r0 : W.cell? ⟨w.heap.size + 1 + 1, 0, none⟩ = some (.int .u64 0) := by rw [hW, ← hs2]; simp
  have r1 : W.cell? ⟨w.heap.size + 1 + 1, 1, none⟩ = some (.int .u64 0) := by rw [hW, ← hs2]; simp
  have g0 : W.frozen? ⟨w.heap.size + 1 + 1, 0, none⟩ = false := by rw [hW, ← hs2]; simp
  have g1 : W.frozen? ⟨w.heap.size + 1 + 1, 1, none⟩ = false := by rw [hW, ← hs2]; simp
  have hb0 : Below w.heap.size w W := hb2.trans (hbW.mono (by omega))
  have hw3 : W = ((w.alloc (.cells #[.int .u64 E, .int .u64 A] 84)).alloc (.cells #[.int .i64 x, .int .i64 y, .bool n] 50)).alloc (.cells #[.int .u64 0, .int .u64 0] 84) := by rw [hW, hW2]
  clear hW hW2 hbW hb2 hs2
  cases n
  · go_enter Try.func118, Try.ntmps118
    go_upto_region 3 with fail
    rw [← hw3]
    clear hw3
    go_cut [4] (fun s wx => s = .pointer (some ⟨w.heap.size + 1 + 1, 0, none⟩) ∧ wx.cell? ⟨w.heap.size, 0, none⟩ = some (.int .u64 P) ∧ wx.cell? ⟨w.heap.size, 1, none⟩ = some (.int .u64 A) ∧
      wx.cell? ⟨w.heap.size + 1 + 1, 0, none⟩ = some (.int .u64 0) ∧ wx.cell? ⟨w.heap.size + 1 + 1, 1, none⟩ = some (.int .u64 0) ∧
      wx.frozen? ⟨w.heap.size + 1 + 1, 0, none⟩ = false ∧ wx.frozen? ⟨w.heap.size + 1 + 1, 1, none⟩ = false ∧ Below w.heap.size w wx)
    case first =>
      go_region_with (go_at_call 85; refine (bit_any _ _ _ _ hx hx9 hy hy9).mono ?_; rintro e w' ⟨rfl, hb⟩; have q0 := cell_below hb c0; have q1 := cell_below hb c1; have q2 := frozen_below hb (Nat.lt_of_lt_of_le (by omega) (Nat.le_of_eq hs.symm)) f0; have q3 := frozen_below hb (Nat.lt_of_lt_of_le (by omega) (Nat.le_of_eq hs.symm)) f1)
      all_goals
        go_wp2_with fail
        go_meet
        have z0 := cell_below hb r0
        have z1 := cell_below hb r1
        have z2 := frozen_below hb (Nat.lt_of_lt_of_le (by omega) (Nat.le_of_eq hs.symm)) g0
        have z3 := frozen_below hb (Nat.lt_of_lt_of_le (by omega) (Nat.le_of_eq hs.symm)) g1
        exact ⟨rfl, set_same q0, set_other (by omega) q1, set_other (by omega) z0, set_other (by omega) z1, set_frozen z2, set_frozen z3, ((hb0.trans ((Below.refl W.heap.size W).drew.mono hb0.size)).trans (hb.mono hb0.size)).setCell (Nat.le_refl _) _⟩
    case rest =>
      obtain ⟨rfl, k0, k1, k2, k3, k4, k5, hbc⟩ := hcut
      go_wp2_with fail
      exact bodyPost_ret (v := .agg #[.int .u64 P, .int .u64 A]) (by simp [results, Try.results118, go_sem, k2, k3]) rfl ⟨ret_set HE0.out.symm HA0.out.symm, (hbc.setCell (p := ⟨w.heap.size + 1 + 1, 0, none⟩) (by show _ ≤ _ + 1 + 1; omega) _).setCell (p := ⟨w.heap.size + 1 + 1, 1, none⟩) (by show _ ≤ _ + 1 + 1; omega) _⟩
  · go_enter Try.func118, Try.ntmps118
    go_upto_region 2 with fail
    rw [← hw3]
    clear hw3
    go_cut [4] (fun s wx => s = .pointer (some ⟨w.heap.size + 1 + 1, 0, none⟩) ∧ wx.cell? ⟨w.heap.size, 0, none⟩ = some (.int .u64 E) ∧ wx.cell? ⟨w.heap.size, 1, none⟩ = some (.int .u64 Q) ∧
      wx.cell? ⟨w.heap.size + 1 + 1, 0, none⟩ = some (.int .u64 0) ∧ wx.cell? ⟨w.heap.size + 1 + 1, 1, none⟩ = some (.int .u64 0) ∧
      wx.frozen? ⟨w.heap.size + 1 + 1, 0, none⟩ = false ∧ wx.frozen? ⟨w.heap.size + 1 + 1, 1, none⟩ = false ∧ Below w.heap.size w wx)
    case first =>
      go_region_with (go_at_call 85; refine (bit_any _ _ _ _ hx hx9 hy hy9).mono ?_; rintro e w' ⟨rfl, hb⟩; have q0 := cell_below hb c0; have q1 := cell_below hb c1; have q2 := frozen_below hb (Nat.lt_of_lt_of_le (by omega) (Nat.le_of_eq hs.symm)) f0; have q3 := frozen_below hb (Nat.lt_of_lt_of_le (by omega) (Nat.le_of_eq hs.symm)) f1)
      all_goals
        go_wp2_with fail
        go_meet
        have z0 := cell_below hb r0
        have z1 := cell_below hb r1
        have z2 := frozen_below hb (Nat.lt_of_lt_of_le (by omega) (Nat.le_of_eq hs.symm)) g0
        have z3 := frozen_below hb (Nat.lt_of_lt_of_le (by omega) (Nat.le_of_eq hs.symm)) g1
        exact ⟨rfl, set_other (by omega) q0, set_same q1, set_other (by omega) z0, set_other (by omega) z1, set_frozen z2, set_frozen z3, ((hb0.trans ((Below.refl W.heap.size W).drew.mono hb0.size)).trans (hb.mono hb0.size)).setCell (Nat.le_refl _) _⟩
    case rest =>
      obtain ⟨rfl, k0, k1, k2, k3, k4, k5, hbc⟩ := hcut
      go_wp2_with fail
      exact bodyPost_ret (v := .agg #[.int .u64 E, .int .u64 Q]) (by simp [results, Try.results118, go_sem, k2, k3]) rfl ⟨ret_set HE1.out.symm HA1.out.symm, (hbc.setCell (p := ⟨w.heap.size + 1 + 1, 0, none⟩) (by show _ ≤ _ + 1 + 1; omega) _).setCell (p := ⟨w.heap.size + 1 + 1, 1, none⟩) (by show _ ≤ _ + 1 + 1; omega) _⟩
end Go.Proofs.Ytjebhhoibofmfaa
