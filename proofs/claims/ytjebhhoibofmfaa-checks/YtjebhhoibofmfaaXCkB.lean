import Derived.Test.YtjebhhoibofmfaaXCkA
namespace Go.Proofs.Ytjebhhoibofmfaa
open Go.RowKit

set_option maxRecDepth 100000 in
set_option maxHeartbeats 1000000 in
theorem place_any (t : Lt) (w : World) : Calls Try.prog 126 #[.agg #[.int .i64 t.x, .int .i64 t.y, .bool t.n]] w fun e w' => e = .returned (.int .i64 (placeI t)) ∧ Below w.heap.size w w' := by
  obtain ⟨x, y, n⟩ := t
  go_enter Try.func126, Try.ntmps126
  have hwr : ∀ z : Int, wrap64 (wrap64 z) = wrap64 z := by intro z; unfold wrap64; omega
  rcases Int.lt_trichotomy x y with h | h | h
  · have e1 : min x y = x := by omega
    have e2 : max x y = y := by omega
    cases n
    · go_wp2_with fail
      go_ret
      exact ⟨ret_int (by simp only [placeI, e1, e2]; first | rfl | simp [hwr]), (Below.refl _ _).alloc (Nat.le_refl _) _⟩
    · go_wp2_with fail
      go_ret
      exact ⟨ret_int (by simp only [placeI, e1, e2]; first | rfl | simp [hwr]), (Below.refl _ _).alloc (Nat.le_refl _) _⟩
  · subst h
    have e1 : min x x = x := by omega
    have e2 : max x x = x := by omega
    cases n
    · go_wp2_with fail
      go_ret
      exact ⟨ret_int (by simp only [placeI, e1, e2]; first | rfl | simp [hwr]), (Below.refl _ _).alloc (Nat.le_refl _) _⟩
    · go_wp2_with fail
      go_ret
      exact ⟨ret_int (by simp only [placeI, e1, e2]; first | rfl | simp [hwr]), (Below.refl _ _).alloc (Nat.le_refl _) _⟩
  · have e1 : min x y = y := by omega
    have e2 : max x y = x := by omega
    cases n
    · go_wp2_with fail
      go_ret
      exact ⟨ret_int (by simp only [placeI, e1, e2]; first | rfl | simp [hwr]), (Below.refl _ _).alloc (Nat.le_refl _) _⟩
    · go_wp2_with fail
      go_ret
      exact ⟨ret_int (by simp only [placeI, e1, e2]; first | rfl | simp [hwr]), (Below.refl _ _).alloc (Nat.le_refl _) _⟩
end Go.Proofs.Ytjebhhoibofmfaa
