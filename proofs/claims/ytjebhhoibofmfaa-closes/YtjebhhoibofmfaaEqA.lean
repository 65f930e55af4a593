import Derived.Test.YtjebhhoibofmfaaProg
import Derived.Test.YtjebhhoibofmfaaEqM
import Derived.WalkKit
import Derived.BigQuiet
import Derived.Deep.QuietTactic
import Derived.Deep.RegionWith
namespace Go.Proofs.Ytjebhhoibofmfaa
open Go.RowKit

theorem ret_bool {a b : Bool} (h : a = b) : Ending.returned (.bool a) = .returned (.bool b) := by rw [h]

def belowB (x n : Int) : Bool := decide (0 ≤ x) && decide (x < n)

set_option maxHeartbeats 400000 in
theorem isBelow_any (x n : Int) (w : World) :
    Calls Try.prog 60 #[.int .i64 x, .int .i64 n] w fun e w' => e = .returned (.bool (belowB x n)) ∧ w' = w := by
  by_cases h : 0 ≤ x
  · go_enter Try.func60, Try.ntmps60
    go_wp2
    go_ret
    exact ⟨by simp [belowB, h], rfl⟩
  · go_enter Try.func60, Try.ntmps60
    go_wp2
    go_ret
    exact ⟨by simp [belowB]; omega, rfl⟩

def alikeB (s1 s2 : Int) (l1 l2 : Nat) : Bool := decide (s1 = s2) && decide (l1 = l2)

set_option maxHeartbeats 400000 in
theorem alike_any (s1 s2 : Int) (a1 a2 : Option Addr) (l1 l2 c1 c2 : Nat) (w : World) :
    Calls Try.prog 101 #[.agg #[.int .i64 s1, .slice a1 l1 c1], .agg #[.int .i64 s2, .slice a2 l2 c2]] w fun e w' => e = .returned (.bool (alikeB s1 s2 l1 l2)) ∧ Below w.heap.size w w' := by
  by_cases h : s1 = s2
  · have hb : (s1 == s2) = true := by simp [h]
    go_enter Try.func101, Try.ntmps101
    go_wp2
    go_ret
    exact ⟨ret_bool (by rw [Bool.eq_iff_iff]; simp [alikeB, h]; try omega), ((Below.refl _ _).alloc (Nat.le_refl _) _).alloc (by simp) _⟩
  · have hb : (s1 == s2) = false := by simp [h]
    go_enter Try.func101, Try.ntmps101
    go_wp2
    go_ret
    exact ⟨ret_bool (by rw [Bool.eq_iff_iff]; simp [alikeB, h]), ((Below.refl _ _).alloc (Nat.le_refl _) _).alloc (by simp) _⟩

end Go.Proofs.Ytjebhhoibofmfaa
