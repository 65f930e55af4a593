import Derived.Test.YtjebhhoibofmfaaLtD
namespace Go.Proofs.Ytjebhhoibofmfaa
open Go.RowKit

set_option maxHeartbeats 400000 in
theorem union_any (E A F B : Nat) (w : World) (hE : E < 18446744073709551616) (hA : A < 18446744073709551616) (hF : F < 18446744073709551616) (hB : B < 18446744073709551616) :
    Calls Try.prog 88 #[.agg #[.int .u64 E, .int .u64 A], .agg #[.int .u64 F, .int .u64 B]] w fun e w' => e = .returned (.agg #[.int .u64 (E ||| F : Nat), .int .u64 (A ||| B : Nat)]) ∧ Below w.heap.size w w' := by
  have e1 := bits_or hE hF
  have e2 := bits_or hA hB
  generalize E ||| F = P at *
  generalize A ||| B = Q at *
  go_enter Try.func88, Try.ntmps88
  go_wp2_with fail
  refine bodyPost_ret (v := .agg #[.int .u64 P, .int .u64 Q]) (by simp [results, Try.results88, go_sem]) rfl ⟨rfl, ?_⟩
  refine Below.alloc (Below.alloc (Below.alloc (Below.refl _ _) (Nat.le_refl _) _) ?_ _) ?_ _
  · simp
  · simp; omega

def emptyB (E A : Nat) : Bool := decide (E = 0) && decide (A = 0)

set_option maxHeartbeats 400000 in
theorem isEmpty_any (E A : Nat) (w : World) :
    Calls Try.prog 43 #[.agg #[.int .u64 E, .int .u64 A]] w fun e w' => e = .returned (.bool (emptyB E A)) ∧ Below w.heap.size w w' := by
  have hb0 : Below w.heap.size w (w.alloc (.cells #[.int .u64 E, .int .u64 A] 84)) := (Below.refl _ _).alloc (Nat.le_refl _) _
  by_cases h : E = 0
  · by_cases h' : A = 0
    · subst h; subst h'
      go_enter Try.func43, Try.ntmps43
      go_wp2_with fail
      go_ret
      exact ⟨ret_bool (by simp [emptyB]), hb0⟩
    · subst h
      go_enter Try.func43, Try.ntmps43
      go_wp2_with fail
      go_ret
      exact ⟨ret_bool (by simp [emptyB, h']), hb0⟩
  · go_enter Try.func43, Try.ntmps43
    go_wp2_with fail
    go_ret
    exact ⟨ret_bool (by simp [emptyB, h]), hb0⟩

set_option maxHeartbeats 400000 in
theorem equal_any (x y : Int) (w : World) :
    Calls Try.prog 124 #[.int .i64 x, .int .i64 y] w fun e w' => e = .returned (.agg #[.int .i64 x, .int .i64 y, .bool false]) ∧ Below w.heap.size w w' := by
  go_enter Try.func124, Try.ntmps124
  go_wp2_with fail
  refine bodyPost_ret (v := .agg #[.int .i64 x, .int .i64 y, .bool false]) (by simp [results, Try.results124, go_sem]) rfl ⟨rfl, ?_⟩
  exact (Below.refl _ _).alloc (Nat.le_refl _) _

set_option maxHeartbeats 400000 in
theorem apart_any (x y : Int) (w : World) :
    Calls Try.prog 125 #[.int .i64 x, .int .i64 y] w fun e w' => e = .returned (.agg #[.int .i64 x, .int .i64 y, .bool true]) ∧ Below w.heap.size w w' := by
  go_enter Try.func125, Try.ntmps125
  go_wp2_with fail
  refine bodyPost_ret (v := .agg #[.int .i64 x, .int .i64 y, .bool true]) (by simp [results, Try.results125, go_sem]) rfl ⟨rfl, ?_⟩
  exact (Below.refl _ _).alloc (Nat.le_refl _) _

def allLow (n : Int) (xs : List Int) : Bool := allB xs.length fun k => belowB (xs.getD k 0) n
def allNil (xs : List Int) : Bool := allB xs.length fun k => decide (xs.getD k 0 = 0)

set_option maxHeartbeats 400000 in
theorem allBelow_any (n : Int) (a : Option Addr) (cap : Nat) (xs : List Int) (w : World) (hx : IntsAt w a xs) (h9 : xs.length ≤ 100) :
    Calls Try.prog 121 #[.int .i64 n, .slice a xs.length cap] w fun e w' => e = .returned (.bool (allLow n xs)) ∧ w' = w := by
  go_enter Try.func121, Try.ntmps121
  go_wp2_with fail
  go_loopg [9] xs.length (fun g v wr => ∃ k : Nat, g = xs.length - k ∧ k ≤ xs.length ∧ v = .int .i64 k ∧ Hid (∀ t, t < k → belowB (xs.getD t 0) n = true) ∧ wr = w)
  case atStart => exact ⟨0, by omega, Nat.zero_le _, rfl, (fun t h => by omega), rfl⟩
  case round =>
    obtain ⟨k, rfl, hk, rfl, Hk, rfl⟩ := hrel
    by_cases hlt : k < xs.length
    · obtain ⟨xb, xo, rfl, xcell⟩ := hx.get hlt
      have x1 := xcell k hlt
      generalize hv : xs.getD k 0 = v at *
      have Hv := hide hv
      clear xcell hv
      go_wp2_with (go_at_call 60; refine (isBelow_any _ _ _).mono ?_; rintro e w' ⟨rfl, rfl⟩)
      · rename_i _ hh
        go_ret
        exact ⟨ret_bool (by rw [allLow, allB_no k hlt (by rw [Hv.out]; simpa using hh)]), rfl⟩
      · rename_i _ hh
        go_roundg (xs.length - (k + 1))
        case measure => omega
        case rel => exact ⟨k + 1, rfl, by omega, by go_num, upto_succ Hk.out (by rw [Hv.out]; simpa using hh), rfl⟩
    · go_wp2_with fail
      go_ret
      exact ⟨ret_bool (by rw [allLow, allB_yes (fun t ht => Hk.out t (by omega))]), rfl⟩

set_option maxHeartbeats 400000 in
theorem allZero_any (a : Option Addr) (cap : Nat) (xs : List Int) (w : World) (hx : IntsAt w a xs) (h9 : xs.length ≤ 100) :
    Calls Try.prog 122 #[.slice a xs.length cap] w fun e w' => e = .returned (.bool (allNil xs)) ∧ w' = w := by
  go_enter Try.func122, Try.ntmps122
  go_wp2_with fail
  go_loopg [7] xs.length (fun g v wr => ∃ k : Nat, g = xs.length - k ∧ k ≤ xs.length ∧ v = .int .i64 k ∧ Hid (∀ t, t < k → decide (xs.getD t 0 = 0) = true) ∧ wr = w)
  case atStart => exact ⟨0, by omega, Nat.zero_le _, rfl, (fun t h => by omega), rfl⟩
  case round =>
    obtain ⟨k, rfl, hk, rfl, Hk, rfl⟩ := hrel
    by_cases hlt : k < xs.length
    · obtain ⟨xb, xo, rfl, xcell⟩ := hx.get hlt
      have x1 := xcell k hlt
      generalize hv : xs.getD k 0 = v at *
      have Hv := hide hv
      clear xcell hv
      by_cases h0 : v = 0
      · subst h0
        go_wp2_with fail
        go_roundg (xs.length - (k + 1))
        case measure => omega
        case rel => exact ⟨k + 1, rfl, by omega, by go_num, upto_succ Hk.out (by rw [Hv.out]; rfl), rfl⟩
      · have hb : (v != 0) = true := by simp [h0]
        have H0 := hide h0
        clear h0
        go_wp2_with fail
        go_ret
        exact ⟨ret_bool (by rw [allNil, allB_no k hlt (by rw [Hv.out]; simp [H0.out])]), rfl⟩
    · go_wp2_with fail
      go_ret
      exact ⟨ret_bool (by rw [allNil, allB_yes (fun t ht => Hk.out t (by omega))]), rfl⟩
end Go.Proofs.Ytjebhhoibofmfaa
