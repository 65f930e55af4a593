import Derived.Test.YtjebhhoibofmfaaEqD
namespace Go.Proofs.Ytjebhhoibofmfaa
open Go.RowKit

/-- valid.isTerm -/
def termB (n : Int) (t : Tm) : Bool := belowB t.sym 10 && decide (t.args.length ≤ 2) && allB t.args.length fun k => belowB (t.args.getD k 0) n

theorem termB_no {n s : Int} {a : Option Addr} {cap : Nat} {xs : List Int} (k : Nat) (hk : k < xs.length) (h : belowB (xs.getD k 0) n = false) : termB n ⟨s, a, cap, xs⟩ = false := by
  unfold termB
  rw [show (allB xs.length fun k => belowB (xs.getD k 0) n) = false from allB_no k hk h]
  simp

theorem termB_yes {n s : Int} {a : Option Addr} {cap : Nat} {xs : List Int} (h1 : belowB s 10 = true) (h2 : xs.length ≤ 2) (h : ∀ k, k < xs.length → belowB (xs.getD k 0) n = true) : termB n ⟨s, a, cap, xs⟩ = true := by
  unfold termB
  rw [show (allB xs.length fun k => belowB (xs.getD k 0) n) = true from allB_yes h]
  simp [h1, h2]

set_option maxHeartbeats 400000 in
theorem isTerm_any (s n : Int) (a : Option Addr) (cap : Nat) (xs : List Int) (w : World) (hx : IntsAt w a xs) :
    Calls Try.prog 68 #[.agg #[.int .i64 s, .slice a xs.length cap], .int .i64 n] w fun e w' => e = .returned (.bool (termB n ⟨s, a, cap, xs⟩)) ∧ Below w.heap.size w w' := by
  have hb0 : Below w.heap.size w (w.alloc (.cells #[.int .i64 s, .slice a xs.length cap] 77)) := (Below.refl _ _).alloc (Nat.le_refl _) _
  cases hs : belowB s 10
  · go_enter Try.func68, Try.ntmps68
    go_wp2_with (go_at_call 60; refine (isBelow_any _ _ _).mono ?_; rintro e w' ⟨rfl, rfl⟩)
    go_ret
    exact ⟨ret_bool (by simp [termB, hs]), hb0⟩
  · by_cases h2 : xs.length ≤ 2
    · go_enter Try.func68, Try.ntmps68
      go_wp2_with (go_at_call 60; refine (isBelow_any _ _ _).mono ?_; rintro e w' ⟨rfl, rfl⟩)
      go_loopg [20] xs.length (fun g v wr => ∃ k : Nat, g = xs.length - k ∧ k ≤ xs.length ∧ v = .int .i64 k ∧ Hid (∀ t, t < k → belowB (xs.getD t 0) n = true) ∧ Below w.heap.size w wr)
      case atStart => exact ⟨0, by omega, Nat.zero_le _, rfl, (fun t h => by omega), hb0⟩
      case round =>
        obtain ⟨k, rfl, hk, rfl, Hk, hb⟩ := hrel
        by_cases hlt : k < xs.length
        · obtain ⟨xb, xo, rfl, xcell⟩ := (hx.below hb).get hlt
          have x1 := xcell k hlt
          generalize hv : xs.getD k 0 = v at *
          have Hv := hide hv
          clear xcell hv
          go_wp2_with (go_at_call 60; refine (isBelow_any _ _ _).mono ?_; rintro e w' ⟨rfl, rfl⟩)
          · rename_i _ hh
            go_ret
            exact ⟨ret_bool (by rw [termB_no k hlt (by rw [Hv.out]; simpa using hh)]), hb⟩
          · rename_i _ hh
            go_roundg (xs.length - (k + 1))
            case measure => omega
            case rel => exact ⟨k + 1, rfl, by omega, by go_num, upto_succ Hk.out (by rw [Hv.out]; simpa using hh), hb⟩
        · go_wp2_with fail
          go_ret
          exact ⟨ret_bool (by rw [termB_yes hs h2 (fun t ht => Hk.out t (by omega))]), hb⟩
    · go_enter Try.func68, Try.ntmps68
      go_wp2_with (go_at_call 60; refine (isBelow_any _ _ _).mono ?_; rintro e w' ⟨rfl, rfl⟩)
      go_ret
      exact ⟨ret_bool (by simp [termB, h2]), hb0⟩

/-- valid.Terms -/
def termsB (ts : List Tm) : Bool := decide (1 ≤ ts.length) && decide (ts.length ≤ 9) && allB ts.length fun k => termB (k : Int) (ts.getD k tm0)

theorem termsB_no {ts : List Tm} (k : Nat) (hk : k < ts.length) (h : termB (k : Int) (ts.getD k tm0) = false) : termsB ts = false := by
  unfold termsB
  rw [show (allB ts.length fun k => termB (k : Int) (ts.getD k tm0)) = false from allB_no k hk h]
  simp

theorem termsB_yes {ts : List Tm} (h1 : 1 ≤ ts.length) (h2 : ts.length ≤ 9) (h : ∀ k, k < ts.length → termB (k : Int) (ts.getD k tm0) = true) : termsB ts = true := by
  unfold termsB
  rw [show (allB ts.length fun k => termB (k : Int) (ts.getD k tm0)) = true from allB_yes h]
  simp [h1, h2]

set_option maxHeartbeats 400000 in
theorem terms_any (ta : Option Addr) (tc : Nat) (ts : List Tm) (w : World) (ht : TermsAt w ta ts) :
    Calls Try.prog 49 #[.slice ta ts.length tc] w fun e w' => e = .returned (.bool (termsB ts)) ∧ Below w.heap.size w w' := by
  by_cases h1 : 1 ≤ ts.length
  · by_cases h9 : ts.length ≤ 9
    · go_enter Try.func49, Try.ntmps49
      go_wp2_with fail
      go_loopg [15] ts.length (fun g v wr => ∃ k : Nat, g = ts.length - k ∧ k ≤ ts.length ∧ v = .int .i64 k ∧ Hid (∀ t, t < k → termB (t : Int) (ts.getD t tm0) = true) ∧ Below w.heap.size w wr)
      case atStart => exact ⟨0, by omega, Nat.zero_le _, rfl, (fun t h => by omega), Below.refl _ _⟩
      case round =>
        obtain ⟨k, rfl, hk, rfl, Hk, hb⟩ := hrel
        by_cases hlt : k < ts.length
        · obtain ⟨tb, tf, rfl, tcell⟩ := (ht.below hb).get hlt
          obtain ⟨t1, t2, t3⟩ := tcell k hlt
          generalize hq : ts.getD k tm0 = q at *
          obtain ⟨qs, qa, qc, ql⟩ := q
          have Hq := hide hq
          clear hq tcell
          simp only at t1 t2 t3
          have t3' := t3.below ((Below.refl wr.heap.size wr).alloc (Nat.le_refl _) (.cells #[.int .i64 qs, .slice qa ql.length qc] 77))
          go_wp2_with (go_at_call 68; refine (isTerm_any qs k qa qc ql _ t3').mono ?_; rintro e w' ⟨rfl, hb2⟩)
          · rename_i _ _ hh
            go_ret
            exact ⟨ret_bool (by rw [termsB_no k hlt (by rw [Hq.out]; simpa using hh)]), (hb.alloc hb.size _).trans (hb2.mono (by have := hb.size; simp; omega))⟩
          · rename_i _ _ hh
            go_roundg (ts.length - (k + 1))
            case measure => omega
            case rel => exact ⟨k + 1, rfl, by omega, by go_num, upto_succ Hk.out (by rw [Hq.out]; simpa using hh), (hb.alloc hb.size _).trans (hb2.mono (by have := hb.size; simp; omega))⟩
        · go_wp2_with fail
          go_ret
          exact ⟨ret_bool (by rw [termsB_yes h1 h9 (fun t ht => Hk.out t (by omega))]), hb⟩
    · go_enter Try.func49, Try.ntmps49
      go_wp2_with fail
      go_ret
      exact ⟨ret_bool (by simp [termsB, h9]), Below.refl _ _⟩
  · go_enter Try.func49, Try.ntmps49
    go_wp2_with fail
    go_ret
    exact ⟨ret_bool (by simp [termsB, h1]), Below.refl _ _⟩
end Go.Proofs.Ytjebhhoibofmfaa
