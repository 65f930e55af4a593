import Derived.Test.YtjebhhoibofmfaaEqE
namespace Go.Proofs.Ytjebhhoibofmfaa
open Go.RowKit

/-- valid.isClause -/
def litOk (n : Int) (l : Lt) : Bool := belowB l.x n && belowB l.y n
def clauseB (n : Int) (ls : List Lt) : Bool := decide (ls.length ≤ 6) && allB ls.length fun k => litOk n (ls.getD k lt0)

theorem clauseB_no {n : Int} {ls : List Lt} (k : Nat) (hk : k < ls.length) (h : litOk n (ls.getD k lt0) = false) : clauseB n ls = false := by
  unfold clauseB
  rw [show (allB ls.length fun k => litOk n (ls.getD k lt0)) = false from allB_no k hk h]
  simp

theorem clauseB_yes {n : Int} {ls : List Lt} (h2 : ls.length ≤ 6) (h : ∀ k, k < ls.length → litOk n (ls.getD k lt0) = true) : clauseB n ls = true := by
  unfold clauseB
  rw [show (allB ls.length fun k => litOk n (ls.getD k lt0)) = true from allB_yes h]
  simp [h2]

set_option maxHeartbeats 400000 in
theorem isClause_any (n : Int) (la : Option Addr) (lc : Nat) (ls : List Lt) (w : World) (hls : LitsAt w la ls) :
    Calls Try.prog 78 #[.slice la ls.length lc, .int .i64 n] w fun e w' => e = .returned (.bool (clauseB n ls)) ∧ Below w.heap.size w w' := by
  by_cases h6 : ls.length ≤ 6
  · go_enter Try.func78, Try.ntmps78
    go_wp2_with fail
    go_loopg [12] ls.length (fun g v wr => ∃ k : Nat, g = ls.length - k ∧ k ≤ ls.length ∧ v = .int .i64 k ∧ Hid (∀ t, t < k → litOk n (ls.getD t lt0) = true) ∧ Below w.heap.size w wr)
    case atStart => exact ⟨0, by omega, Nat.zero_le _, rfl, (fun t h => by omega), Below.refl _ _⟩
    case round =>
      obtain ⟨k, rfl, hk, rfl, Hk, hb⟩ := hrel
      by_cases hlt : k < ls.length
      · obtain ⟨lb, lo, rfl, lcell⟩ := (hls.below hb).get hlt
        obtain ⟨l1, l2, l3⟩ := lcell k hlt
        have hst : litOk n (ls.getD k lt0) = (belowB (ls.getD k lt0).x n && belowB (ls.getD k lt0).y n) := rfl
        generalize (ls.getD k lt0).x = vx at *
        generalize (ls.getD k lt0).y = vy at *
        generalize (ls.getD k lt0).n = vn at *
        have Hst := hide hst
        clear hst lcell
        cases hx : belowB vx n
        · go_wp2_with (go_at_call 60; refine (isBelow_any _ _ _).mono ?_; rintro e w' ⟨rfl, rfl⟩)
          go_ret
          exact ⟨ret_bool (by rw [clauseB_no k hlt (by rw [Hst.out, hx]; rfl)]), hb.alloc hb.size _⟩
        · cases hy : belowB vy n
          · go_wp2_with (go_at_call 60; refine (isBelow_any _ _ _).mono ?_; rintro e w' ⟨rfl, rfl⟩)
            go_ret
            exact ⟨ret_bool (by rw [clauseB_no k hlt (by rw [Hst.out, hx, hy]; rfl)]), hb.alloc hb.size _⟩
          · go_wp2_with (go_at_call 60; refine (isBelow_any _ _ _).mono ?_; rintro e w' ⟨rfl, rfl⟩)
            go_roundg (ls.length - (k + 1))
            case measure => omega
            case rel => exact ⟨k + 1, rfl, by omega, by go_num, upto_succ Hk.out (by rw [Hst.out, hx, hy]; rfl), hb.alloc hb.size _⟩
      · go_wp2_with fail
        go_ret
        exact ⟨ret_bool (by rw [clauseB_yes h6 (fun t ht => Hk.out t (by omega))]), hb⟩
  · go_enter Try.func78, Try.ntmps78
    go_wp2_with fail
    go_ret
    exact ⟨ret_bool (by simp [clauseB, h6]), Below.refl _ _⟩

/-- valid.Clauses -/
def clausesB (n : Int) (cs : List Cl) : Bool := decide (cs.length ≤ 16) && allB cs.length fun k => clauseB n (cs.getD k cl0).ls

theorem clausesB_no {n : Int} {cs : List Cl} (k : Nat) (hk : k < cs.length) (h : clauseB n (cs.getD k cl0).ls = false) : clausesB n cs = false := by
  unfold clausesB
  rw [show (allB cs.length fun k => clauseB n (cs.getD k cl0).ls) = false from allB_no k hk h]
  simp

theorem clausesB_yes {n : Int} {cs : List Cl} (h2 : cs.length ≤ 16) (h : ∀ k, k < cs.length → clauseB n (cs.getD k cl0).ls = true) : clausesB n cs = true := by
  unfold clausesB
  rw [show (allB cs.length fun k => clauseB n (cs.getD k cl0).ls) = true from allB_yes h]
  simp [h2]

set_option maxHeartbeats 400000 in
theorem clauses_any (n : Int) (sa : Option Addr) (sc : Nat) (cs : List Cl) (w : World) (hcs : ClausesAt w sa cs) :
    Calls Try.prog 59 #[.slice sa cs.length sc, .int .i64 n] w fun e w' => e = .returned (.bool (clausesB n cs)) ∧ Below w.heap.size w w' := by
  by_cases h16 : cs.length ≤ 16
  · go_enter Try.func59, Try.ntmps59
    go_wp2_with fail
    go_loopg [12] cs.length (fun g v wr => ∃ k : Nat, g = cs.length - k ∧ k ≤ cs.length ∧ v = .int .i64 k ∧ Hid (∀ t, t < k → clauseB n (cs.getD t cl0).ls = true) ∧ Below w.heap.size w wr)
    case atStart => exact ⟨0, by omega, Nat.zero_le _, rfl, (fun t h => by omega), Below.refl _ _⟩
    case round =>
      obtain ⟨k, rfl, hk, rfl, Hk, hb⟩ := hrel
      by_cases hlt : k < cs.length
      · obtain ⟨sb, so, rfl, scell⟩ := (hcs.below hb).get hlt
        obtain ⟨s1, s2⟩ := scell k hlt
        generalize hq : cs.getD k cl0 = q at *
        obtain ⟨qa, qc, ql⟩ := q
        have Hq := hide hq
        clear hq scell
        simp only at s1 s2
        go_wp2_with (go_at_call 78; refine (isClause_any n qa qc ql _ s2).mono ?_; rintro e w' ⟨rfl, hb2⟩)
        · rename_i _ hh
          go_ret
          exact ⟨ret_bool (by rw [clausesB_no k hlt (by rw [Hq.out]; simpa using hh)]), hb.trans (hb2.mono hb.size)⟩
        · rename_i _ hh
          go_roundg (cs.length - (k + 1))
          case measure => omega
          case rel => exact ⟨k + 1, rfl, by omega, by go_num, upto_succ Hk.out (by rw [Hq.out]; simpa using hh), hb.trans (hb2.mono hb.size)⟩
      · go_wp2_with fail
        go_ret
        exact ⟨ret_bool (by rw [clausesB_yes h16 (fun t ht => Hk.out t (by omega))]), hb⟩
  · go_enter Try.func59, Try.ntmps59
    go_wp2_with fail
    go_ret
    exact ⟨ret_bool (by simp [clausesB, h16]), Below.refl _ _⟩

/-- equalproof.refuse -/
def refuseI (ts : List Tm) (cs : List Cl) : Int := if termsB ts then if clausesB ts.length cs then 0 else 3 else 1

theorem ret_int {a b : Int} (h : a = b) : Ending.returned (.int .i64 a) = .returned (.int .i64 b) := by rw [h]

set_option maxHeartbeats 400000 in
theorem refuse_any (ta sa : Option Addr) (tc sc : Nat) (ts : List Tm) (cs : List Cl) (w : World) (ht : TermsAt w ta ts) (hcs : ClausesAt w sa cs) :
    Calls Try.prog 35 #[.agg #[.slice ta ts.length tc, .slice sa cs.length sc]] w fun e w' => e = .returned (.int .i64 (refuseI ts cs)) ∧ Below w.heap.size w w' := by
  have hb0 : Below w.heap.size w (w.alloc (.cells #[.slice ta ts.length tc, .slice sa cs.length sc] 33)) := (Below.refl _ _).alloc (Nat.le_refl _) _
  have ht' := ht.below hb0
  have hcs' := hcs.below hb0
  cases h1 : termsB ts
  · go_enter Try.func35, Try.ntmps35
    go_wp2_with (go_at_call 49; refine (terms_any ta tc ts _ ht').mono ?_; rintro e w' ⟨rfl, hb⟩)
    go_ret
    exact ⟨ret_int (by simp [refuseI, h1]), hb0.trans (hb.mono (by simp))⟩
  · go_enter Try.func35, Try.ntmps35
    go_wp2_with (go_at_call 49; refine (terms_any ta tc ts _ ht').mono ?_; rintro e w' ⟨rfl, hb⟩; have q1 : w'.cell? ⟨w.heap.size, 0, none⟩ = some (.slice ta ts.length tc) := cell_below hb (by simp); have q2 : w'.cell? ⟨w.heap.size, 1, none⟩ = some (.slice sa cs.length sc) := cell_below hb (by simp); have hcs2 := hcs'.below hb)
    refine (clauses_any _ sa sc cs _ hcs2).mono ?_
    rintro e w2 ⟨rfl, hb2⟩
    have hb3 : Below w.heap.size w w2 := (hb0.trans (hb.mono (by simp))).trans (hb2.mono (by have := hb.size; simp at this; omega))
    cases h2 : clausesB ts.length cs
    · go_wp2_with fail
      go_ret
      exact ⟨ret_int (by simp [refuseI, h1, h2]), hb3⟩
    · go_wp2_with fail
      go_ret
      exact ⟨ret_int (by simp [refuseI, h1, h2]), hb3⟩
end Go.Proofs.Ytjebhhoibofmfaa
