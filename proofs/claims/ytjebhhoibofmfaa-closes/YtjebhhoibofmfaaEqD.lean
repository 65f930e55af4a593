import Derived.Test.YtjebhhoibofmfaaEqC
namespace Go.Proofs.Ytjebhhoibofmfaa
open Go.RowKit

def soundB (ts : List Tm) (c : List Int) : Bool := allB ts.length fun i => allB i fun j => !forcedB ts c i j

theorem soundB_yes {ts : List Tm} {c : List Int} (h : ∀ i j, j < i → i < ts.length → forcedB ts c i j = false) : soundB ts c = true :=
  allB_yes fun i hi => allB_yes fun j hj => by rw [h i j hj hi]; rfl

theorem soundB_no {ts : List Tm} {c : List Int} {i j : Nat} (hj : j < i) (hi : i < ts.length) (h : forcedB ts c i j = true) : soundB ts c = false :=
  allB_no i hi (allB_no j hj (by rw [h]; rfl))

set_option maxHeartbeats 400000 in
theorem eqSound_any (ta ca : Option Addr) (tc cc : Nat) (ts : List Tm) (c : List Int) (w : World) (ht : TermsAt w ta ts) (hc : IntsAt w ca c)
    (hl : ts.length ≤ c.length) (h9 : ts.length ≤ 9) (hin : ArgsIn ts c.length) :
    Calls Try.prog 37 #[.slice ta ts.length tc, .slice ca c.length cc] w fun e w' => e = .returned (.bool (soundB ts c)) ∧ Below w.heap.size w w' := by
  have Hin := hide hin
  clear hin
  go_enter Try.func37, Try.ntmps37
  go_wp2_with (go_at_call 61; refine (findForced_any ta ca tc cc ts c _ ht hc hl h9 Hin.out).mono ?_; rintro e w' ⟨i, j, f, rfl, h1, h2, hb⟩)
  go_ret
  refine ⟨ret_bool ?_, hb⟩
  cases f
  · rw [soundB_yes (h2 rfl)]; rfl
  · obtain ⟨k1, k2, k3⟩ := h1 rfl
    rw [soundB_no k1 k2 k3]; rfl

def litB (c : List Int) (l : Lt) : Bool := eqB c l.x l.y != l.n
def holdsB (c : List Int) (ls : List Lt) : Bool := anyB ls.length fun t => litB c (ls.getD t lt0)
def allHoldB (c : List Int) (cs : List Cl) : Bool := allB cs.length fun t => holdsB c (cs.getD t cl0).ls
def LitsIn (ls : List Lt) (n : Nat) : Prop := ls.length ≤ 6 ∧ ∀ t, t < ls.length → (0 ≤ (ls.getD t lt0).x ∧ (ls.getD t lt0).x < (n : Int)) ∧ 0 ≤ (ls.getD t lt0).y ∧ (ls.getD t lt0).y < (n : Int)

set_option maxHeartbeats 400000 in
theorem holds_any (la ca : Option Addr) (lc cc : Nat) (ls : List Lt) (c : List Int) (w : World) (hls : LitsAt w la ls) (hc : IntsAt w ca c) (hin : LitsIn ls c.length) :
    Calls Try.prog 62 #[.slice la ls.length lc, .slice ca c.length cc] w fun e w' => e = .returned (.bool (holdsB c ls)) ∧ Below w.heap.size w w' := by
  have Hin := hide hin
  have h6 := hin.1
  clear hin
  go_enter Try.func62, Try.ntmps62
  go_wp2_with fail
  go_loopg [9] ls.length (fun g s wr => ∃ k : Nat, g = ls.length - k ∧ k ≤ ls.length ∧ s = .int .i64 k ∧ Hid (∀ t, t < k → litB c (ls.getD t lt0) = false) ∧ Below w.heap.size w wr)
  case atStart => exact ⟨0, by omega, Nat.zero_le _, rfl, (fun t h => by omega), Below.refl _ _⟩
  case round =>
    obtain ⟨k, rfl, hk, rfl, Hk, hb⟩ := hrel
    by_cases hlt : k < ls.length
    · obtain ⟨lb, lo, rfl, lcell⟩ := (hls.below hb).get hlt
      obtain ⟨l1, l2, l3⟩ := lcell k hlt
      obtain ⟨⟨bx0, bx⟩, by0, bY⟩ := Hin.out.2 k hlt
      obtain ⟨nx, hnx⟩ := Int.eq_ofNat_of_zero_le bx0
      obtain ⟨ny, hny⟩ := Int.eq_ofNat_of_zero_le by0
      obtain ⟨cb, co, rfl, ccell⟩ := (hc.below hb).get (i := nx) (by omega)
      have c1 := ccell nx (by omega)
      have c2 := ccell ny (by omega)
      have hst : litB c (ls.getD k lt0) = (decide (c.getD nx 0 = c.getD ny 0) != (ls.getD k lt0).n) := by simp only [litB, eqB, cls, hnx, hny, Int.toNat_natCast]
      rw [hnx] at l1 bx
      rw [hny] at l2 bY
      generalize c.getD nx 0 = vx at *
      generalize c.getD ny 0 = vy at *
      generalize (ls.getD k lt0).n = nt at *
      have Hst := hide hst
      clear hst ccell lcell bx0 by0 hnx hny
      have hcb := block_lt c1
      by_cases he : vx = vy
      · have hb1 : (vx == vy) = true := by simp [he]
        have He := hide he
        clear he
        cases nt
        · go_wp2_with fail
          go_quiet (fail)
          go_wp2_with fail
          go_ret
          exact ⟨ret_bool (by rw [holdsB, anyB_yes k hlt (by rw [Hst.out]; simp [He.out])]), below_drewN (hb.alloc hb.size _) _⟩
        · go_wp2_with fail
          go_quiet (fail)
          go_wp2_with fail
          go_roundg (ls.length - (k + 1))
          case measure => omega
          case rel => exact ⟨k + 1, rfl, by omega, by go_num, upto_succ Hk.out (by rw [Hst.out]; simp [He.out]), below_drewN (hb.alloc hb.size _) _⟩
      · have hb1 : (vx == vy) = false := by simp [he]
        have He := hide he
        clear he
        cases nt
        · go_wp2_with fail
          go_quiet (fail)
          go_wp2_with fail
          go_roundg (ls.length - (k + 1))
          case measure => omega
          case rel => exact ⟨k + 1, rfl, by omega, by go_num, upto_succ Hk.out (by rw [Hst.out]; simp [He.out]), below_drewN (hb.alloc hb.size _) _⟩
        · go_wp2_with fail
          go_quiet (fail)
          go_wp2_with fail
          go_ret
          exact ⟨ret_bool (by rw [holdsB, anyB_yes k hlt (by rw [Hst.out]; simp [He.out])]), below_drewN (hb.alloc hb.size _) _⟩
    · go_wp2_with fail
      go_ret
      exact ⟨ret_bool (by rw [holdsB, anyB_no (fun t ht => Hk.out t (by omega))]), hb⟩

def ClausesIn (cs : List Cl) (n : Nat) : Prop := cs.length ≤ 16 ∧ ∀ t, t < cs.length → LitsIn (cs.getD t cl0).ls n

set_option maxHeartbeats 400000 in
theorem allHold_any (sa ca : Option Addr) (sc cc : Nat) (cs : List Cl) (c : List Int) (w : World) (hcs : ClausesAt w sa cs) (hc : IntsAt w ca c) (hin : ClausesIn cs c.length) :
    Calls Try.prog 38 #[.slice sa cs.length sc, .slice ca c.length cc] w fun e w' => e = .returned (.bool (allHoldB c cs)) ∧ Below w.heap.size w w' := by
  have Hin := hide hin
  have h16 := hin.1
  clear hin
  go_enter Try.func38, Try.ntmps38
  go_wp2_with fail
  go_loopg [9] cs.length (fun g s wr => ∃ k : Nat, g = cs.length - k ∧ k ≤ cs.length ∧ s = .int .i64 k ∧ Hid (∀ t, t < k → holdsB c (cs.getD t cl0).ls = true) ∧ Below w.heap.size w wr)
  case atStart => exact ⟨0, by omega, Nat.zero_le _, rfl, (fun t h => by omega), Below.refl _ _⟩
  case round =>
    obtain ⟨k, rfl, hk, rfl, Hk, hb⟩ := hrel
    by_cases hlt : k < cs.length
    · obtain ⟨sb, so, rfl, scell⟩ := (hcs.below hb).get hlt
      obtain ⟨s1, s2⟩ := scell k hlt
      have hi := Hin.out.2 k hlt
      have hc' := hc.below hb
      generalize hq : cs.getD k cl0 = q at *
      obtain ⟨qa, qc, ql⟩ := q
      have Hq := hide hq
      have Hi := hide hi
      clear hq scell hi
      simp only at s1 s2
      go_wp2_with (go_at_call 62; refine (holds_any qa ca qc cc ql c _ s2 hc' Hi.out).mono ?_; rintro e w' ⟨rfl, hb2⟩)
      · rename_i hh
        have hn : holdsB c ql = false := by simpa using hh
        go_ret
        exact ⟨ret_bool (by rw [allHoldB, allB_no k hlt (by rw [Hq.out]; exact hn)]), hb.trans (hb2.mono hb.size)⟩
      · rename_i hh
        have hn : holdsB c ql = true := by simpa using hh
        go_roundg (cs.length - (k + 1))
        case measure => omega
        case rel => exact ⟨k + 1, rfl, by omega, by go_num, upto_succ Hk.out (by rw [Hq.out]; exact hn), hb.trans (hb2.mono hb.size)⟩
    · go_wp2_with fail
      go_ret
      exact ⟨ret_bool (by rw [allHoldB, allB_yes (fun t ht => Hk.out t (by omega))]), hb⟩
end Go.Proofs.Ytjebhhoibofmfaa
