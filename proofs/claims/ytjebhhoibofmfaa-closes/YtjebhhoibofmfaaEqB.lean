import Derived.Test.YtjebhhoibofmfaaEqA
import Derived.Deep.DeepCutAuto
import Derived.Deep.CutRange
import Derived.Deep.LoopGhost
import Derived.WalkSmall
namespace Go.Proofs.Ytjebhhoibofmfaa
open Go.RowKit

/-- The class of the number x. -/
def cls (c : List Int) (x : Int) : Int := c.getD x.toNat 0
def eqB (c : List Int) (x y : Int) : Bool := decide (cls c x = cls c y)

/-- The args of two terms are equal, one by one, in classes c. -/
def argsEq (c xl yl : List Int) : Bool := allB xl.length fun t => eqB c (xl.getD t 0) (yl.getD t 0)

def mustB (ts : List Tm) (c : List Int) (i j : Nat) : Bool :=
  alikeB (ts.getD i tm0).sym (ts.getD j tm0).sym (ts.getD i tm0).args.length (ts.getD j tm0).args.length && argsEq c (ts.getD i tm0).args (ts.getD j tm0).args

/-- All args are numbers of the classes' list. -/
def ArgsIn (ts : List Tm) (n : Nat) : Prop := ∀ i, i < ts.length → (ts.getD i tm0).args.length ≤ 2 ∧ ∀ k, k < (ts.getD i tm0).args.length → 0 ≤ (ts.getD i tm0).args.getD k 0 ∧ (ts.getD i tm0).args.getD k 0 < (n : Int)

set_option maxHeartbeats 400000 in
theorem must_any (ta ca : Option Addr) (tc cc : Nat) (ts : List Tm) (c : List Int) (i j : Nat) (w : World) (ht : TermsAt w ta ts) (hc : IntsAt w ca c)
    (hi : i < ts.length) (hj : j < ts.length) (hin : ArgsIn ts c.length) :
    Calls Try.prog 79 #[.slice ta ts.length tc, .slice ca c.length cc, .int .i64 i, .int .i64 j] w fun e w' => e = .returned (.bool (mustB ts c i j)) ∧ Below w.heap.size w w' := by
  obtain ⟨tb, tf, rfl, hq⟩ := ht.get hi
  have hti := hq i hi
  have htj := hq j hj
  obtain ⟨h1, h2, h3⟩ := hti
  obtain ⟨g1, g2, g3⟩ := htj
  generalize hx : ts.getD i tm0 = x at *
  generalize hy : ts.getD j tm0 = y at *
  obtain ⟨xs, xa, xc, xl⟩ := x
  obtain ⟨ys, ya, yc, yl⟩ := y
  simp only at h1 h2 h3 g1 g2 g3
  have Hin : Hid (ArgsIn ts c.length) := hin
  have Hm : Hid (mustB ts c i j = (alikeB xs ys xl.length yl.length && argsEq c xl yl)) := by show mustB ts c i j = _; unfold mustB; rw [hx, hy]
  have hix : ∀ k, k < xl.length → 0 ≤ xl.getD k 0 ∧ xl.getD k 0 < (c.length : Int) := by have := (hin i hi).2; rw [hx] at this; exact this
  have hiy : ∀ k, k < yl.length → 0 ≤ yl.getD k 0 ∧ yl.getD k 0 < (c.length : Int) := by have := (hin j hj).2; rw [hy] at this; exact this
  have hx2 : xl.length ≤ 2 := by have := (hin i hi).1; rw [hx] at this; exact this
  have Hix := hide hix
  have Hiy := hide hiy
  have Hx : Hid (ts.getD i tm0 = ⟨xs, xa, xc, xl⟩) := hx
  have Hy : Hid (ts.getD j tm0 = ⟨ys, ya, yc, yl⟩) := hy
  clear hq hin hx hy hix hiy
  go_enter Try.func79, Try.ntmps79
  go_upto_region 1 with fail
  go_cut [20] (fun t wx => t = .bool (!alikeB xs ys xl.length yl.length) ∧ Below w.heap.size w wx)
  case first =>
    go_region_with (go_at_call 101; refine (alike_any _ _ _ _ _ _ _ _ _).mono ?_; rintro e w' ⟨rfl, hb⟩)
    all_goals (go_wp2_with fail; go_meet; exact ⟨rfl, (Below.refl _ _).drew.trans hb⟩)
  case rest =>
    obtain ⟨rfl, hb⟩ := hcut
    cases hal : alikeB xs ys xl.length yl.length
    · go_wp2_with fail
      go_ret
      exact ⟨ret_bool (by rw [Hm.out, hal]; rfl), hb⟩
    · have h2' : wc.cell? ⟨tb, tf + i * 2 + 1, none⟩ = some (Value.slice xa xl.length xc) := by rw [hb.cell (p := ⟨tb, tf + i * 2 + 1, none⟩) (block_lt h2)]; exact h2
      have g2' : wc.cell? ⟨tb, tf + j * 2 + 1, none⟩ = some (Value.slice ya yl.length yc) := by rw [hb.cell (p := ⟨tb, tf + j * 2 + 1, none⟩) (block_lt g2)]; exact g2
      have h3' := h3.below hb
      have g3' := g3.below hb
      have hc' := hc.below hb
      have Hal := hide hal
      have Hll : Hid (xl.length = yl.length) := by simp [alikeB] at hal; exact hal.2
      clear h1 h2 h3 g1 g2 g3 hc ht hal
      go_wp2_with fail
      go_loopw [27] (fun s wr => ∃ k : Nat, k ≤ xl.length ∧ s = .int .i64 k ∧ Hid (∀ t, t < k → eqB c (xl.getD t 0) (yl.getD t 0) = true) ∧ ∃ n, wr = wc.drewN n) (fun s _ => xl.length - (intOf s).toNat)
      case atStart => exact ⟨0, Nat.zero_le _, rfl, (fun t ht => by omega), 0, rfl⟩
      case round =>
        obtain ⟨k, hk, rfl, Hk, n, rfl⟩ := hrel
        by_cases hlt : k < xl.length
        · obtain ⟨xb, xo, rfl, xcell⟩ := h3'.get hlt
          have hly : k < yl.length := by have := Hll.out; omega
          obtain ⟨yb, yo, rfl, ycell⟩ := g3'.get hly
          obtain ⟨nx, hnx⟩ := Int.eq_ofNat_of_zero_le (Hix.out k hlt).1
          obtain ⟨ny, hny⟩ := Int.eq_ofNat_of_zero_le (Hiy.out k hly).1
          have bx := (Hix.out k hlt).2
          have bY := (Hiy.out k hly).2
          rw [hnx] at bx
          rw [hny] at bY
          obtain ⟨cb, co, rfl, ccell⟩ := hc'.get (i := nx) (by omega)
          have x1 := xcell k hlt
          have y1 := ycell k hly
          have cx := ccell nx (by omega)
          have cy := ccell ny (by omega)
          rw [hnx] at x1
          rw [hny] at y1
          have hst : eqB c (xl.getD k 0) (yl.getD k 0) = decide (c.getD nx 0 = c.getD ny 0) := by simp only [eqB, cls, hnx, hny, Int.toNat_natCast]
          generalize c.getD nx 0 = vx at *
          generalize c.getD ny 0 = vy at *
          have Hst := hide hst
          have Hh3 := hide h3'
          have Hg3 := hide g3'
          clear h3' g3' xcell ycell ccell hnx hny hst
          by_cases he : vx = vy
          · have hb1 : (vx != vy) = false := by simp [he]
            have He := hide he
            clear he
            go_wp2_with fail
            go_quiet (fail)
            go_wp2_with fail
            go_roundw
            case rel => exact ⟨k + 1, by omega, by go_num, upto_succ Hk.out (by rw [Hst.out]; simp [He.out]), _, rfl⟩
            case measure => simp [intOf]; omega
          · have hb1 : (vx != vy) = true := by simp [he]
            have He := hide he
            clear he
            go_wp2_with fail
            go_quiet (fail)
            go_wp2_with fail
            go_ret
            exact ⟨ret_bool (by rw [Hm.out, Hal.out, argsEq, allB_no k hlt (by rw [Hst.out]; simp [He.out])]; rfl), below_drewN (below_drewN hb _) _⟩
        · go_wp2_with fail
          go_ret
          exact ⟨ret_bool (by rw [Hm.out, Hal.out, argsEq, allB_yes (fun t ht => Hk.out t (by omega))]; rfl), below_drewN hb _⟩
end Go.Proofs.Ytjebhhoibofmfaa
