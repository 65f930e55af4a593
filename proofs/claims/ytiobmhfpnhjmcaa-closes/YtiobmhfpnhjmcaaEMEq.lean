import Derived.WalkKit
import Derived.BigQuiet
import Derived.Deep.QuietTactic
import Derived.Test.YtiobmhfpnhjmcaaProg
import Derived.Deep.RegionWith
import Derived.Deep.DeepCutAuto
import Derived.Deep.CutRange
import Derived.Deep.LoopGhost
import Derived.WalkSmall
namespace Go.Proofs.Ytiobmhfpnhjmcaa
open Go.RowKit
theorem hide {p : Prop} (h : p) : Hid p := h
def allB (n : Nat) (p : Nat → Bool) : Bool := (List.range n).all p
def anyB (n : Nat) (p : Nat → Bool) : Bool := (List.range n).any p
theorem allB_iff {n : Nat} {p : Nat → Bool} : allB n p = true ↔ ∀ t, t < n → p t = true := by simp [allB, List.all_eq_true]
theorem anyB_iff {n : Nat} {p : Nat → Bool} : anyB n p = true ↔ ∃ t, t < n ∧ p t = true := by simp [anyB, List.any_eq_true]
theorem allB_yes {n : Nat} {p : Nat → Bool} (h : ∀ t, t < n → p t = true) : allB n p = true := allB_iff.2 h
theorem allB_no {n : Nat} {p : Nat → Bool} (t : Nat) (ht : t < n) (h : p t = false) : allB n p = false := by
  cases hh : allB n p
  · rfl
  · have := allB_iff.1 hh t ht; rw [h] at this; cases this
theorem anyB_yes {n : Nat} {p : Nat → Bool} (t : Nat) (ht : t < n) (h : p t = true) : anyB n p = true := anyB_iff.2 ⟨t, ht, h⟩
theorem anyB_no {n : Nat} {p : Nat → Bool} (h : ∀ t, t < n → p t = false) : anyB n p = false := by
  cases hh : anyB n p
  · rfl
  · obtain ⟨t, ht, h1⟩ := anyB_iff.1 hh; rw [h t ht] at h1; cases h1
theorem upto_succ {k : Nat} {p : Nat → Prop} (h : ∀ t, t < k → p t) (hk : p k) : ∀ t, t < k + 1 → p t := by
  intro t ht
  rcases Nat.lt_succ_iff_lt_or_eq.1 ht with h1 | h1
  · exact h t h1
  · rw [h1]; exact hk
structure Tm where
  sym : Int
  a : Option Addr
  cap : Nat
  args : List Int
def tm0 : Tm := ⟨0, none, 0, []⟩
def IntsAt (w : World) (a : Option Addr) (xs : List Int) : Prop :=
  xs = [] ∨ ∃ b o, a = some ⟨b, o, none⟩ ∧ ∀ i, i < xs.length → w.cell? ⟨b, o + i, none⟩ = some (.int .i64 (xs.getD i 0))
def TermsAt (w : World) (a : Option Addr) (ts : List Tm) : Prop :=
  ts = [] ∨ ∃ b o, a = some ⟨b, o, none⟩ ∧ ∀ i, i < ts.length →
    w.cell? ⟨b, o + i * 2, none⟩ = some (.int .i64 (ts.getD i tm0).sym) ∧
    w.cell? ⟨b, o + i * 2 + 1, none⟩ = some (.slice (ts.getD i tm0).a (ts.getD i tm0).args.length (ts.getD i tm0).cap) ∧
    IntsAt w (ts.getD i tm0).a (ts.getD i tm0).args
theorem block_lt {w : World} {b o : Nat} {v : Value} (h : w.cell? ⟨b, o, none⟩ = some v) : b < w.heap.size := World.block_lt_of_cell? w ⟨b, o, none⟩ h
theorem IntsAt.below {w w' : World} {a : Option Addr} {xs : List Int} (h : IntsAt w a xs) (hb : Below w.heap.size w w') : IntsAt w' a xs := by
  rcases h with h | ⟨b, o, rfl, h⟩
  · exact .inl h
  · refine .inr ⟨b, o, rfl, fun i hi => ?_⟩
    have hc := h i hi
    rw [hb.cell (p := ⟨b, o + i, none⟩) (block_lt hc)]
    exact hc
theorem TermsAt.below {w w' : World} {a : Option Addr} {ts : List Tm} (h : TermsAt w a ts) (hb : Below w.heap.size w w') : TermsAt w' a ts := by
  rcases h with h | ⟨b, o, rfl, h⟩
  · exact .inl h
  · refine .inr ⟨b, o, rfl, fun i hi => ?_⟩
    obtain ⟨h1, h2, h3⟩ := h i hi
    refine ⟨?_, ?_, h3.below hb⟩
    · rw [hb.cell (p := ⟨b, o + i * 2, none⟩) (block_lt h1)]; exact h1
    · rw [hb.cell (p := ⟨b, o + i * 2 + 1, none⟩) (block_lt h2)]; exact h2
theorem IntsAt.get {w : World} {a : Option Addr} {xs : List Int} (h : IntsAt w a xs) {i : Nat} (hi : i < xs.length) :
    ∃ b o, a = some ⟨b, o, none⟩ ∧ ∀ i, i < xs.length → w.cell? ⟨b, o + i, none⟩ = some (.int .i64 (xs.getD i 0)) := by
  rcases h with h | h
  · subst h; simp at hi
  · exact h
theorem TermsAt.get {w : World} {a : Option Addr} {ts : List Tm} (h : TermsAt w a ts) {i : Nat} (hi : i < ts.length) :
    ∃ b o, a = some ⟨b, o, none⟩ ∧ ∀ i, i < ts.length →
    w.cell? ⟨b, o + i * 2, none⟩ = some (.int .i64 (ts.getD i tm0).sym) ∧
    w.cell? ⟨b, o + i * 2 + 1, none⟩ = some (.slice (ts.getD i tm0).a (ts.getD i tm0).args.length (ts.getD i tm0).cap) ∧
    IntsAt w (ts.getD i tm0).a (ts.getD i tm0).args := by
  rcases h with h | h
  · subst h; simp at hi
  · exact h
structure Lt where
  x : Int
  y : Int
  n : Bool
def lt0 : Lt := ⟨0, 0, false⟩
structure Cl where
  a : Option Addr
  cap : Nat
  ls : List Lt
def cl0 : Cl := ⟨none, 0, []⟩
def LitsAt (w : World) (a : Option Addr) (ls : List Lt) : Prop :=
  ls = [] ∨ ∃ b o, a = some ⟨b, o, none⟩ ∧ ∀ i, i < ls.length →
    w.cell? ⟨b, o + i * 3, none⟩ = some (.int .i64 (ls.getD i lt0).x) ∧ w.cell? ⟨b, o + i * 3 + 1, none⟩ = some (.int .i64 (ls.getD i lt0).y) ∧ w.cell? ⟨b, o + i * 3 + 2, none⟩ = some (.bool (ls.getD i lt0).n)
def ClausesAt (w : World) (a : Option Addr) (cs : List Cl) : Prop :=
  cs = [] ∨ ∃ b o, a = some ⟨b, o, none⟩ ∧ ∀ i, i < cs.length →
    w.cell? ⟨b, o + i, none⟩ = some (.slice (cs.getD i cl0).a (cs.getD i cl0).ls.length (cs.getD i cl0).cap) ∧ LitsAt w (cs.getD i cl0).a (cs.getD i cl0).ls
theorem cell_below {w w' : World} {b o : Nat} {v : Value} (hb : Below w.heap.size w w') (h : w.cell? ⟨b, o, none⟩ = some v) : w'.cell? ⟨b, o, none⟩ = some v := by
  rw [hb.cell (p := ⟨b, o, none⟩) (block_lt h)]; exact h
theorem LitsAt.below {w w' : World} {a : Option Addr} {ls : List Lt} (h : LitsAt w a ls) (hb : Below w.heap.size w w') : LitsAt w' a ls := by
  rcases h with h | ⟨b, o, rfl, h⟩
  · exact .inl h
  · refine .inr ⟨b, o, rfl, fun i hi => ?_⟩
    obtain ⟨h1, h2, h3⟩ := h i hi
    exact ⟨cell_below hb h1, cell_below hb h2, cell_below hb h3⟩
theorem ClausesAt.below {w w' : World} {a : Option Addr} {cs : List Cl} (h : ClausesAt w a cs) (hb : Below w.heap.size w w') : ClausesAt w' a cs := by
  rcases h with h | ⟨b, o, rfl, h⟩
  · exact .inl h
  · refine .inr ⟨b, o, rfl, fun i hi => ?_⟩
    obtain ⟨h1, h2⟩ := h i hi
    exact ⟨cell_below hb h1, h2.below hb⟩
theorem LitsAt.get {w : World} {a : Option Addr} {ls : List Lt} (h : LitsAt w a ls) {i : Nat} (hi : i < ls.length) :
    ∃ b o, a = some ⟨b, o, none⟩ ∧ ∀ i, i < ls.length →
    w.cell? ⟨b, o + i * 3, none⟩ = some (.int .i64 (ls.getD i lt0).x) ∧ w.cell? ⟨b, o + i * 3 + 1, none⟩ = some (.int .i64 (ls.getD i lt0).y) ∧ w.cell? ⟨b, o + i * 3 + 2, none⟩ = some (.bool (ls.getD i lt0).n) := by
  rcases h with h | h
  · subst h; simp at hi
  · exact h
theorem ClausesAt.get {w : World} {a : Option Addr} {cs : List Cl} (h : ClausesAt w a cs) {i : Nat} (hi : i < cs.length) :
    ∃ b o, a = some ⟨b, o, none⟩ ∧ ∀ i, i < cs.length →
    w.cell? ⟨b, o + i, none⟩ = some (.slice (cs.getD i cl0).a (cs.getD i cl0).ls.length (cs.getD i cl0).cap) ∧ LitsAt w (cs.getD i cl0).a (cs.getD i cl0).ls := by
  rcases h with h | h
  · subst h; simp at hi
  · exact h
structure Up (w : World) where
  world : World
  above : Below w.heap.size w world
theorem Up.cell {w : World} (u : Up w) {b o : Nat} {v : Value} (h : w.cell? ⟨b, o, none⟩ = some v) : u.world.cell? ⟨b, o, none⟩ = some v := by
  rw [u.above.cell (p := ⟨b, o, none⟩) (block_lt h)]; exact h
theorem wp_region_up {P : Program} {id : Nat} {Q : Exit → Act → World → Prop} {a : Act} {w : World} {l : List Oper} (hm : P.follows .mixedOrders = true) (hB : Region.lexB .any l.toArray = true)
    (h : wpQuiet P l.toArray (fun w' => ∃ u : Up w, w' = u.world) (fun a' => ∀ w', (∃ u : Up w, w' = u.world) → Q .normal a' w') l a) : (Code.region id l.toArray true).wp P Q a w :=
  wp_region_quiet (C := fun w' => ∃ u : Up w, w' = u.world) hm hB ⟨⟨w.drew, (Below.refl _ _).drew⟩, rfl⟩ (by simpa using h)
theorem calls_up {P : Program} {f : FuncId} {args : Array Value} {w : World} {u : Up w} {v : Value}
    (h : Calls P f args u.world fun e w' => e = .returned v ∧ Below u.world.heap.size u.world w') : Calls P f args u.world fun e w'' => e = .returned v ∧ ∃ u' : Up w, w'' = u'.world :=
  h.mono fun _ w' ⟨he, hb⟩ => ⟨he, ⟨w', u.above.trans (hb.mono u.above.size)⟩, rfl⟩
end Go.Proofs.Ytiobmhfpnhjmcaa
namespace Go.Proofs.Ytiobmhfpnhjmcaa
open Go.RowKit
theorem ret_bool {a b : Bool} (h : a = b) : Ending.returned (.bool a) = .returned (.bool b) := by rw [h]
def belowB (x n : Int) : Bool := decide (0 ≤ x) && decide (x < n)
set_option maxHeartbeats 400000 in
theorem isBelow_any (x n : Int) (w : World) :
    Calls Try.prog 41 #[.int .i64 x, .int .i64 n] w fun e w' => e = .returned (.bool (belowB x n)) ∧ w' = w := by
  by_cases h : 0 ≤ x
  · go_enter Try.func41, Try.ntmps41
    go_wp2
    go_ret
    exact ⟨by simp [belowB, h], rfl⟩
  · go_enter Try.func41, Try.ntmps41
    go_wp2
    go_ret
    exact ⟨by simp [belowB]; omega, rfl⟩
def alikeB (s1 s2 : Int) (l1 l2 : Nat) : Bool := decide (s1 = s2) && decide (l1 = l2)
set_option maxHeartbeats 400000 in
theorem alike_any (s1 s2 : Int) (a1 a2 : Option Addr) (l1 l2 c1 c2 : Nat) (w : World) :
    Calls Try.prog 55 #[.agg #[.int .i64 s1, .slice a1 l1 c1], .agg #[.int .i64 s2, .slice a2 l2 c2]] w fun e w' => e = .returned (.bool (alikeB s1 s2 l1 l2)) ∧ Below w.heap.size w w' := by
  by_cases h : s1 = s2
  · have hb : (s1 == s2) = true := by simp [h]
    go_enter Try.func55, Try.ntmps55
    go_wp2
    go_ret
    exact ⟨ret_bool (by rw [Bool.eq_iff_iff]; simp [alikeB, h]; try omega), ((Below.refl _ _).alloc (Nat.le_refl _) _).alloc (by simp) _⟩
  · have hb : (s1 == s2) = false := by simp [h]
    go_enter Try.func55, Try.ntmps55
    go_wp2
    go_ret
    exact ⟨ret_bool (by rw [Bool.eq_iff_iff]; simp [alikeB, h]), ((Below.refl _ _).alloc (Nat.le_refl _) _).alloc (by simp) _⟩
end Go.Proofs.Ytiobmhfpnhjmcaa
namespace Go.Proofs.Ytiobmhfpnhjmcaa
open Go.RowKit
def cls (c : List Int) (x : Int) : Int := c.getD x.toNat 0
def eqB (c : List Int) (x y : Int) : Bool := decide (cls c x = cls c y)
def argsEq (c xl yl : List Int) : Bool := allB xl.length fun t => eqB c (xl.getD t 0) (yl.getD t 0)
def mustB (ts : List Tm) (c : List Int) (i j : Nat) : Bool :=
  alikeB (ts.getD i tm0).sym (ts.getD j tm0).sym (ts.getD i tm0).args.length (ts.getD j tm0).args.length && argsEq c (ts.getD i tm0).args (ts.getD j tm0).args
def ArgsIn (ts : List Tm) (n : Nat) : Prop := ∀ i, i < ts.length → (ts.getD i tm0).args.length ≤ 2 ∧ ∀ k, k < (ts.getD i tm0).args.length → 0 ≤ (ts.getD i tm0).args.getD k 0 ∧ (ts.getD i tm0).args.getD k 0 < (n : Int)
set_option maxHeartbeats 400000 in
theorem must_any (ta ca : Option Addr) (tc cc : Nat) (ts : List Tm) (c : List Int) (i j : Nat) (w : World) (ht : TermsAt w ta ts) (hc : IntsAt w ca c)
    (hi : i < ts.length) (hj : j < ts.length) (hin : ArgsIn ts c.length) :
    Calls Try.prog 53 #[.slice ta ts.length tc, .slice ca c.length cc, .int .i64 i, .int .i64 j] w fun e w' => e = .returned (.bool (mustB ts c i j)) ∧ Below w.heap.size w w' := by
  obtain ⟨tb, tf, rfl, hq⟩ := ht.get hi
  have hti := hq i hi
  have htj := hq j hj
  obtain ⟨h1, h2, h3⟩ := hti
  obtain ⟨g1, g2, g3⟩ := htj
  generalize hx : ts.getD i tm0 = x at *
  generalize hy : ts.getD j tm0 = y at *
  obtain ⟨xs, xa, xc, xl⟩ := x
  obtain ⟨ys, ya, yc, yl⟩ := y
  simp only at h1 h2 h3 g1 g2 g3
  have Hin : Hid (ArgsIn ts c.length) := hin
  have Hm : Hid (mustB ts c i j = (alikeB xs ys xl.length yl.length && argsEq c xl yl)) := by show mustB ts c i j = _; unfold mustB; rw [hx, hy]
  have hix : ∀ k, k < xl.length → 0 ≤ xl.getD k 0 ∧ xl.getD k 0 < (c.length : Int) := by have := (hin i hi).2; rw [hx] at this; exact this
  have hiy : ∀ k, k < yl.length → 0 ≤ yl.getD k 0 ∧ yl.getD k 0 < (c.length : Int) := by have := (hin j hj).2; rw [hy] at this; exact this
  have hx2 : xl.length ≤ 2 := by have := (hin i hi).1; rw [hx] at this; exact this
  have Hix := hide hix
  have Hiy := hide hiy
  have Hx : Hid (ts.getD i tm0 = ⟨xs, xa, xc, xl⟩) := hx
  have Hy : Hid (ts.getD j tm0 = ⟨ys, ya, yc, yl⟩) := hy
  clear hq hin hx hy hix hiy
  go_enter Try.func53, Try.ntmps53
  go_upto_region 1 with fail
  go_cut [20] (fun t wx => t = .bool (!alikeB xs ys xl.length yl.length) ∧ Below w.heap.size w wx)
  case first =>
    go_region_with (go_at_call 55; refine (alike_any _ _ _ _ _ _ _ _ _).mono ?_; rintro e w' ⟨rfl, hb⟩)
    all_goals (go_wp2_with fail; go_meet; exact ⟨rfl, (Below.refl _ _).drew.trans hb⟩)
  case rest =>
    obtain ⟨rfl, hb⟩ := hcut
    cases hal : alikeB xs ys xl.length yl.length
    · go_wp2_with fail
      go_ret
      exact ⟨ret_bool (by rw [Hm.out, hal]; rfl), hb⟩
    · have h2' : wc.cell? ⟨tb, tf + i * 2 + 1, none⟩ = some (Value.slice xa xl.length xc) := by rw [hb.cell (p := ⟨tb, tf + i * 2 + 1, none⟩) (block_lt h2)]; exact h2
      have g2' : wc.cell? ⟨tb, tf + j * 2 + 1, none⟩ = some (Value.slice ya yl.length yc) := by rw [hb.cell (p := ⟨tb, tf + j * 2 + 1, none⟩) (block_lt g2)]; exact g2
      have h3' := h3.below hb
      have g3' := g3.below hb
      have hc' := hc.below hb
      have Hal := hide hal
      have Hll : Hid (xl.length = yl.length) := by simp [alikeB] at hal; exact hal.2
      clear h1 h2 h3 g1 g2 g3 hc ht hal
      go_wp2_with fail
      go_loopw [27] (fun s wr => ∃ k : Nat, k ≤ xl.length ∧ s = .int .i64 k ∧ Hid (∀ t, t < k → eqB c (xl.getD t 0) (yl.getD t 0) = true) ∧ ∃ n, wr = wc.drewN n) (fun s _ => xl.length - (intOf s).toNat)
      case atStart => exact ⟨0, Nat.zero_le _, rfl, (fun t ht => by omega), 0, rfl⟩
      case round =>
        obtain ⟨k, hk, rfl, Hk, n, rfl⟩ := hrel
        by_cases hlt : k < xl.length
        · obtain ⟨xb, xo, rfl, xcell⟩ := h3'.get hlt
          have hly : k < yl.length := by have := Hll.out; omega
          obtain ⟨yb, yo, rfl, ycell⟩ := g3'.get hly
          obtain ⟨nx, hnx⟩ := Int.eq_ofNat_of_zero_le (Hix.out k hlt).1
          obtain ⟨ny, hny⟩ := Int.eq_ofNat_of_zero_le (Hiy.out k hly).1
          have bx := (Hix.out k hlt).2
          have bY := (Hiy.out k hly).2
          rw [hnx] at bx
          rw [hny] at bY
          obtain ⟨cb, co, rfl, ccell⟩ := hc'.get (i := nx) (by omega)
          have x1 := xcell k hlt
          have y1 := ycell k hly
          have cx := ccell nx (by omega)
          have cy := ccell ny (by omega)
          rw [hnx] at x1
          rw [hny] at y1
          have hst : eqB c (xl.getD k 0) (yl.getD k 0) = decide (c.getD nx 0 = c.getD ny 0) := by simp only [eqB, cls, hnx, hny, Int.toNat_natCast]
          generalize c.getD nx 0 = vx at *
          generalize c.getD ny 0 = vy at *
          have Hst := hide hst
          have Hh3 := hide h3'
          have Hg3 := hide g3'
          clear h3' g3' xcell ycell ccell hnx hny hst
          by_cases he : vx = vy
          · have hb1 : (vx != vy) = false := by simp [he]
            have He := hide he
            clear he
            go_wp2_with fail
            go_quiet (fail)
            go_wp2_with fail
            go_roundw
            case rel => exact ⟨k + 1, by omega, by go_num, upto_succ Hk.out (by rw [Hst.out]; simp [He.out]), _, rfl⟩
            case measure => simp [intOf]; omega
          · have hb1 : (vx != vy) = true := by simp [he]
            have He := hide he
            clear he
            go_wp2_with fail
            go_quiet (fail)
            go_wp2_with fail
            go_ret
            exact ⟨ret_bool (by rw [Hm.out, Hal.out, argsEq, allB_no k hlt (by rw [Hst.out]; simp [He.out])]; rfl), below_drewN (below_drewN hb _) _⟩
        · go_wp2_with fail
          go_ret
          exact ⟨ret_bool (by rw [Hm.out, Hal.out, argsEq, allB_yes (fun t ht => Hk.out t (by omega))]; rfl), below_drewN hb _⟩
end Go.Proofs.Ytiobmhfpnhjmcaa
namespace Go.Proofs.Ytiobmhfpnhjmcaa
open Go.RowKit
def forcedB (ts : List Tm) (c : List Int) (i j : Nat) : Bool := !decide (c.getD i 0 = c.getD j 0) && mustB ts c i j
set_option maxHeartbeats 800000 in
theorem findForced_any (ta ca : Option Addr) (tc cc : Nat) (ts : List Tm) (c : List Int) (w : World) (ht : TermsAt w ta ts) (hc : IntsAt w ca c)
    (hl : ts.length ≤ c.length) (h9 : ts.length ≤ 9) (hin : ArgsIn ts c.length) :
    Calls Try.prog 42 #[.slice ta ts.length tc, .slice ca c.length cc] w fun e w' => ∃ (i j : Nat) (f : Bool), e = .returned (.tuple #[.int .i64 i, .int .i64 j, .bool f]) ∧
      (f = true → j < i ∧ i < ts.length ∧ forcedB ts c i j = true) ∧ (f = false → ∀ i j, j < i → i < ts.length → forcedB ts c i j = false) ∧ Below w.heap.size w w' := by
  have Hin := hide hin
  clear hin
  go_enter Try.func42, Try.ntmps42
  go_wp2_with fail
  go_loopg [11] ts.length (fun g s wr => ∃ i : Nat, g = ts.length - i ∧ i ≤ ts.length ∧ s = .int .i64 i ∧ Hid (∀ x y, y < x → x < i → forcedB ts c x y = false) ∧ Below w.heap.size w wr)
  case atStart => exact ⟨0, by omega, Nat.zero_le _, rfl, (fun x y _ h => by omega), Below.refl _ _⟩
  case round =>
    obtain ⟨i, rfl, hi, rfl, Hi, hb⟩ := hrel
    by_cases hlt : i < ts.length
    · go_wp2_with fail
      go_loopg [15] i (fun g s wr => ∃ j : Nat, g = i - j ∧ j ≤ i ∧ s = .int .i64 j ∧ Hid (∀ y, y < j → forcedB ts c i y = false) ∧ Below w.heap.size w wr)
      case atStart => exact ⟨0, by omega, Nat.zero_le _, rfl, (fun y h => by omega), hb⟩
      case round =>
        obtain ⟨j, rfl, hj, rfl, Hj, hb2⟩ := hrel
        by_cases hjt : j < i
        · obtain ⟨cb, co, rfl, ccell⟩ := (hc.below hb2).get (i := i) (by omega)
          have c1 := ccell i (by omega)
          have c2 := ccell j (by omega)
          have ht' := ht.below hb2
          have hc' := hc.below hb2
          have hst : forcedB ts c i j = (!decide (c.getD i 0 = c.getD j 0) && mustB ts c i j) := rfl
          generalize c.getD i 0 = vi at *
          generalize c.getD j 0 = vj at *
          have Hst := hide hst
          clear ccell hst
          by_cases he : vi = vj
          · have hb1 : (vi != vj) = false := by simp [he]
            have He := hide he
            clear he
            go_upto_region 7 with fail
            go_quiet (fail)
            go_wp2_with fail
            go_roundg (i - (j + 1))
            case measure => omega
            case rel => exact ⟨j + 1, rfl, by omega, by go_num, upto_succ Hj.out (by rw [Hst.out]; simp [He.out]), below_drewN hb2 _⟩
          · have hb1 : (vi != vj) = true := by simp [he]
            have He := hide he
            clear he
            have hne : Nonempty (Up wr) := ⟨⟨wr, Below.refl _ _⟩⟩
            have d1 : ∀ u : Up wr, u.world.cell? ⟨cb, co + i, none⟩ = some (.int .i64 vi) := fun u => u.cell c1
            have d2 : ∀ u : Up wr, u.world.cell? ⟨cb, co + j, none⟩ = some (.int .i64 vj) := fun u => u.cell c2
            go_upto_region 7 with fail
            refine wp_region_up (by kernel_rfl) (by kernel_rfl) ?_
            repeat (go_big_quiet_step ((go_at_call 53; exact calls_up (must_any ta _ tc cc ts c i j _ (ht'.below (Up.above _)) (hc'.below (Up.above _)) (by omega) (by omega) Hin.out))))
            refine wpQuiet_nil ?_
            intro _ hw'
            obtain ⟨nq, hw''⟩ := hw'
            subst hw''
            have hb3 := hb2.trans (nq.above.mono hb2.size)
            have hf' : forcedB ts c i j = mustB ts c i j := by rw [Hst.out]; simp [He.out]
            have Hf := hide hf'
            clear d1 d2 hf' hne
            cases hf : mustB ts c i j
            · go_wp2_with fail
              go_roundg (i - (j + 1))
              case measure => omega
              case rel => exact ⟨j + 1, rfl, by omega, by go_num, upto_succ Hj.out (by rw [Hf.out, hf]), hb3⟩
            · go_wp2_with fail
              go_ret3
              exact ⟨i, j, true, rfl, fun _ => ⟨hjt, hlt, by rw [Hf.out, hf]⟩, (fun h => by cases h), hb3⟩
        · go_wp2_with fail
          go_roundg (ts.length - (i + 1))
          case measure => omega
          case rel => exact ⟨i + 1, rfl, by omega, by go_num, (fun x y h1 h2 => by
            rcases Nat.lt_succ_iff_lt_or_eq.1 h2 with h3 | h3
            · exact Hi.out x y h1 h3
            · subst h3; exact Hj.out y (by omega)), hb2⟩
    · go_wp2_with fail
      go_ret3
      exact ⟨0, 0, false, rfl, (fun h => by cases h), (fun _ x y h1 h2 => Hi.out x y h1 (by omega)), hb⟩
end Go.Proofs.Ytiobmhfpnhjmcaa
namespace Go.Proofs.Ytiobmhfpnhjmcaa
open Go.RowKit
def soundB (ts : List Tm) (c : List Int) : Bool := allB ts.length fun i => allB i fun j => !forcedB ts c i j
theorem soundB_yes {ts : List Tm} {c : List Int} (h : ∀ i j, j < i → i < ts.length → forcedB ts c i j = false) : soundB ts c = true :=
  allB_yes fun i hi => allB_yes fun j hj => by rw [h i j hj hi]; rfl
theorem soundB_no {ts : List Tm} {c : List Int} {i j : Nat} (hj : j < i) (hi : i < ts.length) (h : forcedB ts c i j = true) : soundB ts c = false :=
  allB_no i hi (allB_no j hj (by rw [h]; rfl))
set_option maxHeartbeats 400000 in
theorem eqSound_any (ta ca : Option Addr) (tc cc : Nat) (ts : List Tm) (c : List Int) (w : World) (ht : TermsAt w ta ts) (hc : IntsAt w ca c)
    (hl : ts.length ≤ c.length) (h9 : ts.length ≤ 9) (hin : ArgsIn ts c.length) :
    Calls Try.prog 28 #[.slice ta ts.length tc, .slice ca c.length cc] w fun e w' => e = .returned (.bool (soundB ts c)) ∧ Below w.heap.size w w' := by
  have Hin := hide hin
  clear hin
  go_enter Try.func28, Try.ntmps28
  go_wp2_with (go_at_call 42; refine (findForced_any ta ca tc cc ts c _ ht hc hl h9 Hin.out).mono ?_; rintro e w' ⟨i, j, f, rfl, h1, h2, hb⟩)
  go_ret
  refine ⟨ret_bool ?_, hb⟩
  cases f
  · rw [soundB_yes (h2 rfl)]; rfl
  · obtain ⟨k1, k2, k3⟩ := h1 rfl
    rw [soundB_no k1 k2 k3]; rfl
def litB (c : List Int) (l : Lt) : Bool := eqB c l.x l.y != l.n
def holdsB (c : List Int) (ls : List Lt) : Bool := anyB ls.length fun t => litB c (ls.getD t lt0)
def allHoldB (c : List Int) (cs : List Cl) : Bool := allB cs.length fun t => holdsB c (cs.getD t cl0).ls
def LitsIn (ls : List Lt) (n : Nat) : Prop := ls.length ≤ 6 ∧ ∀ t, t < ls.length → (0 ≤ (ls.getD t lt0).x ∧ (ls.getD t lt0).x < (n : Int)) ∧ 0 ≤ (ls.getD t lt0).y ∧ (ls.getD t lt0).y < (n : Int)
set_option maxHeartbeats 400000 in
theorem holds_any (la ca : Option Addr) (lc cc : Nat) (ls : List Lt) (c : List Int) (w : World) (hls : LitsAt w la ls) (hc : IntsAt w ca c) (hin : LitsIn ls c.length) :
    Calls Try.prog 43 #[.slice la ls.length lc, .slice ca c.length cc] w fun e w' => e = .returned (.bool (holdsB c ls)) ∧ Below w.heap.size w w' := by
  have Hin := hide hin
  have h6 := hin.1
  clear hin
  go_enter Try.func43, Try.ntmps43
  go_wp2_with fail
  go_loopg [9] ls.length (fun g s wr => ∃ k : Nat, g = ls.length - k ∧ k ≤ ls.length ∧ s = .int .i64 k ∧ Hid (∀ t, t < k → litB c (ls.getD t lt0) = false) ∧ Below w.heap.size w wr)
  case atStart => exact ⟨0, by omega, Nat.zero_le _, rfl, (fun t h => by omega), Below.refl _ _⟩
  case round =>
    obtain ⟨k, rfl, hk, rfl, Hk, hb⟩ := hrel
    by_cases hlt : k < ls.length
    · obtain ⟨lb, lo, rfl, lcell⟩ := (hls.below hb).get hlt
      obtain ⟨l1, l2, l3⟩ := lcell k hlt
      obtain ⟨⟨bx0, bx⟩, by0, bY⟩ := Hin.out.2 k hlt
      obtain ⟨nx, hnx⟩ := Int.eq_ofNat_of_zero_le bx0
      obtain ⟨ny, hny⟩ := Int.eq_ofNat_of_zero_le by0
      obtain ⟨cb, co, rfl, ccell⟩ := (hc.below hb).get (i := nx) (by omega)
      have c1 := ccell nx (by omega)
      have c2 := ccell ny (by omega)
      have hst : litB c (ls.getD k lt0) = (decide (c.getD nx 0 = c.getD ny 0) != (ls.getD k lt0).n) := by simp only [litB, eqB, cls, hnx, hny, Int.toNat_natCast]
      rw [hnx] at l1 bx
      rw [hny] at l2 bY
      generalize c.getD nx 0 = vx at *
      generalize c.getD ny 0 = vy at *
      generalize (ls.getD k lt0).n = nt at *
      have Hst := hide hst
      clear hst ccell lcell bx0 by0 hnx hny
      have hcb := block_lt c1
      by_cases he : vx = vy
      · have hb1 : (vx == vy) = true := by simp [he]
        have He := hide he
        clear he
        cases nt
        · go_wp2_with fail
          go_quiet (fail)
          go_wp2_with fail
          go_ret
          exact ⟨ret_bool (by rw [holdsB, anyB_yes k hlt (by rw [Hst.out]; simp [He.out])]), below_drewN (hb.alloc hb.size _) _⟩
        · go_wp2_with fail
          go_quiet (fail)
          go_wp2_with fail
          go_roundg (ls.length - (k + 1))
          case measure => omega
          case rel => exact ⟨k + 1, rfl, by omega, by go_num, upto_succ Hk.out (by rw [Hst.out]; simp [He.out]), below_drewN (hb.alloc hb.size _) _⟩
      · have hb1 : (vx == vy) = false := by simp [he]
        have He := hide he
        clear he
        cases nt
        · go_wp2_with fail
          go_quiet (fail)
          go_wp2_with fail
          go_roundg (ls.length - (k + 1))
          case measure => omega
          case rel => exact ⟨k + 1, rfl, by omega, by go_num, upto_succ Hk.out (by rw [Hst.out]; simp [He.out]), below_drewN (hb.alloc hb.size _) _⟩
        · go_wp2_with fail
          go_quiet (fail)
          go_wp2_with fail
          go_ret
          exact ⟨ret_bool (by rw [holdsB, anyB_yes k hlt (by rw [Hst.out]; simp [He.out])]), below_drewN (hb.alloc hb.size _) _⟩
    · go_wp2_with fail
      go_ret
      exact ⟨ret_bool (by rw [holdsB, anyB_no (fun t ht => Hk.out t (by omega))]), hb⟩
def ClausesIn (cs : List Cl) (n : Nat) : Prop := cs.length ≤ 16 ∧ ∀ t, t < cs.length → LitsIn (cs.getD t cl0).ls n
set_option maxHeartbeats 400000 in
theorem allHold_any (sa ca : Option Addr) (sc cc : Nat) (cs : List Cl) (c : List Int) (w : World) (hcs : ClausesAt w sa cs) (hc : IntsAt w ca c) (hin : ClausesIn cs c.length) :
    Calls Try.prog 29 #[.slice sa cs.length sc, .slice ca c.length cc] w fun e w' => e = .returned (.bool (allHoldB c cs)) ∧ Below w.heap.size w w' := by
  have Hin := hide hin
  have h16 := hin.1
  clear hin
  go_enter Try.func29, Try.ntmps29
  go_wp2_with fail
  go_loopg [9] cs.length (fun g s wr => ∃ k : Nat, g = cs.length - k ∧ k ≤ cs.length ∧ s = .int .i64 k ∧ Hid (∀ t, t < k → holdsB c (cs.getD t cl0).ls = true) ∧ Below w.heap.size w wr)
  case atStart => exact ⟨0, by omega, Nat.zero_le _, rfl, (fun t h => by omega), Below.refl _ _⟩
  case round =>
    obtain ⟨k, rfl, hk, rfl, Hk, hb⟩ := hrel
    by_cases hlt : k < cs.length
    · obtain ⟨sb, so, rfl, scell⟩ := (hcs.below hb).get hlt
      obtain ⟨s1, s2⟩ := scell k hlt
      have hi := Hin.out.2 k hlt
      have hc' := hc.below hb
      generalize hq : cs.getD k cl0 = q at *
      obtain ⟨qa, qc, ql⟩ := q
      have Hq := hide hq
      have Hi := hide hi
      clear hq scell hi
      simp only at s1 s2
      go_wp2_with (go_at_call 43; refine (holds_any qa ca qc cc ql c _ s2 hc' Hi.out).mono ?_; rintro e w' ⟨rfl, hb2⟩)
      · rename_i hh
        have hn : holdsB c ql = false := by simpa using hh
        go_ret
        exact ⟨ret_bool (by rw [allHoldB, allB_no k hlt (by rw [Hq.out]; exact hn)]), hb.trans (hb2.mono hb.size)⟩
      · rename_i hh
        have hn : holdsB c ql = true := by simpa using hh
        go_roundg (cs.length - (k + 1))
        case measure => omega
        case rel => exact ⟨k + 1, rfl, by omega, by go_num, upto_succ Hk.out (by rw [Hq.out]; exact hn), hb.trans (hb2.mono hb.size)⟩
    · go_wp2_with fail
      go_ret
      exact ⟨ret_bool (by rw [allHoldB, allB_yes (fun t ht => Hk.out t (by omega))]), hb⟩
end Go.Proofs.Ytiobmhfpnhjmcaa
namespace Go.Proofs.Ytiobmhfpnhjmcaa
open Go.RowKit
def termB (n : Int) (t : Tm) : Bool := belowB t.sym 10 && decide (t.args.length ≤ 2) && allB t.args.length fun k => belowB (t.args.getD k 0) n
theorem termB_no {n s : Int} {a : Option Addr} {cap : Nat} {xs : List Int} (k : Nat) (hk : k < xs.length) (h : belowB (xs.getD k 0) n = false) : termB n ⟨s, a, cap, xs⟩ = false := by
  unfold termB
  rw [show (allB xs.length fun k => belowB (xs.getD k 0) n) = false from allB_no k hk h]
  simp
theorem termB_yes {n s : Int} {a : Option Addr} {cap : Nat} {xs : List Int} (h1 : belowB s 10 = true) (h2 : xs.length ≤ 2) (h : ∀ k, k < xs.length → belowB (xs.getD k 0) n = true) : termB n ⟨s, a, cap, xs⟩ = true := by
  unfold termB
  rw [show (allB xs.length fun k => belowB (xs.getD k 0) n) = true from allB_yes h]
  simp [h1, h2]
set_option maxHeartbeats 400000 in
theorem isTerm_any (s n : Int) (a : Option Addr) (cap : Nat) (xs : List Int) (w : World) (hx : IntsAt w a xs) :
    Calls Try.prog 47 #[.agg #[.int .i64 s, .slice a xs.length cap], .int .i64 n] w fun e w' => e = .returned (.bool (termB n ⟨s, a, cap, xs⟩)) ∧ Below w.heap.size w w' := by
  have hb0 : Below w.heap.size w (w.alloc (.cells #[.int .i64 s, .slice a xs.length cap] 61)) := (Below.refl _ _).alloc (Nat.le_refl _) _
  cases hs : belowB s 10
  · go_enter Try.func47, Try.ntmps47
    go_wp2_with (go_at_call 41; refine (isBelow_any _ _ _).mono ?_; rintro e w' ⟨rfl, rfl⟩)
    go_ret
    exact ⟨ret_bool (by simp [termB, hs]), hb0⟩
  · by_cases h2 : xs.length ≤ 2
    · go_enter Try.func47, Try.ntmps47
      go_wp2_with (go_at_call 41; refine (isBelow_any _ _ _).mono ?_; rintro e w' ⟨rfl, rfl⟩)
      go_loopg [20] xs.length (fun g v wr => ∃ k : Nat, g = xs.length - k ∧ k ≤ xs.length ∧ v = .int .i64 k ∧ Hid (∀ t, t < k → belowB (xs.getD t 0) n = true) ∧ Below w.heap.size w wr)
      case atStart => exact ⟨0, by omega, Nat.zero_le _, rfl, (fun t h => by omega), hb0⟩
      case round =>
        obtain ⟨k, rfl, hk, rfl, Hk, hb⟩ := hrel
        by_cases hlt : k < xs.length
        · obtain ⟨xb, xo, rfl, xcell⟩ := (hx.below hb).get hlt
          have x1 := xcell k hlt
          generalize hv : xs.getD k 0 = v at *
          have Hv := hide hv
          clear xcell hv
          go_wp2_with (go_at_call 41; refine (isBelow_any _ _ _).mono ?_; rintro e w' ⟨rfl, rfl⟩)
          · rename_i _ hh
            go_ret
            exact ⟨ret_bool (by rw [termB_no k hlt (by rw [Hv.out]; simpa using hh)]), hb⟩
          · rename_i _ hh
            go_roundg (xs.length - (k + 1))
            case measure => omega
            case rel => exact ⟨k + 1, rfl, by omega, by go_num, upto_succ Hk.out (by rw [Hv.out]; simpa using hh), hb⟩
        · go_wp2_with fail
          go_ret
          exact ⟨ret_bool (by rw [termB_yes hs h2 (fun t ht => Hk.out t (by omega))]), hb⟩
    · go_enter Try.func47, Try.ntmps47
      go_wp2_with (go_at_call 41; refine (isBelow_any _ _ _).mono ?_; rintro e w' ⟨rfl, rfl⟩)
      go_ret
      exact ⟨ret_bool (by simp [termB, h2]), hb0⟩
def termsB (ts : List Tm) : Bool := decide (1 ≤ ts.length) && decide (ts.length ≤ 9) && allB ts.length fun k => termB (k : Int) (ts.getD k tm0)
theorem termsB_no {ts : List Tm} (k : Nat) (hk : k < ts.length) (h : termB (k : Int) (ts.getD k tm0) = false) : termsB ts = false := by
  unfold termsB
  rw [show (allB ts.length fun k => termB (k : Int) (ts.getD k tm0)) = false from allB_no k hk h]
  simp
theorem termsB_yes {ts : List Tm} (h1 : 1 ≤ ts.length) (h2 : ts.length ≤ 9) (h : ∀ k, k < ts.length → termB (k : Int) (ts.getD k tm0) = true) : termsB ts = true := by
  unfold termsB
  rw [show (allB ts.length fun k => termB (k : Int) (ts.getD k tm0)) = true from allB_yes h]
  simp [h1, h2]
set_option maxHeartbeats 400000 in
theorem terms_any (ta : Option Addr) (tc : Nat) (ts : List Tm) (w : World) (ht : TermsAt w ta ts) :
    Calls Try.prog 33 #[.slice ta ts.length tc] w fun e w' => e = .returned (.bool (termsB ts)) ∧ Below w.heap.size w w' := by
  by_cases h1 : 1 ≤ ts.length
  · by_cases h9 : ts.length ≤ 9
    · go_enter Try.func33, Try.ntmps33
      go_wp2_with fail
      go_loopg [15] ts.length (fun g v wr => ∃ k : Nat, g = ts.length - k ∧ k ≤ ts.length ∧ v = .int .i64 k ∧ Hid (∀ t, t < k → termB (t : Int) (ts.getD t tm0) = true) ∧ Below w.heap.size w wr)
      case atStart => exact ⟨0, by omega, Nat.zero_le _, rfl, (fun t h => by omega), Below.refl _ _⟩
      case round =>
        obtain ⟨k, rfl, hk, rfl, Hk, hb⟩ := hrel
        by_cases hlt : k < ts.length
        · obtain ⟨tb, tf, rfl, tcell⟩ := (ht.below hb).get hlt
          obtain ⟨t1, t2, t3⟩ := tcell k hlt
          generalize hq : ts.getD k tm0 = q at *
          obtain ⟨qs, qa, qc, ql⟩ := q
          have Hq := hide hq
          clear hq tcell
          simp only at t1 t2 t3
          have t3' := t3.below ((Below.refl wr.heap.size wr).alloc (Nat.le_refl _) (.cells #[.int .i64 qs, .slice qa ql.length qc] 61))
          go_wp2_with (go_at_call 47; refine (isTerm_any qs k qa qc ql _ t3').mono ?_; rintro e w' ⟨rfl, hb2⟩)
          · rename_i _ _ hh
            go_ret
            exact ⟨ret_bool (by rw [termsB_no k hlt (by rw [Hq.out]; simpa using hh)]), (hb.alloc hb.size _).trans (hb2.mono (by have := hb.size; simp; omega))⟩
          · rename_i _ _ hh
            go_roundg (ts.length - (k + 1))
            case measure => omega
            case rel => exact ⟨k + 1, rfl, by omega, by go_num, upto_succ Hk.out (by rw [Hq.out]; simpa using hh), (hb.alloc hb.size _).trans (hb2.mono (by have := hb.size; simp; omega))⟩
        · go_wp2_with fail
          go_ret
          exact ⟨ret_bool (by rw [termsB_yes h1 h9 (fun t ht => Hk.out t (by omega))]), hb⟩
    · go_enter Try.func33, Try.ntmps33
      go_wp2_with fail
      go_ret
      exact ⟨ret_bool (by simp [termsB, h9]), Below.refl _ _⟩
  · go_enter Try.func33, Try.ntmps33
    go_wp2_with fail
    go_ret
    exact ⟨ret_bool (by simp [termsB, h1]), Below.refl _ _⟩
end Go.Proofs.Ytiobmhfpnhjmcaa
namespace Go.Proofs.Ytiobmhfpnhjmcaa
open Go.RowKit
def litOk (n : Int) (l : Lt) : Bool := belowB l.x n && belowB l.y n
def clauseB (n : Int) (ls : List Lt) : Bool := decide (ls.length ≤ 6) && allB ls.length fun k => litOk n (ls.getD k lt0)
theorem clauseB_no {n : Int} {ls : List Lt} (k : Nat) (hk : k < ls.length) (h : litOk n (ls.getD k lt0) = false) : clauseB n ls = false := by
  unfold clauseB
  rw [show (allB ls.length fun k => litOk n (ls.getD k lt0)) = false from allB_no k hk h]
  simp
theorem clauseB_yes {n : Int} {ls : List Lt} (h2 : ls.length ≤ 6) (h : ∀ k, k < ls.length → litOk n (ls.getD k lt0) = true) : clauseB n ls = true := by
  unfold clauseB
  rw [show (allB ls.length fun k => litOk n (ls.getD k lt0)) = true from allB_yes h]
  simp [h2]
set_option maxHeartbeats 400000 in
theorem isClause_any (n : Int) (la : Option Addr) (lc : Nat) (ls : List Lt) (w : World) (hls : LitsAt w la ls) :
    Calls Try.prog 52 #[.slice la ls.length lc, .int .i64 n] w fun e w' => e = .returned (.bool (clauseB n ls)) ∧ Below w.heap.size w w' := by
  by_cases h6 : ls.length ≤ 6
  · go_enter Try.func52, Try.ntmps52
    go_wp2_with fail
    go_loopg [12] ls.length (fun g v wr => ∃ k : Nat, g = ls.length - k ∧ k ≤ ls.length ∧ v = .int .i64 k ∧ Hid (∀ t, t < k → litOk n (ls.getD t lt0) = true) ∧ Below w.heap.size w wr)
    case atStart => exact ⟨0, by omega, Nat.zero_le _, rfl, (fun t h => by omega), Below.refl _ _⟩
    case round =>
      obtain ⟨k, rfl, hk, rfl, Hk, hb⟩ := hrel
      by_cases hlt : k < ls.length
      · obtain ⟨lb, lo, rfl, lcell⟩ := (hls.below hb).get hlt
        obtain ⟨l1, l2, l3⟩ := lcell k hlt
        have hst : litOk n (ls.getD k lt0) = (belowB (ls.getD k lt0).x n && belowB (ls.getD k lt0).y n) := rfl
        generalize (ls.getD k lt0).x = vx at *
        generalize (ls.getD k lt0).y = vy at *
        generalize (ls.getD k lt0).n = vn at *
        have Hst := hide hst
        clear hst lcell
        cases hx : belowB vx n
        · go_wp2_with (go_at_call 41; refine (isBelow_any _ _ _).mono ?_; rintro e w' ⟨rfl, rfl⟩)
          go_ret
          exact ⟨ret_bool (by rw [clauseB_no k hlt (by rw [Hst.out, hx]; rfl)]), hb.alloc hb.size _⟩
        · cases hy : belowB vy n
          · go_wp2_with (go_at_call 41; refine (isBelow_any _ _ _).mono ?_; rintro e w' ⟨rfl, rfl⟩)
            go_ret
            exact ⟨ret_bool (by rw [clauseB_no k hlt (by rw [Hst.out, hx, hy]; rfl)]), hb.alloc hb.size _⟩
          · go_wp2_with (go_at_call 41; refine (isBelow_any _ _ _).mono ?_; rintro e w' ⟨rfl, rfl⟩)
            go_roundg (ls.length - (k + 1))
            case measure => omega
            case rel => exact ⟨k + 1, rfl, by omega, by go_num, upto_succ Hk.out (by rw [Hst.out, hx, hy]; rfl), hb.alloc hb.size _⟩
      · go_wp2_with fail
        go_ret
        exact ⟨ret_bool (by rw [clauseB_yes h6 (fun t ht => Hk.out t (by omega))]), hb⟩
  · go_enter Try.func52, Try.ntmps52
    go_wp2_with fail
    go_ret
    exact ⟨ret_bool (by simp [clauseB, h6]), Below.refl _ _⟩
def clausesB (n : Int) (cs : List Cl) : Bool := decide (cs.length ≤ 16) && allB cs.length fun k => clauseB n (cs.getD k cl0).ls
theorem clausesB_no {n : Int} {cs : List Cl} (k : Nat) (hk : k < cs.length) (h : clauseB n (cs.getD k cl0).ls = false) : clausesB n cs = false := by
  unfold clausesB
  rw [show (allB cs.length fun k => clauseB n (cs.getD k cl0).ls) = false from allB_no k hk h]
  simp
theorem clausesB_yes {n : Int} {cs : List Cl} (h2 : cs.length ≤ 16) (h : ∀ k, k < cs.length → clauseB n (cs.getD k cl0).ls = true) : clausesB n cs = true := by
  unfold clausesB
  rw [show (allB cs.length fun k => clauseB n (cs.getD k cl0).ls) = true from allB_yes h]
  simp [h2]
set_option maxHeartbeats 400000 in
theorem clauses_any (n : Int) (sa : Option Addr) (sc : Nat) (cs : List Cl) (w : World) (hcs : ClausesAt w sa cs) :
    Calls Try.prog 40 #[.slice sa cs.length sc, .int .i64 n] w fun e w' => e = .returned (.bool (clausesB n cs)) ∧ Below w.heap.size w w' := by
  by_cases h16 : cs.length ≤ 16
  · go_enter Try.func40, Try.ntmps40
    go_wp2_with fail
    go_loopg [12] cs.length (fun g v wr => ∃ k : Nat, g = cs.length - k ∧ k ≤ cs.length ∧ v = .int .i64 k ∧ Hid (∀ t, t < k → clauseB n (cs.getD t cl0).ls = true) ∧ Below w.heap.size w wr)
    case atStart => exact ⟨0, by omega, Nat.zero_le _, rfl, (fun t h => by omega), Below.refl _ _⟩
    case round =>
      obtain ⟨k, rfl, hk, rfl, Hk, hb⟩ := hrel
      by_cases hlt : k < cs.length
      · obtain ⟨sb, so, rfl, scell⟩ := (hcs.below hb).get hlt
        obtain ⟨s1, s2⟩ := scell k hlt
        generalize hq : cs.getD k cl0 = q at *
        obtain ⟨qa, qc, ql⟩ := q
        have Hq := hide hq
        clear hq scell
        simp only at s1 s2
        go_wp2_with (go_at_call 52; refine (isClause_any n qa qc ql _ s2).mono ?_; rintro e w' ⟨rfl, hb2⟩)
        · rename_i _ hh
          go_ret
          exact ⟨ret_bool (by rw [clausesB_no k hlt (by rw [Hq.out]; simpa using hh)]), hb.trans (hb2.mono hb.size)⟩
        · rename_i _ hh
          go_roundg (cs.length - (k + 1))
          case measure => omega
          case rel => exact ⟨k + 1, rfl, by omega, by go_num, upto_succ Hk.out (by rw [Hq.out]; simpa using hh), hb.trans (hb2.mono hb.size)⟩
      · go_wp2_with fail
        go_ret
        exact ⟨ret_bool (by rw [clausesB_yes h16 (fun t ht => Hk.out t (by omega))]), hb⟩
  · go_enter Try.func40, Try.ntmps40
    go_wp2_with fail
    go_ret
    exact ⟨ret_bool (by simp [clausesB, h16]), Below.refl _ _⟩
def refuseI (ts : List Tm) (cs : List Cl) : Int := if termsB ts then if clausesB ts.length cs then 0 else 3 else 1
theorem ret_int {a b : Int} (h : a = b) : Ending.returned (.int .i64 a) = .returned (.int .i64 b) := by rw [h]
set_option maxHeartbeats 400000 in
theorem refuse_any (ta sa : Option Addr) (tc sc : Nat) (ts : List Tm) (cs : List Cl) (w : World) (ht : TermsAt w ta ts) (hcs : ClausesAt w sa cs) :
    Calls Try.prog 26 #[.agg #[.slice ta ts.length tc, .slice sa cs.length sc]] w fun e w' => e = .returned (.int .i64 (refuseI ts cs)) ∧ Below w.heap.size w w' := by
  have hb0 : Below w.heap.size w (w.alloc (.cells #[.slice ta ts.length tc, .slice sa cs.length sc] 33)) := (Below.refl _ _).alloc (Nat.le_refl _) _
  have ht' := ht.below hb0
  have hcs' := hcs.below hb0
  cases h1 : termsB ts
  · go_enter Try.func26, Try.ntmps26
    go_wp2_with (go_at_call 33; refine (terms_any ta tc ts _ ht').mono ?_; rintro e w' ⟨rfl, hb⟩)
    go_ret
    exact ⟨ret_int (by simp [refuseI, h1]), hb0.trans (hb.mono (by simp))⟩
  · go_enter Try.func26, Try.ntmps26
    go_wp2_with (go_at_call 33; refine (terms_any ta tc ts _ ht').mono ?_; rintro e w' ⟨rfl, hb⟩; have q1 : w'.cell? ⟨w.heap.size, 0, none⟩ = some (.slice ta ts.length tc) := cell_below hb (by simp); have q2 : w'.cell? ⟨w.heap.size, 1, none⟩ = some (.slice sa cs.length sc) := cell_below hb (by simp); have hcs2 := hcs'.below hb)
    refine (clauses_any _ sa sc cs _ hcs2).mono ?_
    rintro e w2 ⟨rfl, hb2⟩
    have hb3 : Below w.heap.size w w2 := (hb0.trans (hb.mono (by simp))).trans (hb2.mono (by have := hb.size; simp at this; omega))
    cases h2 : clausesB ts.length cs
    · go_wp2_with fail
      go_ret
      exact ⟨ret_int (by simp [refuseI, h1, h2]), hb3⟩
    · go_wp2_with fail
      go_ret
      exact ⟨ret_int (by simp [refuseI, h1, h2]), hb3⟩
end Go.Proofs.Ytiobmhfpnhjmcaa
namespace Go.Proofs.Ytiobmhfpnhjmcaa
open Go.RowKit
theorem belowB_iff {x n : Int} : belowB x n = true ↔ 0 ≤ x ∧ x < n := by simp [belowB]
theorem argsIn_of {ts : List Tm} (h : termsB ts = true) {n : Nat} (hn : ts.length ≤ n) : ArgsIn ts n := by
  intro i hi
  simp only [termsB, Bool.and_eq_true] at h
  have h1 := allB_iff.1 h.2 i hi
  generalize ts.getD i tm0 = q at *
  simp only [termB, Bool.and_eq_true, decide_eq_true_eq] at h1
  refine ⟨h1.1.2, fun k hk => ?_⟩
  have h2 := belowB_iff.1 (allB_iff.1 h1.2 k hk)
  exact ⟨h2.1, by omega⟩
theorem len_of {ts : List Tm} (h : termsB ts = true) : 1 ≤ ts.length ∧ ts.length ≤ 9 := by
  simp only [termsB, Bool.and_eq_true, decide_eq_true_eq] at h
  exact h.1
theorem clausesIn_of {cs : List Cl} {n : Nat} (h : clausesB n cs = true) : ClausesIn cs n := by
  simp only [clausesB, Bool.and_eq_true, decide_eq_true_eq] at h
  refine ⟨h.1, fun t ht => ?_⟩
  have h1 := allB_iff.1 h.2 t ht
  simp only [clauseB, Bool.and_eq_true, decide_eq_true_eq] at h1
  refine ⟨h1.1, fun k hk => ?_⟩
  have h2 := allB_iff.1 h1.2 k hk
  simp only [litOk, Bool.and_eq_true] at h2
  exact ⟨belowB_iff.1 h2.1, belowB_iff.1 h2.2⟩
def rgs : Int → List Int → Bool
  | _, [] => true
  | nx, x :: xs => belowB x (nx + 1) && rgs (if x = nx then nx + 1 else nx) xs
def classesB (c : List Int) (n : Int) : Bool := decide ((c.length : Int) = n) && rgs 0 c
theorem drop_get {c : List Int} {k : Nat} (h : k < c.length) : c.drop k = c.getD k 0 :: c.drop (k + 1) := by
  rw [List.drop_eq_getElem_cons h]; simp [h]
theorem rgs_no {c : List Int} {k : Nat} {nx : Int} (h : k < c.length) (hr : rgs 0 c = rgs nx (c.drop k)) (hb : belowB (c.getD k 0) (nx + 1) = false) : rgs 0 c = false := by
  rw [hr, drop_get h, rgs, hb]; rfl
theorem rgs_on {c : List Int} {k : Nat} {nx : Int} (h : k < c.length) (hr : rgs 0 c = rgs nx (c.drop k)) (hb : belowB (c.getD k 0) (nx + 1) = true) :
    rgs 0 c = rgs (if c.getD k 0 = nx then nx + 1 else nx) (c.drop (k + 1)) := by
  rw [hr, drop_get h, rgs, hb]; rfl
set_option maxHeartbeats 400000 in
theorem classes_any (ca : Option Addr) (cc : Nat) (c : List Int) (n : Int) (w : World) (hc : IntsAt w ca c) (hn : n ≤ 9) :
    Calls Try.prog 27 #[.slice ca c.length cc, .int .i64 n] w fun e w' => e = .returned (.bool (classesB c n)) ∧ w' = w := by
  by_cases hl : (c.length : Int) = n
  · have hb1 : ((c.length : Int) != n) = false := by simp [hl]
    have h9 : c.length ≤ 9 := by omega
    have Hl := hide hl
    clear hl
    go_enter Try.func27, Try.ntmps27
    go_wp2_with fail
    go_loopg [5, 14] c.length (fun g s v wr => ∃ k nx : Nat, g = c.length - k ∧ k ≤ c.length ∧ v = .int .i64 k ∧ s = .int .i64 nx ∧ nx ≤ k ∧ Hid (rgs 0 c = rgs nx (c.drop k)) ∧ wr = w)
    case atStart => exact ⟨0, 0, by omega, Nat.zero_le _, rfl, rfl, Nat.le_refl _, rfl, rfl⟩
    case round =>
      obtain ⟨k, nx, rfl, hk, rfl, rfl, hnk, Hr, rfl⟩ := hrel
      by_cases hlt : k < c.length
      · obtain ⟨cb, co, rfl, ccell⟩ := hc.get hlt
        have c1 := ccell k hlt
        generalize hv : c.getD k 0 = v at *
        have Hv := hide hv
        clear hv ccell
        cases hbl : belowB v (nx + 1)
        · go_wp2_with (go_at_call 41; refine (isBelow_any _ _ _).mono ?_; rintro e w' ⟨rfl, rfl⟩)
          go_ret
          exact ⟨ret_bool (by simp [classesB, rgs_no hlt Hr.out (by rw [Hv.out]; exact hbl)]), rfl⟩
        · by_cases he : v = nx
          · have hb2 : (v == (nx : Int)) = true := by simp [he]
            have He := hide he
            clear he
            go_wp2_with (go_at_call 41; refine (isBelow_any _ _ _).mono ?_; rintro e w' ⟨rfl, rfl⟩)
            go_roundg (c.length - (k + 1))
            case measure => omega
            case rel => exact ⟨k + 1, nx + 1, rfl, by omega, by go_num, by go_num, by omega, by have := rgs_on hlt Hr.out (by rw [Hv.out]; exact hbl); rw [Hv.out, if_pos He.out] at this; exact this, rfl⟩
          · have hb2 : (v == (nx : Int)) = false := by simp [he]
            have He := hide he
            clear he
            go_wp2_with (go_at_call 41; refine (isBelow_any _ _ _).mono ?_; rintro e w' ⟨rfl, rfl⟩)
            go_roundg (c.length - (k + 1))
            case measure => omega
            case rel => exact ⟨k + 1, nx, rfl, by omega, by go_num, rfl, by omega, by have := rgs_on hlt Hr.out (by rw [Hv.out]; exact hbl); rw [Hv.out, if_neg He.out] at this; exact this, rfl⟩
      · go_wp2_with fail
        go_ret
        exact ⟨ret_bool (by simp [classesB, Hl.out, Hr.out, List.drop_of_length_le (show c.length ≤ k by omega), rgs]), rfl⟩
  · have hb1 : ((c.length : Int) != n) = true := by simp [hl]
    go_enter Try.func27, Try.ntmps27
    go_wp2_with fail
    go_ret
    exact ⟨ret_bool (by simp [classesB, hl]), rfl⟩
end Go.Proofs.Ytiobmhfpnhjmcaa
namespace Go.Proofs.Ytiobmhfpnhjmcaa
open Go.RowKit
def trueB (ts : List Tm) (cs : List Cl) (c : List Int) : Bool := decide (refuseI ts cs = 0) && classesB c ts.length && soundB ts c && allHoldB c cs
def trueE (ts : List Tm) (cs : List Cl) (c : List Int) : Int := if refuseI ts cs = 0 then if classesB c ts.length then 0 else 2 else refuseI ts cs
theorem ret_bi {a b : Bool} {x y : Int} (h : a = b) (h' : x = y) : Ending.returned (.tuple #[.bool a, .int .i64 x]) = .returned (.tuple #[.bool b, .int .i64 y]) := by rw [h, h']
set_option maxHeartbeats 400000 in
theorem true_any (ta sa ca : Option Addr) (tc sc cc : Nat) (ts : List Tm) (cs : List Cl) (c : List Int) (w : World) (ht : TermsAt w ta ts) (hcs : ClausesAt w sa cs) (hc : IntsAt w ca c) :
    Calls Try.prog 10 #[.agg #[.slice ta ts.length tc, .slice sa cs.length sc], .slice ca c.length cc] w fun e w' =>
      e = .returned (.tuple #[.bool (trueB ts cs c), .int .i64 (trueE ts cs c)]) ∧ Below w.heap.size w w' := by
  have hb0 : Below w.heap.size w (w.alloc (.cells #[.slice ta ts.length tc, .slice sa cs.length sc] 33)) := (Below.refl _ _).alloc (Nat.le_refl _) _
  go_enter Try.func10, Try.ntmps10
  go_wp2_with fail
  refine (refuse_any ta sa tc sc ts cs _ (ht.below hb0) (hcs.below hb0)).mono ?_
  rintro e w1 ⟨rfl, hb⟩
  have q1 : w1.cell? ⟨w.heap.size, 0, none⟩ = some (.slice ta ts.length tc) := cell_below hb (by simp)
  have q2 : w1.cell? ⟨w.heap.size, 1, none⟩ = some (.slice sa cs.length sc) := cell_below hb (by simp)
  have hsz : w.heap.size + 1 ≤ w1.heap.size := by have := hb.size; simp at this; exact this
  have hb1 : Below w.heap.size w w1 := hb0.trans (hb.mono (by simp))
  clear hb hb0
  by_cases he : refuseI ts cs = 0
  · have hbe : (refuseI ts cs != 0) = false := by simp [he]
    have hts : termsB ts = true := by cases h : termsB ts; simp [refuseI, h] at he; rfl
    have hcl : clausesB ts.length cs = true := by cases h : clausesB ts.length cs; simp [refuseI, hts, h] at he; rfl
    have h9 := (len_of hts).2
    have He := hide he
    have Hts := hide hts
    have Hcl := hide hcl
    clear he hts hcl
    go_wp2_with fail
    refine (classes_any ca cc c ts.length _ (hc.below hb1) (by omega)).mono ?_
    rintro e w2 ⟨rfl, rfl⟩
    cases hk : classesB c ts.length
    · go_wp2_with fail
      go_ret2
      exact ⟨ret_bi (by simp [trueB, hk]) (by simp [trueE, hk, He.out]), hb1⟩
    · have hlen : c.length = ts.length := by simp [classesB] at hk; omega
      have Hlen := hide hlen
      have hl2 : ts.length ≤ c.length := by omega
      clear hlen
      go_wp2_with fail
      refine (eqSound_any ta ca tc cc ts c _ (ht.below hb1) (hc.below hb1) hl2 h9 (argsIn_of Hts.out hl2)).mono ?_
      rintro e w3 ⟨rfl, hb3⟩
      have q3 : w3.cell? ⟨w.heap.size, 1, none⟩ = some (.slice sa cs.length sc) := cell_below hb3 q2
      have hb4 : Below w.heap.size w w3 := hb1.trans (hb3.mono hb1.size)
      cases hsd : soundB ts c
      · go_wp2_with fail
        go_ret2
        exact ⟨ret_bi (by simp [trueB, hsd]) (by simp [trueE, hk, He.out]), hb4⟩
      · go_wp2_with fail
        refine (allHold_any sa ca sc cc cs c _ (hcs.below hb4) (hc.below hb4) (by rw [Hlen.out]; exact clausesIn_of Hcl.out)).mono ?_
        rintro e w5 ⟨rfl, hb5⟩
        go_wp2_with fail
        go_ret2
        exact ⟨ret_bi (by simp [trueB, hk, hsd, He.out]) (by simp [trueE, hk, He.out]), hb4.trans (hb5.mono hb4.size)⟩
  · have hbe : (refuseI ts cs != 0) = true := by simp [he]
    go_wp2_with fail
    go_ret2
    exact ⟨ret_bi (by simp [trueB, he]) (by simp [trueE, he]), hb1⟩
end Go.Proofs.Ytiobmhfpnhjmcaa
