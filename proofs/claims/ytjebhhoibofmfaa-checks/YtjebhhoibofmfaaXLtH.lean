import Derived.Test.YtjebhhoibofmfaaMLt
import Derived.Deep.RegionHeld3
namespace Go.Proofs.Ytjebhhoibofmfaa
open Go.RowKit

/-- A step. -/
structure St where
  r : Int
  a : Int
  b : Int
  c : Int
  d : Int

/-- The step's own box and the result's cell, the two first blocks of a call. -/
def Box (w : World) (B : Nat) (s : St) (W : World) : Prop :=
  W.cell? ⟨B, 0, none⟩ = some (.int .i64 s.r) ∧ W.cell? ⟨B, 1, none⟩ = some (.int .i64 s.a) ∧ W.cell? ⟨B, 2, none⟩ = some (.int .i64 s.b) ∧ W.cell? ⟨B, 3, none⟩ = some (.int .i64 s.c) ∧ W.cell? ⟨B, 4, none⟩ = some (.int .i64 s.d) ∧
  W.cell? ⟨B + 1, 0, none⟩ = some (.int .u64 0) ∧ W.cell? ⟨B + 1, 1, none⟩ = some (.int .u64 0) ∧ W.frozen? ⟨B + 1, 0, none⟩ = false ∧ W.frozen? ⟨B + 1, 1, none⟩ = false ∧ B + 1 + 1 ≤ W.heap.size ∧ Below B w W

theorem Box.new (w : World) (s : St) : Box w w.heap.size s ((w.alloc (.cells #[.int .i64 s.r, .int .i64 s.a, .int .i64 s.b, .int .i64 s.c, .int .i64 s.d] 62)).alloc (.cells #[.int .u64 0, .int .u64 0] 84)) := by
  refine ⟨?_, ?_, ?_, ?_, ?_, ?_, ?_, ?_, ?_, ?_, ((Below.refl _ _).alloc (Nat.le_refl _) _).alloc (by simp) _⟩ <;> simp

theorem Box.below {w W W' : World} {B : Nat} {s : St} (h : Box w B s W) (hb : Below W.heap.size W W') : Box w B s W' := by
  obtain ⟨h0, h1, h2, h3, h4, h5, h6, h7, h8, h9, h10⟩ := h
  exact ⟨cell_below hb h0, cell_below hb h1, cell_below hb h2, cell_below hb h3, cell_below hb h4, cell_below hb h5, cell_below hb h6, frozen_below hb (by omega) h7, frozen_below hb (by omega) h8, by have := hb.size; omega, h10.trans (hb.mono (by omega))⟩

theorem Box.drew {w W : World} {B : Nat} {s : St} (h : Box w B s W) : Box w B s W.drew := by
  obtain ⟨h0, h1, h2, h3, h4, h5, h6, h7, h8, h9, h10⟩ := h
  exact ⟨h0, h1, h2, h3, h4, h5, h6, h7, h8, h9, h10.drew⟩

theorem ret_sb {e a e' a' : Nat} {b b' : Bool} (h : e = e') (h' : a = a') (hb : b = b') : Ending.returned (.tuple #[.agg #[.int .u64 e, .int .u64 a], .bool b]) = .returned (.tuple #[.agg #[.int .u64 e', .int .u64 a'], .bool b']) := by rw [h, h', hb]

theorem ints_one {w : World} {g : Nat} {x : Int} (h : w.cell? ⟨g, 0, none⟩ = some (.int .i64 x)) : IntsAt w (some ⟨g, 0, none⟩) [x] :=
  .inr ⟨g, 0, rfl, fun i hi => by
    have : i = 0 := by simp at hi; exact hi
    subst this; exact h⟩
theorem ints_two {w : World} {g : Nat} {x y : Int} (h : w.cell? ⟨g, 0, none⟩ = some (.int .i64 x)) (h' : w.cell? ⟨g, 1, none⟩ = some (.int .i64 y)) : IntsAt w (some ⟨g, 0, none⟩) [x, y] :=
  .inr ⟨g, 0, rfl, fun i hi => by
    have : i = 0 ∨ i = 1 := by simp at hi; omega
    rcases this with rfl | rfl
    · exact h
    · exact h'⟩
theorem ints_three {w : World} {g : Nat} {x y z : Int} (h : w.cell? ⟨g, 0, none⟩ = some (.int .i64 x)) (h' : w.cell? ⟨g, 1, none⟩ = some (.int .i64 y)) (h2 : w.cell? ⟨g, 2, none⟩ = some (.int .i64 z)) : IntsAt w (some ⟨g, 0, none⟩) [x, y, z] :=
  .inr ⟨g, 0, rfl, fun i hi => by
    have : i = 0 ∨ i = 1 ∨ i = 2 := by simp at hi; omega
    rcases this with rfl | rfl | rfl
    · exact h
    · exact h'
    · exact h2⟩

/-- What a rule gives: the set, and whether it is right. -/
def yes (s : Nat × Nat) (ok : Bool) : Nat × Nat := if ok then s else (0, 0)

theorem yes_no (s : Nat × Nat) : yes s false = (0, 0) := rfl
theorem yes_yes (s : Nat × Nat) : yes s true = s := rfl
theorem below_alloc (w : World) (o : Obj) : Below w.heap.size w (w.alloc o) := (Below.refl _ _).alloc (Nat.le_refl _) _

theorem Box.end {w W : World} {B E A : Nat} {s : St} (h : Box w B s W) (hB : w.heap.size = B) : Below w.heap.size w ((W.setCell ⟨B + 1, 0, none⟩ (.int .u64 E)).setCell ⟨B + 1, 1, none⟩ (.int .u64 A)) := by
  obtain ⟨h0, h1, h2, h3, h4, h5, h6, h7, h8, h9, h10⟩ := h
  rw [hB]
  exact (h10.setCell (p := ⟨B + 1, 0, none⟩) (Nat.le_succ B) _).setCell (p := ⟨B + 1, 1, none⟩) (Nat.le_succ B) _

theorem lits_one {w : World} {g : Nat} {t : Lt} (h : w.cell? ⟨g, 0, none⟩ = some (.int .i64 t.x)) (h' : w.cell? ⟨g, 1, none⟩ = some (.int .i64 t.y)) (h2 : w.cell? ⟨g, 2, none⟩ = some (.bool t.n)) : LitsAt w (some ⟨g, 0, none⟩) [t] :=
  .inr ⟨g, 0, rfl, fun i hi => by
    have : i = 0 := by simp at hi; exact hi
    subst this; exact ⟨h, h', h2⟩⟩

def okR (n : Int) (s : St) : Bool := allLow n [s.a] && allNil [s.b, s.c, s.d]
def setR (s : St) : Nat × Nat := ofL [⟨s.a, s.a, false⟩] (0, 0)

set_option maxHeartbeats 1000000 in
theorem refl_any (n : Int) (s : St) (w : World) (hn : n ≤ 9) :
    Calls Try.prog 103 #[.int .i64 n, .agg #[.int .i64 s.r, .int .i64 s.a, .int .i64 s.b, .int .i64 s.c, .int .i64 s.d]] w fun e w' =>
      e = .returned (.tuple #[.agg #[.int .u64 (yes (setR s) (okR n s)).1, .int .u64 (yes (setR s) (okR n s)).2], .bool (okR n s)]) ∧ Below w.heap.size w w' := by
  have hbox := Box.new w s
  go_enter Try.func103, Try.ntmps103
  go_upto_region 1 with fail
  generalize hW : (w.alloc (.cells #[.int .i64 s.r, .int .i64 s.a, .int .i64 s.b, .int .i64 s.c, .int .i64 s.d] 62)).alloc (.cells #[.int .u64 0, .int .u64 0] 84) = W at *
  clear hW
  generalize hB : w.heap.size = B at *
  have hb1 := hbox.below (below_alloc W (.cells #[.int .i64 s.a] 3))
  have hs1 := ints_one (w := W.alloc (.cells #[.int .i64 s.a] 3)) (g := W.heap.size) (x := s.a) (by simp)
  obtain ⟨c0, c1, c2, c3, c4, r0, r1, f0, f1, hsz, hb0⟩ := id hbox
  have HB := hide hB
  clear hB
  go_wp2_with fail
  refine (allBelow_any n _ 1 [s.a] _ hs1 (by simp)).mono ?_
  rintro e w' ⟨rfl, rfl⟩
  clear c0 c1 c2 c3 c4 r0 r1 f0 f1 hsz hb0 hbox hs1
  generalize W.alloc (.cells #[.int .i64 s.a] 3) = W1 at *
  obtain ⟨c0, c1, c2, c3, c4, r0, r1, f0, f1, hsz, hb0⟩ := id hb1
  cases hA : allLow n [s.a]
  · have ho : Hid (okR n s = false) := by show okR n s = false; simp [okR, hA]
    go_wp2_with fail
    exact bodyPost_ret (v := .tuple #[.agg #[.int .u64 0, .int .u64 0], .bool false]) (by simp [results, Try.results103, go_sem, r0, r1]) rfl ⟨by rw [ho.out, yes_no]; rfl, hb1.end HB.out⟩
  · have hlow : belowB s.a n = true := allB_iff.1 hA 0 (by simp)
    have z0 : B < W1.heap.size := by omega
    have z1 : B + 1 < W1.heap.size := by omega
    have hb2 := hb1.below (below_alloc W1 (.cells #[.int .i64 s.b, .int .i64 s.c, .int .i64 s.d] 3))
    have hs2 := ints_three (w := W1.alloc (.cells #[.int .i64 s.b, .int .i64 s.c, .int .i64 s.d] 3)) (g := W1.heap.size) (x := s.b) (y := s.c) (z := s.d) (by simp) (by simp) (by simp)
    have Hlow := hide hlow
    have HA := hide hA
    clear hlow hA
    go_wp2_with fail
    refine (allZero_any _ 3 [s.b, s.c, s.d] _ hs2 (by simp)).mono ?_
    rintro e w' ⟨rfl, rfl⟩
    clear c0 c1 c2 c3 c4 r0 r1 f0 f1 hsz hb0 hb1 hs2 z0 z1
    generalize W1.alloc (.cells #[.int .i64 s.b, .int .i64 s.c, .int .i64 s.d] 3) = W2 at *
    obtain ⟨c0, c1, c2, c3, c4, r0, r1, f0, f1, hsz, hb0⟩ := id hb2
    cases hZ : allNil [s.b, s.c, s.d]
    · have ho : Hid (okR n s = false) := by show okR n s = false; simp [okR, hZ]
      go_wp2_with fail
      exact bodyPost_ret (v := .tuple #[.agg #[.int .u64 0, .int .u64 0], .bool false]) (by simp [results, Try.results103, go_sem, r0, r1]) rfl ⟨by rw [ho.out, yes_no]; rfl, hb2.end HB.out⟩
    · have ho : Hid (okR n s = true) := by show okR n s = true; simp [okR, hZ, HA.out]
      go_wp2_with fail
      refine (equal_any s.a s.a _).mono ?_
      rintro e w3 ⟨rfl, hb⟩
      have hb3 := hb2.below hb
      clear c0 c1 c2 c3 c4 r0 r1 f0 f1 hsz hb0 hb2 hb
      have hb4 := hb3.below (below_alloc w3 (.cells #[.int .i64 s.a, .int .i64 s.a, .bool false] 50))
      have hs3 := lits_one (w := w3.alloc (.cells #[.int .i64 s.a, .int .i64 s.a, .bool false] 50)) (g := w3.heap.size) (t := ⟨s.a, s.a, false⟩) (by simp) (by simp) (by simp)
      have hlw : LowL 9 ⟨s.a, s.a, false⟩ := by
        have := Hlow.out
        simp [belowB] at this
        exact ⟨this.1, by show s.a < 9; omega, this.1, by show s.a < 9; omega⟩
      go_wp2_with fail
      refine (of_any _ 1 [⟨s.a, s.a, false⟩] _ hs3 (by intro t ht; simp at ht; rw [ht]; exact hlw) (by simp)).mono ?_
      rintro e w4 ⟨rfl, hb⟩
      have hb5 := hb4.below hb
      clear hb3 hb hb4 hs3 hlw
      obtain ⟨c0, c1, c2, c3, c4, r0, r1, f0, f1, hsz, hb0⟩ := id hb5
      have Hs : Hid (ofL [⟨s.a, s.a, false⟩] (0, 0) = setR s) := rfl
      generalize ofL [⟨s.a, s.a, false⟩] (0, 0) = q at *
      obtain ⟨q1, q2⟩ := q
      go_wp2_with fail
      exact bodyPost_ret (v := .tuple #[.agg #[.int .u64 q1, .int .u64 q2], .bool true]) (by simp [results, Try.results103, go_sem, set_same r0, set_other, r1]) rfl ⟨by rw [ho.out, yes_yes, ← Hs.out], hb5.end HB.out⟩
end Go.Proofs.Ytjebhhoibofmfaa
