import Derived.Test.YtjebhhoibofmfaaXLtH
namespace Go.Proofs.Ytjebhhoibofmfaa
open Go.RowKit

theorem keep3 {W W' : World} {B : Nat} {x y z : Value} (h : W.cell? ⟨B, 1, none⟩ = some x ∧ W.cell? ⟨B, 2, none⟩ = some y ∧ W.cell? ⟨B, 3, none⟩ = some z) (hb : Below W.heap.size W W') :
    W'.cell? ⟨B, 1, none⟩ = some x ∧ W'.cell? ⟨B, 2, none⟩ = some y ∧ W'.cell? ⟨B, 3, none⟩ = some z := ⟨cell_below hb h.1, cell_below hb h.2.1, cell_below hb h.2.2⟩

theorem lits_three {w : World} {g : Nat} {t u v : Lt} (h : w.cell? ⟨g, 0, none⟩ = some (.int .i64 t.x)) (h' : w.cell? ⟨g, 1, none⟩ = some (.int .i64 t.y)) (h2 : w.cell? ⟨g, 2, none⟩ = some (.bool t.n))
    (h3 : w.cell? ⟨g, 3, none⟩ = some (.int .i64 u.x)) (h4 : w.cell? ⟨g, 4, none⟩ = some (.int .i64 u.y)) (h5 : w.cell? ⟨g, 5, none⟩ = some (.bool u.n))
    (h6 : w.cell? ⟨g, 6, none⟩ = some (.int .i64 v.x)) (h7 : w.cell? ⟨g, 7, none⟩ = some (.int .i64 v.y)) (h8 : w.cell? ⟨g, 8, none⟩ = some (.bool v.n)) : LitsAt w (some ⟨g, 0, none⟩) [t, u, v] :=
  .inr ⟨g, 0, rfl, fun i hi => by
    have : i = 0 ∨ i = 1 ∨ i = 2 := by simp at hi; omega
    rcases this with rfl | rfl | rfl
    · exact ⟨h, h', h2⟩
    · exact ⟨h3, h4, h5⟩
    · exact ⟨h6, h7, h8⟩⟩

def okT (n : Int) (s : St) : Bool := allLow n [s.a, s.b, s.c] && allNil [s.d]
def setT (s : St) : Nat × Nat := ofL [⟨s.a, s.b, true⟩, ⟨s.b, s.c, true⟩, ⟨s.a, s.c, false⟩] (0, 0)

set_option maxHeartbeats 1000000 in
theorem trans_any (n : Int) (s : St) (w : World) (hn : n ≤ 9) :
    Calls Try.prog 104 #[.int .i64 n, .agg #[.int .i64 s.r, .int .i64 s.a, .int .i64 s.b, .int .i64 s.c, .int .i64 s.d]] w fun e w' =>
      e = .returned (.tuple #[.agg #[.int .u64 (yes (setT s) (okT n s)).1, .int .u64 (yes (setT s) (okT n s)).2], .bool (okT n s)]) ∧ Below w.heap.size w w' := by
  have hbox := Box.new w s
  go_enter Try.func104, Try.ntmps104
  go_upto_region 1 with fail
  generalize hW : (w.alloc (.cells #[.int .i64 s.r, .int .i64 s.a, .int .i64 s.b, .int .i64 s.c, .int .i64 s.d] 62)).alloc (.cells #[.int .u64 0, .int .u64 0] 84) = W at *
  clear hW
  generalize hB : w.heap.size = B at *
  have hb1 := hbox.below (below_alloc W (.cells #[.int .i64 s.a, .int .i64 s.b, .int .i64 s.c] 3))
  have hs1 := ints_three (w := W.alloc (.cells #[.int .i64 s.a, .int .i64 s.b, .int .i64 s.c] 3)) (g := W.heap.size) (x := s.a) (y := s.b) (z := s.c) (by simp) (by simp) (by simp)
  obtain ⟨c0, c1, c2, c3, c4, r0, r1, f0, f1, hsz, hb0⟩ := id hbox
  have HB := hide hB
  clear hB
  go_wp2_with fail
  refine (allBelow_any n _ 3 [s.a, s.b, s.c] _ hs1 (by simp)).mono ?_
  rintro e w' ⟨rfl, rfl⟩
  clear c0 c1 c2 c3 c4 r0 r1 f0 f1 hsz hb0 hbox hs1
  generalize W.alloc (.cells #[.int .i64 s.a, .int .i64 s.b, .int .i64 s.c] 3) = W1 at *
  obtain ⟨c0, c1, c2, c3, c4, r0, r1, f0, f1, hsz, hb0⟩ := id hb1
  cases hA : allLow n [s.a, s.b, s.c]
  · have ho : Hid (okT n s = false) := by show okT n s = false; simp [okT, hA]
    go_wp2_with fail
    exact bodyPost_ret (v := .tuple #[.agg #[.int .u64 0, .int .u64 0], .bool false]) (by simp [results, Try.results104, go_sem, r0, r1]) rfl ⟨by rw [ho.out, yes_no]; rfl, hb1.end HB.out⟩
  · have hlow : belowB s.a n = true ∧ belowB s.b n = true ∧ belowB s.c n = true := ⟨allB_iff.1 hA 0 (by simp), allB_iff.1 hA 1 (by simp), allB_iff.1 hA 2 (by simp)⟩
    have z0 : B < W1.heap.size := by omega
    have z1 : B + 1 < W1.heap.size := by omega
    have hb2 := hb1.below (below_alloc W1 (.cells #[.int .i64 s.d] 3))
    have hs2 := ints_one (w := W1.alloc (.cells #[.int .i64 s.d] 3)) (g := W1.heap.size) (x := s.d) (by simp)
    have Hlow := hide hlow
    have HA := hide hA
    clear hlow hA
    go_wp2_with fail
    refine (allZero_any _ 1 [s.d] _ hs2 (by simp)).mono ?_
    rintro e w' ⟨rfl, rfl⟩
    clear c0 c1 c2 c3 c4 r0 r1 f0 f1 hsz hb0 hb1 hs2 z0 z1
    generalize W1.alloc (.cells #[.int .i64 s.d] 3) = W2 at *
    obtain ⟨c0, c1, c2, c3, c4, r0, r1, f0, f1, hsz, hb0⟩ := id hb2
    cases hZ : allNil [s.d]
    · have ho : Hid (okT n s = false) := by show okT n s = false; simp [okT, hZ]
      go_wp2_with fail
      exact bodyPost_ret (v := .tuple #[.agg #[.int .u64 0, .int .u64 0], .bool false]) (by simp [results, Try.results104, go_sem, r0, r1]) rfl ⟨by rw [ho.out, yes_no]; rfl, hb2.end HB.out⟩
    · have ho : Hid (okT n s = true) := by show okT n s = true; simp [okT, hZ, HA.out]
      have hl2 : ∀ t ∈ [(⟨s.a, s.b, true⟩ : Lt), ⟨s.b, s.c, true⟩, ⟨s.a, s.c, false⟩], LowL 9 t := by
        have := Hlow.out
        simp [belowB] at this
        obtain ⟨⟨x1, x2⟩, ⟨y1, y2⟩, z1, z2⟩ := this
        intro t ht
        simp at ht
        rcases ht with rfl | rfl | rfl
        · exact ⟨x1, by show s.a < 9; omega, y1, by show s.b < 9; omega⟩
        · exact ⟨y1, by show s.b < 9; omega, z1, by show s.c < 9; omega⟩
        · exact ⟨x1, by show s.a < 9; omega, z1, by show s.c < 9; omega⟩
      have Hl2 := hide hl2
      have Hs : Hid (setT s = ofL [⟨s.a, s.b, true⟩, ⟨s.b, s.c, true⟩, ⟨s.a, s.c, false⟩] (0, 0)) := rfl
      clear hl2 c0 c4 r0 r1 f0 f1 hsz hb0
      go_upto_region 3 with fail
      have hbx := hb2.drew
      clear hb2
      go_region_held3 (fun w' => w'.cell? ⟨B, 1, none⟩ = some (.int .i64 s.a) ∧ w'.cell? ⟨B, 2, none⟩ = some (.int .i64 s.b) ∧ w'.cell? ⟨B, 3, none⟩ = some (.int .i64 s.c))
        (first | exact keep3 (by assumption) hb | exact keep3 (by assumption) (below_alloc _ _) | go_keep)
        (first
          | (go_at_call 125; refine (apart_any _ _ _).mono ?_; rintro e w' ⟨rfl, hb⟩; have hbx := hbx.below hb)
          | (go_at_call 124; refine (equal_any _ _ _).mono ?_; rintro e w' ⟨rfl, hb⟩; have hbx := hbx.below hb)
          | (go_at_call 123; refine (of_any _ _ [⟨s.a, s.b, true⟩, ⟨s.b, s.c, true⟩, ⟨s.a, s.c, false⟩] _ (lits_three (by simp) (by simp) (by simp) (by simp) (by simp) (by simp) (by simp) (by simp) (by simp)) Hl2.out (by simp)).mono ?_; rintro e w' ⟨rfl, hb⟩; have hbx := (hbx.below (below_alloc _ _)).below hb; obtain ⟨_, _, _, _, _, r0, r1, f0, f1, hsz, hb0⟩ := id hbx))
      all_goals
        generalize ofL [⟨s.a, s.b, true⟩, ⟨s.b, s.c, true⟩, ⟨s.a, s.c, false⟩] (0, 0) = q at *
        obtain ⟨q1, q2⟩ := q
        go_wp2_with fail
        exact bodyPost_ret (v := .tuple #[.agg #[.int .u64 q1, .int .u64 q2], .bool true]) (by simp [results, Try.results104, go_sem, set_same r0, set_other, r1]) rfl ⟨by rw [ho.out, yes_yes, Hs.out], hbx.end HB.out⟩
end Go.Proofs.Ytjebhhoibofmfaa
