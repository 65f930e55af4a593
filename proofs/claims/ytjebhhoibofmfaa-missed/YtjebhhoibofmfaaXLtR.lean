import Derived.Test.YtjebhhoibofmfaaXLtP
import Derived.Test.YtjebhhoibofmfaaXLtQ
import Derived.Test.YtjebhhoibofmfaaXLtL
namespace Go.Proofs.Ytjebhhoibofmfaa
open Go.RowKit

theorem cutHolds : CutHolds := fun n sa sc ss s w hn hss h64 => cut_any n sa sc ss s w hn hss h64

/-- equalproof.follow: the error, how many are right, the last one's set. -/
def folE (ts : List Tm) (cs : List Cl) (sts : List St) : Int := if refuseI ts cs = 0 then if (followL ts cs sts []).length < sts.length then 4 else 0 else refuseI ts cs
def folN (ts : List Tm) (cs : List Cl) (sts : List St) : Int := if refuseI ts cs = 0 then ((followL ts cs sts []).length : Nat) else 0
def folS (ts : List Tm) (cs : List Cl) (sts : List St) : Nat × Nat := if refuseI ts cs = 0 then if (followL ts cs sts []).length < sts.length then (0, 0) else lastS (followL ts cs sts []) else (0, 0)

theorem ret_sii {e a e' a' : Nat} {x y x' y' : Int} (h : e = e') (h' : a = a') (hx : x = x') (hy : y = y') : Ending.returned (.tuple #[.agg #[.int .u64 e, .int .u64 a], .int .i64 x, .int .i64 y]) = .returned (.tuple #[.agg #[.int .u64 e', .int .u64 a'], .int .i64 x', .int .i64 y']) := by rw [h, h', hx, hy]

set_option maxRecDepth 100000 in
set_option maxHeartbeats 1000000 in
theorem fol_any (ta sa la : Option Addr) (tc sc lc : Nat) (ts : List Tm) (cs : List Cl) (sts : List St) (w : World) (ht : TermsAt w ta ts) (hcs : ClausesAt w sa cs) (hst : StepsAt w la sts) (hlen : sts.length ≤ 3518437208883) :
    Calls Try.prog 42 #[.agg #[.slice ta ts.length tc, .slice sa cs.length sc], .slice la sts.length lc] w fun e w' =>
      e = .returned (.tuple #[.agg #[.int .u64 (folS ts cs sts).1, .int .u64 (folS ts cs sts).2], .int .i64 (folN ts cs sts), .int .i64 (folE ts cs sts)]) ∧ Below w.heap.size w w' := by
  obtain ⟨W, hW⟩ : ∃ W, W = (w.alloc (.cells #[.slice ta ts.length tc, .slice sa cs.length sc] 33)).alloc (.cells #[.int .u64 0, .int .u64 0] 84) := ⟨_, rfl⟩
  have hs2 : W.heap.size = w.heap.size + 1 + 1 := by rw [hW]; simp
  have p0 : W.cell? ⟨w.heap.size, 0, none⟩ = some (.slice ta ts.length tc) := by rw [hW]; simp
  have p1 : W.cell? ⟨w.heap.size, 1, none⟩ = some (.slice sa cs.length sc) := by rw [hW]; simp
  have r0 : W.cell? ⟨w.heap.size + 1, 0, none⟩ = some (.int .u64 0) := by rw [hW]; simp
  have r1 : W.cell? ⟨w.heap.size + 1, 1, none⟩ = some (.int .u64 0) := by rw [hW]; simp
  have f0 : W.frozen? ⟨w.heap.size + 1, 0, none⟩ = false := by rw [hW]; simp
  have f1 : W.frozen? ⟨w.heap.size + 1, 1, none⟩ = false := by rw [hW]; simp
  have hb0 : Below w.heap.size w W := by rw [hW]; exact ((Below.refl _ _).alloc (Nat.le_refl _) _).alloc (by simp) _
  go_enter Try.func42, Try.ntmps42
  go_upto_region 1 with fail
  rw [← hW]
  clear hW
  generalize hB : w.heap.size = B at *
  have HB := hide hB
  have hbw : Below w.heap.size w W := by rw [hB]; exact hb0
  have ht1 := ht.below hbw
  have hcs1 := hcs.below hbw
  have hst1 := hst.below hbw
  clear hB hbw
  go_wp2_with fail
  refine (refuse_any ta sa tc sc ts cs _ ht1 hcs1).mono ?_
  rintro e w1 ⟨rfl, hb⟩
  have hB1 : B + 1 < W.heap.size := by omega
  replace p0 := cell_below hb p0
  replace p1 := cell_below hb p1
  replace r0 := cell_below hb r0
  replace r1 := cell_below hb r1
  replace f0 := frozen_below hb hB1 f0
  replace f1 := frozen_below hb hB1 f1
  have hb1 : Below B w w1 := hb0.trans (hb.mono (by omega))
  have hs1 : B + 1 < w1.heap.size := by have := hb.size; omega
  have ht2 := ht1.below hb
  have hcs2 := hcs1.below hb
  have hst2 := hst1.below hb
  clear hb hb0 ht1 hcs1 hst1 hB1 hs2
  by_cases he : refuseI ts cs = 0
  · have hbe : (refuseI ts cs != 0) = false := by simp [he]
    have hts : termsB ts = true := by cases h : termsB ts; simp [refuseI, h] at he; rfl
    have hcl : clausesB ts.length cs = true := by cases h : clausesB ts.length cs; simp [refuseI, hts, h] at he; rfl
    have He := hide he
    have hcon := followS_any cutHolds ta sa la tc sc lc ts cs sts w1 ht2 hcs2 hst2 hts hcl hlen
    have Hcon := hide hcon
    clear he hts hcl hcon
    go_wp2_with fail
    refine Hcon.out.mono ?_
    rintro e w2 ⟨rfl, hb⟩
    replace r0 := cell_below hb r0
    replace r1 := cell_below hb r1
    replace f0 := frozen_below hb hs1 f0
    replace f1 := frozen_below hb hs1 f1
    have hb2 : Below B w w2 := hb1.trans (hb.mono (by omega))
    have hs2 : B + 1 < w2.heap.size := by have := hb.size; omega
    have HE : Hid (folE ts cs sts = if (followL ts cs sts []).length < sts.length then 4 else 0) := by show _ = _; unfold folE; rw [if_pos He.out]
    have HN : Hid (folN ts cs sts = ((followL ts cs sts []).length : Nat)) := by show _ = _; unfold folN; rw [if_pos He.out]
    have HS : Hid (folS ts cs sts = if (followL ts cs sts []).length < sts.length then (0, 0) else lastS (followL ts cs sts [])) := by show _ = _; unfold folS; rw [if_pos He.out]
    clear hb hb1 hs1 ht2 hcs2 hst2 Hcon hbe p0 p1
    generalize followL ts cs sts [] = L at *
    obtain ⟨W3, hW3⟩ : ∃ W3, W3 = w2.alloc (.cells #[.int .u64 (lastS L).1, .int .u64 (lastS L).2] 84) := ⟨_, rfl⟩
    have hb3 : Below w2.heap.size w2 W3 := by rw [hW3]; exact below_alloc _ _
    have t0 : W3.cell? ⟨w2.heap.size, 0, none⟩ = some (.int .u64 (lastS L).1) := by rw [hW3]; simp
    have t1 : W3.cell? ⟨w2.heap.size, 1, none⟩ = some (.int .u64 (lastS L).2) := by rw [hW3]; simp
    replace r0 := cell_below hb3 r0
    replace r1 := cell_below hb3 r1
    replace f0 := frozen_below hb3 hs2 f0
    replace f1 := frozen_below hb3 hs2 f1
    have hb4 : Below B w W3 := hb2.trans (hb3.mono (by omega))
    go_upto_region 5 with fail
    rw [← hW3]
    clear hW3 hb2 hb3
    by_cases hl : L.length < sts.length
    · have HE' := hide (HE.out.trans (if_pos hl))
      have HS' := hide (HS.out.trans (if_pos hl))
      go_wp2_with fail
      exact bodyPost_ret (v := .tuple #[.agg #[.int .u64 0, .int .u64 0], .int .i64 L.length, .int .i64 4]) (by simp [results, Try.results42, go_sem, r0, r1]) rfl
        ⟨by rw [HE'.out, HS'.out, HN.out]; rfl, by rw [HB.out]; exact (hb4.setCell (p := ⟨B + 1, 0, none⟩) (by show B ≤ B + 1; omega) _).setCell (p := ⟨B + 1, 1, none⟩) (by show B ≤ B + 1; omega) _⟩
    · have HE' := hide (HE.out.trans (if_neg hl))
      have HS' := hide (HS.out.trans (if_neg hl))
      generalize hq : lastS L = q at *
      obtain ⟨q1, q2⟩ := q
      go_wp2_with fail
      exact bodyPost_ret (v := .tuple #[.agg #[.int .u64 q1, .int .u64 q2], .int .i64 L.length, .int .i64 0]) (by simp [results, Try.results42, go_sem, set_same r0, set_other, r1]) rfl
        ⟨by rw [HE'.out, HS'.out, HN.out], by rw [HB.out]; exact (hb4.setCell (p := ⟨B + 1, 0, none⟩) (by show B ≤ B + 1; omega) _).setCell (p := ⟨B + 1, 1, none⟩) (by show B ≤ B + 1; omega) _⟩
  · have hbe : (refuseI ts cs != 0) = true := by simp [he]
    have HE : Hid (folE ts cs sts = refuseI ts cs) := by show _ = _; unfold folE; rw [if_neg he]
    have HN : Hid (folN ts cs sts = 0) := by show _ = _; unfold folN; rw [if_neg he]
    have HS : Hid (folS ts cs sts = (0, 0)) := by show _ = _; unfold folS; rw [if_neg he]
    clear he
    generalize refuseI ts cs = r at *
    go_wp2_with fail
    exact bodyPost_ret (v := .tuple #[.agg #[.int .u64 0, .int .u64 0], .int .i64 0, .int .i64 r]) (by simp [results, Try.results42, go_sem, r0, r1]) rfl
      ⟨by rw [HE.out, HS.out, HN.out]; rfl, by rw [HB.out]; exact (hb1.setCell (p := ⟨B + 1, 0, none⟩) (by show B ≤ B + 1; omega) _).setCell (p := ⟨B + 1, 1, none⟩) (by show B ≤ B + 1; omega) _⟩
end Go.Proofs.Ytjebhhoibofmfaa
