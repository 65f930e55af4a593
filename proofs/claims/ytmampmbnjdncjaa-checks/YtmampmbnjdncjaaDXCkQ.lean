import Derived.Test.YtmampmbnjdncjaaDXCkP
import Derived.Test.YtmampmbnjdncjaaDXTrC
namespace Go.Proofs.Ytmampmbnjdncjaa
open Go.RowKit
def unSteps : List St := [⟨0, 0, 0, 0, 0⟩, ⟨0, 1, 0, 0, 0⟩, ⟨3, 2, 3, 0, 0⟩, ⟨4, 2, 1, 2, 3⟩, ⟨4, 0, 3, 0, 1⟩]
theorem un_ok (c1 c2 : Nat) : ClsOk (unClauses c1 c2) := by
  intro i hi
  match i, hi with
  | 0, _ => exact ⟨fun h => by simp [unClauses] at h, by simp [unClauses]⟩
  | 1, _ => exact ⟨fun h => by simp [unClauses] at h, by simp [unClauses]⟩
theorem un_folN (b1 b2 c1 c2 : Nat) : folN (fourTs b1 b2) (unClauses c1 c2) unSteps = 5 := by kernel_rfl
theorem un_chkE (b1 b2 c1 c2 : Nat) : chkE (fourTs b1 b2) (unClauses c1 c2) unSteps = 0 := by kernel_rfl
theorem un_clsL (b1 b2 c1 c2 : Nat) : (clsL (fourTs b1 b2) (unClauses c1 c2) (unSteps.take 4)).length = 1 := by kernel_rfl
theorem un_steps {w : World} {g : Nat} (h : SRow w g unSteps) : StepsAt w (some ⟨g, 0, none⟩) unSteps :=
  .inr ⟨g, 0, rfl, fun i hi => by rw [Nat.zero_add]; exact h.cell hi⟩
theorem un_steps4 {w : World} {g : Nat} (h : SRow w g unSteps) : StepsAt w (some ⟨g, 0, none⟩) (unSteps.take 4) := by
  refine .inr ⟨g, 0, rfl, fun i hi => ?_⟩
  rw [Nat.zero_add]
  have := h.cell (k := i) (by have : i < 4 := hi; show i < 5; omega)
  have e : (unSteps.take 4).getD i st0 = unSteps.getD i st0 := by
    match i, hi with
    | 0, _ => rfl
    | 1, _ => rfl
    | 2, _ => rfl
    | 3, _ => rfl
  rw [e]; exact this
set_option maxRecDepth 100000 in
set_option maxHeartbeats 2000000 in
theorem checks_any (ta sa la : Option Addr) (tc sc lc : Nat) (ts : List Tm) (cs : List Cl) (sts : List St) (w : World) (ht : TermsAt w ta ts) (hcs : ClausesAt w sa cs) (hst : StepsAt w la sts)
    (htn : ta = none → tc = 0) (hsn : sa = none → sc = 0) (hln : la = none → lc = 0) (hto : TmsOk ts) (hco : ClsOk cs) (htl : ts.length ≤ 4398046510976) (hcl : cs.length ≤ 5864062014634) (hlen : sts.length ≤ 3518437208883) :
    Calls Try.prog 5 #[.agg #[.slice ta ts.length tc, .slice sa cs.length sc], .slice la sts.length lc] w fun e w' => e = .returned (.bool true) ∧ Below w.heap.size w w' := by
  have Hto := hide hto
  have Hco := hide hco
  clear hto hco
  go_enter Try.func5, Try.ntmps5
  go_upto_region 1 with fail
  obtain ⟨w1, hw1⟩ : ∃ w1, w1 = w.alloc (.cells #[.slice ta ts.length tc, .slice sa cs.length sc] 33) := ⟨_, rfl⟩
  rw [← hw1]
  have hb1 : Below w.heap.size w w1 := by rw [hw1]; exact (Below.refl _ _).alloc (Nat.le_refl _) _
  have p0 : w1.cell? ⟨w.heap.size, 0, none⟩ = some (.slice ta ts.length tc) := by rw [hw1]; exact new0 rfl
  have p1 : w1.cell? ⟨w.heap.size, 1, none⟩ = some (.slice sa cs.length sc) := by rw [hw1]; exact new0 rfl
  have hT1 := ht.below hb1
  have hC1 := hcs.below hb1
  have hS1 := hst.below hb1
  have hs1 := hb1.size
  clear hw1 ht hcs hst
  go_wp2_with fail
  refine (unsaid_full w1).mono ?_
  rintro e w2 ⟨b1, b2, g, c1, c2, cg, sg, rfl, hF, hU, hR, hb2⟩
  have hR' : SRow w2 sg unSteps := hR
  have hs2 := hb2.size
  clear hR
  go_upto_region 2 with fail
  obtain ⟨w3, hw3⟩ : ∃ w3, w3 = w2.alloc (.cells #[.slice (some ⟨g, 0, none⟩) 4 4, .slice (some ⟨cg, 0, none⟩) 2 2] 33) := ⟨_, rfl⟩
  rw [← hw3]
  have hb3 : Below w2.heap.size w2 w3 := by rw [hw3]; exact (Below.refl _ _).alloc (Nat.le_refl _) _
  have hr3 : w3.heap[w2.heap.size]? = some (.cells #[.slice (some ⟨g, 0, none⟩) 4 4, .slice (some ⟨cg, 0, none⟩) 2 2] 33 (0, 0)) := by rw [hw3]; exact heap_at_new _ _ _ rfl
  have q0 : w3.cell? ⟨w2.heap.size, 0, none⟩ = some (.slice (some ⟨g, 0, none⟩) 4 4) := by rw [cell_of_row _ _ _ _ _ _ hr3]; rfl
  have q1 : w3.cell? ⟨w2.heap.size, 1, none⟩ = some (.slice (some ⟨cg, 0, none⟩) 2 2) := by rw [cell_of_row _ _ _ _ _ _ hr3]; rfl
  have hF3 := hF.below hb3
  have hU3 := hU.below hb3
  have hR3 := hR'.up hb3
  have hs3 := hb3.size
  have hb13 : Below w1.heap.size w1 w3 := hb2.trans (hb3.mono hs2)
  clear hw3 hr3 hF hU hR'
  have hck := check_any (some ⟨g, 0, none⟩) (some ⟨cg, 0, none⟩) (some ⟨sg, 0, none⟩) 4 2 5 (fourTs b1 b2) (unClauses c1 c2) unSteps w3 hF3 hU3 (un_steps hR3) (by simp [unSteps])
  have Hck := hide hck
  clear hck
  go_wp2_with fail
  refine Hck.out.mono ?_
  rintro e w4 ⟨rfl, hb4⟩
  rw [un_folN, un_chkE]
  have hs4 := hb4.size
  have q0' := cell_below hb4 q0
  have q1' := cell_below hb4 q1
  have hF4 := hF3.below hb4
  have hU4 := hU3.below hb4
  have hR4 := hR3.up hb4
  have hS4 := un_steps4 hR4
  clear q0 q1 Hck
  go_upto_region 3 with fail
  go_cut [9, 10] from 24 to 30 (fun s9 s10 wx => ∃ va vc, s9 = .slice va 1 vc ∧ s10 = .bool true ∧ Below w4.heap.size w4 wx)
  case first =>
    go_region_with (go_at_call 15; refine (clauseL_any (some ⟨g, 0, none⟩) (some ⟨cg, 0, none⟩) (some ⟨sg, 0, none⟩) 4 2 5 (fourTs b1 b2) (unClauses c1 c2) (unSteps.take 4) _ (hF4.below (Below.refl _ _).drew) (hU4.below (Below.refl _ _).drew) (hS4.below (Below.refl _ _).drew) (fun h => by cases h) (fun h => by cases h) (fun h => by cases h) (four_ok _ _) (un_ok _ _) (by simp [fourTs]) (by simp [unClauses]) (by simp [unSteps])).mono ?_; rintro e w' ⟨va, vc, rfl, k1⟩)
    all_goals (rw [un_clsL]; go_wp2_with fail; go_meet; exact ⟨va, vc, rfl, rfl, (Below.refl _ _).drew.trans k1⟩)
  case rest =>
    obtain ⟨va, vc, rfl, rfl, hb5⟩ := hcut
    have hb15 : Below w1.heap.size w1 wc := (hb13.trans (hb4.mono (by omega))).trans (hb5.mono (by omega))
    have p0' := cell_below hb15 p0
    have p1' := cell_below hb15 p1
    clear p0 p1 q0' q1'
    go_wp2_with fail
    refine (clauseL_any ta sa la tc sc lc ts cs sts wc (hT1.below hb15) (hC1.below hb15) (hS1.below hb15) htn hsn hln Hto.out Hco.out htl hcl hlen).mono ?_
    rintro e w6 ⟨da, dc, rfl, hb6⟩
    have hs5 := hb15.size
    have hb16 : Below w1.heap.size w1 w6 := hb15.trans (hb6.mono (by omega))
    have p0 := cell_below hb6 p0'
    have p1 := cell_below hb6 p1'
    clear p0' p1'
    go_wp2_with fail
    refine (checkL_any ta sa la tc sc lc ts cs sts w6 (hT1.below hb16) (hC1.below hb16) (hS1.below hb16) htn hsn hln Hto.out Hco.out htl hcl hlen).mono ?_
    rintro e w7 ⟨rfl, hb7⟩
    go_wp2_with fail
    go_ret
    exact ⟨rfl, (hb1.trans (hb16.mono hs1)).trans (hb7.mono (by have := hb16.size; omega))⟩
end Go.Proofs.Ytmampmbnjdncjaa
