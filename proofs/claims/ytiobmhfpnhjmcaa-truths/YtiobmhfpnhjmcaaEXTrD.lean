import Derived.Test.YtiobmhfpnhjmcaaEXTrB
import Derived.Test.YtiobmhfpnhjmcaaEXTrC
namespace Go.Proofs.Ytiobmhfpnhjmcaa
open Go.RowKit
def un1 (c1 : Nat) : List Cl := [⟨some ⟨c1, 0, none⟩, 1, [⟨0, 1, false⟩]⟩]
theorem un1_at {w : World} {cg c1 c2 : Nat} (h : ClausesAt w (some ⟨cg, 0, none⟩) (unClauses c1 c2)) : ClausesAt w (some ⟨cg, 0, none⟩) (un1 c1) := by
  obtain ⟨b, o, hbo, hc⟩ := h.get (i := 0) (by simp [unClauses])
  refine .inr ⟨b, o, hbo, fun i hi => ?_⟩
  match i, hi with
  | 0, _ => exact hc 0 (by simp [unClauses])
theorem un1_ok (c1 : Nat) : ClsOk (un1 c1) := by
  intro i hi
  match i, hi with
  | 0, _ => exact ⟨fun h => by simp [un1] at h, by simp [un1]⟩
theorem four_true (b1 b2 c1 : Nat) : trueB (fourTs b1 b2) (un1 c1) [0, 0, 1, 1] = true := by rfl
theorem four_trueE (b1 b2 c1 : Nat) : trueE (fourTs b1 b2) (un1 c1) [0, 0, 1, 1] = 0 := by rfl
set_option maxRecDepth 100000 in
set_option maxHeartbeats 2000000 in
theorem truths_any (ta sa ca : Option Addr) (tc sc cc : Nat) (ts : List Tm) (cs : List Cl) (c : List Int) (w : World) (ht : TermsAt w ta ts) (hcs : ClausesAt w sa cs) (hc : IntsAt w ca c)
    (htn : ta = none → tc = 0) (hsn : sa = none → sc = 0) (hcn : ca = none → cc = 0) (hto : TmsOk ts) (hco : ClsOk cs) (htl : ts.length ≤ 4398046510976) (hcl : cs.length ≤ 5864062014634) (hlen : c.length ≤ 17592186043904) :
    Calls Try.prog 4 #[.agg #[.slice ta ts.length tc, .slice sa cs.length sc], .slice ca c.length cc] w fun e w' => e = .returned (.bool true) ∧ Below w.heap.size w w' := by
  have Hto := hide hto
  have Hco := hide hco
  clear hto hco
  go_enter Try.func4, Try.ntmps4
  go_upto_region 1 with fail
  obtain ⟨w1, hw1⟩ : ∃ w1, w1 = w.alloc (.cells #[.slice ta ts.length tc, .slice sa cs.length sc] 33) := ⟨_, rfl⟩
  rw [← hw1]
  have hb1 : Below w.heap.size w w1 := by rw [hw1]; exact (Below.refl _ _).alloc (Nat.le_refl _) _
  have p0 : w1.cell? ⟨w.heap.size, 0, none⟩ = some (.slice ta ts.length tc) := by rw [hw1]; exact new0 rfl
  have p1 : w1.cell? ⟨w.heap.size, 1, none⟩ = some (.slice sa cs.length sc) := by rw [hw1]; exact new0 rfl
  have hT1 := ht.below hb1
  have hC1 := hcs.below hb1
  have hc1 := hc.below hb1
  have hs1 := hb1.size
  clear hw1 ht hcs hc
  go_wp2_with fail
  refine (unsaid_any w1).mono ?_
  rintro e w2 ⟨b1, b2, g, c1, c2, cg, st, rfl, hF, hU, hb2⟩
  have hs2 := hb2.size
  go_upto_region 3 with fail
  obtain ⟨w3, hw3⟩ : ∃ w3, w3 = w2.alloc (.cells #[.slice (some ⟨g, 0, none⟩) 4 4, .slice (some ⟨cg, 0, none⟩) 1 2] 33) := ⟨_, rfl⟩
  rw [← hw3]
  have hb3 : Below w2.heap.size w2 w3 := by rw [hw3]; exact (Below.refl _ _).alloc (Nat.le_refl _) _
  have hr3 : w3.heap[w2.heap.size]? = some (.cells #[.slice (some ⟨g, 0, none⟩) 4 4, .slice (some ⟨cg, 0, none⟩) 1 2] 33 (0, 0)) := by rw [hw3]; exact heap_at_new _ _ _ rfl
  have q0 : w3.cell? ⟨w2.heap.size, 0, none⟩ = some (.slice (some ⟨g, 0, none⟩) 4 4) := by rw [cell_of_row _ _ _ _ _ _ hr3]; rfl
  have q1 : w3.cell? ⟨w2.heap.size, 1, none⟩ = some (.slice (some ⟨cg, 0, none⟩) 1 2) := by rw [cell_of_row _ _ _ _ _ _ hr3]; rfl
  have hF3 := hF.below hb3
  have hU3 := (un1_at hU).below hb3
  have hs3 := hb3.size
  have hb13 : Below w1.heap.size w1 w3 := hb2.trans (hb3.mono hs2)
  have hq3 := block_lt q0
  clear hw3 hr3 hF hU
  go_wp2_with fail
  obtain ⟨w4, hw4⟩ : ∃ w4, w4 = w3.alloc (.cells #[.int .i64 0, .int .i64 0, .int .i64 1, .int .i64 1] 3) := ⟨_, rfl⟩
  rw [← hw4]
  have hb4 : Below w3.heap.size w3 w4 := by rw [hw4]; exact (Below.refl _ _).alloc (Nat.le_refl _) _
  have hr4 : Row w4 w3.heap.size [0, 0, 1, 1] := by rw [hw4]; exact heap_at_new _ _ _ rfl
  clear hw4
  refine (true_any (some ⟨g, 0, none⟩) (some ⟨cg, 0, none⟩) (some ⟨w3.heap.size, 0, none⟩) 4 2 4 (fourTs b1 b2) (un1 c1) [0, 0, 1, 1] w4 (hF3.below hb4) (hU3.below hb4) hr4.ints).mono ?_
  rintro e w5 ⟨rfl, hb5⟩
  rw [four_true, four_trueE]
  have hs4 := hb4.size
  have hs5 := hb5.size
  have hb35 : Below w3.heap.size w3 w5 := hb4.trans (hb5.mono hs4)
  have q0' := cell_below hb35 q0
  have q1' := cell_below hb35 q1
  have hF5 := hF3.below hb35
  have hU5 := hU3.below hb35
  clear hr4 hb4 hb5 q0 q1
  go_wp2_with fail
  obtain ⟨w6, hw6⟩ : ∃ w6, w6 = w5.alloc (.cells #[.int .i64 0, .int .i64 0, .int .i64 1, .int .i64 1] 3) := ⟨_, rfl⟩
  rw [← hw6]
  have hb6 : Below w5.heap.size w5 w6 := by rw [hw6]; exact (Below.refl _ _).alloc (Nat.le_refl _) _
  have hr6 : Row w6 w5.heap.size [0, 0, 1, 1] := by rw [hw6]; exact heap_at_new _ _ _ rfl
  clear hw6
  refine (truth_any (some ⟨g, 0, none⟩) (some ⟨cg, 0, none⟩) (some ⟨w5.heap.size, 0, none⟩) 4 2 4 (fourTs b1 b2) (un1 c1) [0, 0, 1, 1] w6 (hF5.below hb6) (hU5.below hb6) hr6.ints (fun h => by cases h) (fun h => by cases h) (fun h => by cases h) (four_ok _ _) (un1_ok _) (by simp [fourTs]) (by simp [un1]) (by simp)).mono ?_
  rintro e w7 ⟨rfl, hb7⟩
  have hs6 := hb6.size
  have hb17 : Below w1.heap.size w1 w7 := ((hb13.trans (hb35.mono (by omega))).trans (hb6.mono (by omega))).trans (hb7.mono (by omega))
  have p0' := cell_below hb17 p0
  have p1' := cell_below hb17 p1
  clear hr6 q0' q1' p0 p1
  go_wp2_with fail
  refine (truth_any ta sa ca tc sc cc ts cs c w7 (hT1.below hb17) (hC1.below hb17) (hc1.below hb17) htn hsn hcn Hto.out Hco.out htl hcl hlen).mono ?_
  rintro e w8 ⟨rfl, hb8⟩
  go_wp2_with fail
  go_ret
  exact ⟨rfl, (hb1.trans (hb17.mono hs1)).trans (hb8.mono (by have := hb17.size; omega))⟩
end Go.Proofs.Ytiobmhfpnhjmcaa
