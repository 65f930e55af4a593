import Derived.Test.YtmampmbnjdncjaaDXCkO
namespace Go.Proofs.Ytmampmbnjdncjaa
open Go.RowKit
set_option maxRecDepth 100000 in
set_option maxHeartbeats 2000000 in
theorem clauseL_own (ta sa la : Option Addr) (tc sc lc : Nat) (ts : List Tm) (cs : List Cl) (sts : List St) (w : World) (ht : TermsAt w ta ts) (hcs : ClausesAt w sa cs) (hst : StepsAt w la sts)
    (htn : ta = none → tc = 0) (hsn : sa = none → sc = 0) (hln : la = none → lc = 0) (hto : TmsOk ts) (hco : ClsOk cs) (htl : ts.length ≤ 4398046510976) (hcl : cs.length ≤ 5864062014634) (hlen : sts.length ≤ 3518437208883) :
    Calls Try.prog 15 #[.agg #[.slice ta ts.length tc, .slice sa cs.length sc], .slice la sts.length lc] w fun e w' => ∃ va vc, e = .returned (.tuple #[.slice va (clsL ts cs sts).length vc, .bool true]) ∧ Below w.heap.size w w' ∧ w'.ownsRow w.heap.size 50 3 (.slice va (clsL ts cs sts).length vc) (clsL ts cs sts).length (lsCells (clsL ts cs sts)) := by
  have qi := nil_eql 43 50 Try.underlying43
  have Hto := hide hto
  have Hco := hide hco
  have Hht := hide ht
  have Hcs := hide hcs
  clear hto hco
  go_enter Try.func15, Try.ntmps15
  go_upto_region 1 with fail
  obtain ⟨w1, hw1⟩ : ∃ w1, w1 = w.alloc (.cells #[.slice ta ts.length tc, .slice sa cs.length sc] 33) := ⟨_, rfl⟩
  rw [← hw1]
  have hb1 : Below w.heap.size w w1 := by rw [hw1]; exact (Below.refl _ _).alloc (Nat.le_refl _) _
  have p0 : w1.cell? ⟨w.heap.size, 0, none⟩ = some (.slice ta ts.length tc) := by rw [hw1]; exact new0 rfl
  have p1 : w1.cell? ⟨w.heap.size, 1, none⟩ = some (.slice sa cs.length sc) := by rw [hw1]; exact new0 rfl
  have hT1 := ht.below hb1
  have hC1 := hcs.below hb1
  have hc1 := hst.below hb1
  have hs1 := hb1.size
  clear hw1 ht hcs hst
  go_wp2_with fail
  refine (hand_any ta sa tc sc ts cs w1 hT1 hC1 htn hsn Hto.out Hco.out htl hcl).mono ?_
  rintro e w2 ⟨rfl, hh2, hb2⟩
  have hs2 := hb2.size
  have Hh2 := hide hh2
  clear hh2
  go_wp2_with fail
  refine (fullSteps_both la lc sts w2 (hc1.below hb2) hln hlen).mono ?_
  rintro e w3 ⟨oa, ol, rfl, hb3, ho3⟩
  have hb13 : Below w1.heap.size w1 w3 := hb2.trans (hb3.mono hs2)
  have Ho3 := hide ho3
  have hol : sts.length ≤ ol := ho3.len
  have hs3 := hb3.size
  clear ho3
  go_upto_region 3 with fail
  go_cut [8, 9, 10] from 21 to 31 (fun s8 s9 s10 wz => ∃ va vc, s8 = .slice va (clsL ts cs sts).length vc ∧ s9 = .int .i64 (clsN ts cs sts) ∧ s10 = .int .i64 (clsE ts cs sts) ∧ Hid (wz.ownsRow w3.heap.size 50 3 (.slice va (clsL ts cs sts).length vc) (clsL ts cs sts).length (lsCells (clsL ts cs sts))) ∧ Hid (clsE ts cs sts ≠ 0 → va = none) ∧ Below w3.heap.size w3 wz)
  case first =>
    have hh3 := Hh2.out.up hb3
    have hta := Hht.out.bare
    have hca := Hcs.out.bare
    have Hh3 := hide hh3
    have Hta := hide hta
    have Hca := hide hca
    have Hst3 := hide Ho3.out.steps
    clear hh3 hta hca
    rcases Ho3.out with ⟨rfl, rfl, rfl⟩ | ⟨rfl, rfl, hr⟩
    · go_region_with (first
        | (go_at_call 29; refine (given_any (w1.heap.size + 1) ta sa tc sc ts cs _ (Hh3.out.up (Below.refl _ _).drew) Hta.out Hca.out htl hcl).mono ?_; rintro e w' ⟨ta', sa', tc', sc', ts', cs', rfl, k1, k2, k3, k4, k5⟩)
        | (go_at_call 27; refine (clause_any ta' sa' _ tc' sc' _ ts' cs' [] _ (k1.below k5) (k2.below k5) (.inl rfl) (by simp)).mono ?_; rintro e w'' ⟨va, vc, rfl, k7, k8, k6⟩))
      all_goals (have e1 := same_clsL k3 k4; have e2 := same_clsE k3 k4; have e3 := same_clsN k3 k4; go_wp2_with fail; go_meet; rw [e1] at k7; rw [e2] at k8; refine ⟨va, vc, by rw [e1], by rw [e3], by rw [e2], own_base k7 k5.size, fun h => (k8 h).1, (Below.refl _ _).drew.trans (k5.trans (k6.mono k5.size))⟩)
    · clear hr
      go_region_with (first
        | (go_at_call 29; refine (given_any (w1.heap.size + 1) ta sa tc sc ts cs _ (Hh3.out.up (Below.refl _ _).drew) Hta.out Hca.out htl hcl).mono ?_; rintro e w' ⟨ta', sa', tc', sc', ts', cs', rfl, k1, k2, k3, k4, k5⟩)
        | (go_at_call 27; refine (clause_any ta' sa' _ tc' sc' _ ts' cs' sts _ (k1.below k5) (k2.below k5) (Hst3.out.below ((Below.refl _ _).drew.trans k5)) hlen).mono ?_; rintro e w'' ⟨va, vc, rfl, k7, k8, k6⟩))
      all_goals (have e1 := same_clsL k3 k4; have e2 := same_clsE k3 k4; have e3 := same_clsN k3 k4; go_wp2_with fail; go_meet; rw [e1] at k7; rw [e2] at k8; refine ⟨va, vc, by rw [e1], by rw [e3], by rw [e2], own_base k7 k5.size, fun h => (k8 h).1, (Below.refl _ _).drew.trans (k5.trans (k6.mono k5.size))⟩)
  case rest =>
    obtain ⟨va, vc, rfl, rfl, rfl, Hown, Hnil, hbz⟩ := hcut
    have hs4 := hbz.size
    have hb1c : Below w1.heap.size w1 wc := hb13.trans (hbz.mono (by omega))
    have hN : Below w2.heap.size w2 wc := hb3.trans (hbz.mono hs3)
    go_wp2_with fail
    refine (still_any w1 w2 wc (w1.heap.size + 1) ta sa tc sc ts cs hb1c (by omega) Hh2.out hN hT1 hC1 hT1.bare hC1.bare Hto.out Hco.out htl hcl).mono ?_
    rintro e w5 ⟨rfl, htch⟩
    have hb15 : Below w1.heap.size w1 w5 := hb1c.trans (htch.below (by omega) hb1c.size)
    have Ho5 := hide ((Ho3.out.up hbz).touch htch (Nat.le_refl _))
    go_wp2_with fail
    refine (stillSteps_both w1 w5 la oa lc ol w2.heap.size sts hc1 hb15 hs2 hlen Ho5.out).mono ?_
    rintro e w6 ⟨rfl, hg6⟩
    have hb6 : Below w1.heap.size w1 w6 := hb15.grown hg6 hb15.size (fun k hk => by have := (Ho5.out.blk k hk).1; omega)
    have HL6 : Hid (w6.ownsRow w3.heap.size 50 3 (.slice va (clsL ts cs sts).length vc) (clsL ts cs sts).length (lsCells (clsL ts cs sts))) := by
      have h1 := own_touch Hown.out htch hs3
      refine h1.kept hg6 ?_
      by_cases hv : (Value.slice va (clsL ts cs sts).length vc).ownBlock = none
      · exact .inl hv
      · refine .inr (fun e => ?_)
        obtain ⟨k, hk⟩ := Option.ne_none_iff_exists'.1 hv
        have h2 := (h1.lt _ hk).1
        have h3 := Ho3.out.blk k (by rw [← e]; exact hk)
        omega
    have p0' := cell_below hb6 p0
    have p1' := cell_below hb6 p1
    clear p0 p1
    go_wp2_with fail
    refine (rClause_any ta sa la tc sc lc ts cs sts w6 (hT1.below hb6) (hC1.below hb6) (hc1.below hb6) hlen).mono ?_
    rintro e w7 ⟨da, dc, rfl, hD7, hb7⟩
    have hb17 : Below w.heap.size w w7 := (hb1.trans (hb6.mono hs1)).trans (hb7.mono (by have := hb6.size; omega))
    have hL7 := litsAt_of_own (own_below HL6.out hb7)
    have HO7 : Hid (w7.ownsRow w.heap.size 50 3 (.slice va (clsL ts cs sts).length vc) (clsL ts cs sts).length (lsCells (clsL ts cs sts))) := own_base (own_below HL6.out hb7) (by omega)
    have hll : (clsL ts cs sts).length ≤ 4611686018427387904 := by
      unfold clsL
      split
      · unfold inOrd
        exact Nat.le_trans (List.length_filter_le _ _) (Nat.le_trans (allL_length 9) (by omega))
      · simp
    generalize hL : clsL ts cs sts = L at *
    have HL := hide hL
    clear hL
    go_wp2_with fail
    refine (sameLits_any va da vc dc L w7 hL7 hD7 hll).mono ?_
    rintro e w8 ⟨rfl, n8, rfl⟩
    have hb18 := below_drewN hb17 n8
    have Hn2 := Hnil
    generalize clsN ts cs sts = bb at *
    generalize clsE ts cs sts = ee at *
    have hee : (ee == ee) = true := by simp
    have hbb : (bb == bb) = true := by simp
    by_cases h0 : ee = 0
    · subst h0
      go_wp2_with fail
      go_ret2
      rw [HL.out]
      exact ⟨va, vc, rfl, hb18, own_below HO7.out (below_drewN (Below.refl _ _) n8)⟩
    · have hz : (ee == 0) = false := by simpa using h0
      have hva := Hnil.out h0
      subst hva
      go_wp2_with fail
      go_ret2
      rw [HL.out]
      exact ⟨none, vc, rfl, hb18, own_below HO7.out (below_drewN (Below.refl _ _) n8)⟩
theorem clauseL_any (ta sa la : Option Addr) (tc sc lc : Nat) (ts : List Tm) (cs : List Cl) (sts : List St) (w : World) (ht : TermsAt w ta ts) (hcs : ClausesAt w sa cs) (hst : StepsAt w la sts)
    (htn : ta = none → tc = 0) (hsn : sa = none → sc = 0) (hln : la = none → lc = 0) (hto : TmsOk ts) (hco : ClsOk cs) (htl : ts.length ≤ 4398046510976) (hcl : cs.length ≤ 5864062014634) (hlen : sts.length ≤ 3518437208883) :
    Calls Try.prog 15 #[.agg #[.slice ta ts.length tc, .slice sa cs.length sc], .slice la sts.length lc] w fun e w' => ∃ va vc, e = .returned (.tuple #[.slice va (clsL ts cs sts).length vc, .bool true]) ∧ Below w.heap.size w w' :=
  (clauseL_own ta sa la tc sc lc ts cs sts w ht hcs hst htn hsn hln hto hco htl hcl hlen).mono (fun _ _ ⟨va, vc, h1, h2, _⟩ => ⟨va, vc, h1, h2⟩)
end Go.Proofs.Ytmampmbnjdncjaa
