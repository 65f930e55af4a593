import Derived.Test.YtmampmbnjdncjaaDMCz
import Derived.Test.YtmampmbnjdncjaaDMSs
import Derived.Test.YtmampmbnjdncjaaDMSt
import Derived.Test.YtmampmbnjdncjaaDXStB
namespace Go.Proofs.Ytmampmbnjdncjaa
open Go.RowKit
theorem SameT.at {ts ts' : List Tm} (h : SameT ts ts') (i : Nat) : (ts'.getD i tm0).sym = (ts.getD i tm0).sym ∧ (ts'.getD i tm0).args = (ts.getD i tm0).args := by
  by_cases hi : i < ts.length
  · exact h.2 i hi
  · rw [List.getD_eq_getElem?_getD, List.getD_eq_getElem?_getD, List.getElem?_eq_none (by rw [h.1]; omega), List.getElem?_eq_none (by omega)]
    exact ⟨rfl, rfl⟩
theorem SameC.at {cs cs' : List Cl} (h : SameC cs cs') (i : Nat) : (cs'.getD i cl0).ls = (cs.getD i cl0).ls := by
  by_cases hi : i < cs.length
  · exact h.2 i hi
  · rw [List.getD_eq_getElem?_getD, List.getD_eq_getElem?_getD, List.getElem?_eq_none (by rw [h.1]; omega), List.getElem?_eq_none (by omega)]
theorem same_nextB {ts ts' : List Tm} {cs cs' : List Cl} (h : SameT ts ts') (k : SameC cs cs') (ss : List (Nat × Nat)) (s : St) : nextB ts' cs' ss s = nextB ts cs ss s := by
  unfold nextB okC
  rw [h.1, k.1, (h.at _).1, (h.at _).1, (h.at _).2, (h.at _).2]
theorem same_nextS {ts ts' : List Tm} {cs cs' : List Cl} (h : SameT ts ts') (k : SameC cs cs') (ss : List (Nat × Nat)) (s : St) : nextS ts' cs' ss s = nextS ts cs ss s := by
  unfold nextS setC setG
  rw [k.at, (h.at _).2, (h.at _).2]
theorem same_follow {ts ts' : List Tm} {cs cs' : List Cl} (h : SameT ts ts') (k : SameC cs cs') : ∀ (sts : List St) (ss : List (Nat × Nat)), followL ts' cs' sts ss = followL ts cs sts ss
  | [], _ => rfl
  | s :: l, ss => by
    unfold followL
    rw [same_nextB h k, same_nextS h k]
    split
    · exact same_follow h k l _
    · rfl
theorem same_folE {ts ts' : List Tm} {cs cs' : List Cl} (h : SameT ts ts') (k : SameC cs cs') (sts : List St) : folE ts' cs' sts = folE ts cs sts := by
  unfold folE; rw [same_refuse h k, same_follow h k]
theorem same_folN {ts ts' : List Tm} {cs cs' : List Cl} (h : SameT ts ts') (k : SameC cs cs') (sts : List St) : folN ts' cs' sts = folN ts cs sts := by
  unfold folN; rw [same_refuse h k, same_follow h k]
theorem same_folS {ts ts' : List Tm} {cs cs' : List Cl} (h : SameT ts ts') (k : SameC cs cs') (sts : List St) : folS ts' cs' sts = folS ts cs sts := by
  unfold folS; rw [same_refuse h k, same_follow h k]
theorem same_chkE {ts ts' : List Tm} {cs cs' : List Cl} (h : SameT ts ts') (k : SameC cs cs') (sts : List St) : chkE ts' cs' sts = chkE ts cs sts := by
  unfold chkE; rw [same_folE h k, same_folN h k, same_folS h k]
theorem same_clsE {ts ts' : List Tm} {cs cs' : List Cl} (h : SameT ts ts') (k : SameC cs cs') (sts : List St) : clsE ts' cs' sts = clsE ts cs sts := by
  unfold clsE; rw [same_folE h k, same_folN h k]
theorem same_clsN {ts ts' : List Tm} {cs cs' : List Cl} (h : SameT ts ts') (k : SameC cs cs') (sts : List St) : clsN ts' cs' sts = clsN ts cs sts := by
  unfold clsN; rw [same_folE h k, same_folN h k]
theorem same_clsL {ts ts' : List Tm} {cs cs' : List Cl} (h : SameT ts ts') (k : SameC cs cs') (sts : List St) : clsL ts' cs' sts = clsL ts cs sts := by
  unfold clsL; rw [same_clsE h k, same_folS h k]
theorem own_touch {H N : Nat} {w w' : World} {base : Nat} {e : TypeId} {size : Nat} {v : Value} {n : Nat} {xs : List Value} (h : w.ownsRow base e size v n xs) (ht : Touch H N w w') (hN : N ≤ base) : w'.ownsRow base e size v n xs := by
  refine ⟨h.1, ?_⟩
  rcases h.2 with h2 | ⟨g, cap, cur, hv, hb, hg, r⟩
  · exact .inl h2
  · exact .inr ⟨g, cap, cur, hv, hb, by rw [ht.block g (Array.getElem?_eq_some_iff.1 hg).1 (.inr (by omega))]; exact hg, r⟩
def FullAt (oa : Option Addr) (ol B : Nat) (sts : List St) (w : World) : Prop := (oa = none ∧ ol = 0 ∧ sts = []) ∨ (oa = some ⟨B, 0, none⟩ ∧ ol = sts.length + 8 ∧ SRow w B (fullS sts))
theorem FullAt.steps {oa : Option Addr} {ol B : Nat} {sts : List St} {w : World} (h : FullAt oa ol B sts w) : StepsAt w oa sts := by
  rcases h with ⟨_, _, h⟩ | ⟨h, _, hr⟩
  · exact .inl h
  · rw [h]; exact steps_of_full hr
theorem FullAt.len {oa : Option Addr} {ol B : Nat} {sts : List St} {w : World} (h : FullAt oa ol B sts w) : sts.length ≤ ol := by
  rcases h with ⟨_, _, h⟩ | ⟨_, h, _⟩
  · rw [h]; simp
  · omega
theorem FullAt.up {oa : Option Addr} {ol B : Nat} {sts : List St} {w w' : World} (h : FullAt oa ol B sts w) (hb : Below w.heap.size w w') : FullAt oa ol B sts w' := by
  rcases h with h | ⟨h1, h2, hr⟩
  · exact .inl h
  · exact .inr ⟨h1, h2, hr.up hb⟩
theorem FullAt.touch {oa : Option Addr} {ol B H N : Nat} {sts : List St} {w w' : World} (h : FullAt oa ol B sts w) (ht : Touch H N w w') (hN : N ≤ B) : FullAt oa ol B sts w' := by
  rcases h with h | ⟨h1, h2, hr⟩
  · exact .inl h
  · exact .inr ⟨h1, h2, (ht.block _ hr.lt (.inr hN)).trans hr⟩
theorem FullAt.blk {oa : Option Addr} {ol B : Nat} {sts : List St} {w : World} (h : FullAt oa ol B sts w) : ∀ k, oa.map (·.block) = some k → k = B ∧ B < w.heap.size := by
  intro k hk
  rcases h with ⟨h, _⟩ | ⟨h, _, hr⟩
  · rw [h] at hk; cases hk
  · rw [h] at hk; injection hk with hk; exact ⟨hk.symm, hr.lt⟩
theorem fullSteps_both (la : Option Addr) (lc : Nat) (sts : List St) (w : World) (hc : StepsAt w la sts) (hn : la = none → lc = 0) (hlen : sts.length ≤ 3518437208883) :
    Calls Try.prog 42 #[.slice la sts.length lc] w fun e w' => ∃ (oa : Option Addr) (ol : Nat), e = .returned (.slice oa ol ol) ∧ Below w.heap.size w w' ∧ FullAt oa ol w.heap.size sts w' := by
  cases la with
  | none =>
    have h0 : sts = [] := by rcases hc with h | ⟨_, _, h, _⟩; exact h; cases h
    have := hn rfl
    subst this
    subst h0
    refine (fullSteps_nil w).mono ?_
    rintro e w' ⟨rfl, rfl⟩
    exact ⟨none, 0, rfl, Below.refl _ _, .inl ⟨rfl, rfl, rfl⟩⟩
  | some ad =>
    refine (fullSteps_any ad lc sts w hc hlen).mono ?_
    rintro e w' ⟨rfl, h1, h2⟩
    exact ⟨_, _, rfl, h2, .inr ⟨rfl, rfl, h1⟩⟩
theorem stillSteps_both (W w : World) (la oa : Option Addr) (lc ol B : Nat) (sts : List St) (hc : StepsAt W la sts) (hW : Below W.heap.size W w) (hB : W.heap.size ≤ B) (hlen : sts.length ≤ 3518437208883) (ho : FullAt oa ol B sts w) :
    Calls Try.prog 43 #[.slice oa ol ol, .slice la sts.length lc] w fun e w' => e = .returned (.bool true) ∧ w.grownBy w' (oa.map (·.block)) := by
  rcases ho with ⟨rfl, rfl, rfl⟩ | ⟨rfl, rfl, hr⟩
  · refine (stillSteps_nil _ _ _ _).mono ?_
    rintro e w' ⟨rfl, rfl⟩
    exact ⟨rfl, World.grownBy.refl _ _⟩
  · exact stillSteps_any W B (sts.length + 8) (sts.length + 8) (fullS sts) la lc sts w hW hB hc hr (by rw [fullS_length]; omega) (by rw [fullS_length]; omega) (fullS_mt sts)
set_option maxRecDepth 100000 in
set_option maxHeartbeats 2000000 in
theorem checkL_any (ta sa la : Option Addr) (tc sc lc : Nat) (ts : List Tm) (cs : List Cl) (sts : List St) (w : World) (ht : TermsAt w ta ts) (hcs : ClausesAt w sa cs) (hst : StepsAt w la sts)
    (htn : ta = none → tc = 0) (hsn : sa = none → sc = 0) (hln : la = none → lc = 0) (hto : TmsOk ts) (hco : ClsOk cs) (htl : ts.length ≤ 4398046510976) (hcl : cs.length ≤ 5864062014634) (hlen : sts.length ≤ 3518437208883) :
    Calls Try.prog 16 #[.agg #[.slice ta ts.length tc, .slice sa cs.length sc], .slice la sts.length lc] w fun e w' => e = .returned (.bool true) ∧ Below w.heap.size w w' := by
  have Hto := hide hto
  have Hco := hide hco
  have Hht := hide ht
  have Hcs := hide hcs
  clear hto hco
  go_enter Try.func16, Try.ntmps16
  go_upto_region 1 with fail
  obtain ⟨w1, hw1⟩ : ∃ w1, w1 = w.alloc (.cells #[.slice ta ts.length tc, .slice sa cs.length sc] 33) := ⟨_, rfl⟩
  rw [← hw1]
  have hb1 : Below w.heap.size w w1 := by rw [hw1]; exact (Below.refl _ _).alloc (Nat.le_refl _) _
  have p0 : w1.cell? ⟨w.heap.size, 0, none⟩ = some (.slice ta ts.length tc) := by rw [hw1]; exact new0 rfl
  have p1 : w1.cell? ⟨w.heap.size, 1, none⟩ = some (.slice sa cs.length sc) := by rw [hw1]; exact new0 rfl
  have hT1 := ht.below hb1
  have hC1 := hcs.below hb1
  have hc1 := hst.below hb1
  have hs1 := hb1.size
  clear hw1 ht hcs hst
  go_wp2_with fail
  refine (hand_any ta sa tc sc ts cs w1 hT1 hC1 htn hsn Hto.out Hco.out htl hcl).mono ?_
  rintro e w2 ⟨rfl, hh2, hb2⟩
  have hs2 := hb2.size
  have Hh2 := hide hh2
  clear hh2
  go_wp2_with fail
  refine (fullSteps_both la lc sts w2 (hc1.below hb2) hln hlen).mono ?_
  rintro e w3 ⟨oa, ol, rfl, hb3, ho3⟩
  have hb13 : Below w1.heap.size w1 w3 := hb2.trans (hb3.mono hs2)
  have Ho3 := hide ho3
  have hol : sts.length ≤ ol := ho3.len
  have hs3 := hb3.size
  clear ho3
  go_upto_region 3 with fail
  go_cut [7, 8] from 17 to 26 (fun s7 s8 wz => s7 = .int .i64 (folN ts cs sts) ∧ s8 = .int .i64 (chkE ts cs sts) ∧ Below w3.heap.size w3 wz)
  case first =>
    have hh3 := Hh2.out.up hb3
    have hta := Hht.out.bare
    have hca := Hcs.out.bare
    have Hh3 := hide hh3
    have Hta := hide hta
    have Hca := hide hca
    have Hst3 := hide Ho3.out.steps
    clear hh3 hta hca
    rcases Ho3.out with ⟨rfl, rfl, rfl⟩ | ⟨rfl, rfl, hr⟩
    · go_region_with (first
        | (go_at_call 29; refine (given_any (w1.heap.size + 1) ta sa tc sc ts cs _ (Hh3.out.up (Below.refl _ _).drew) Hta.out Hca.out htl hcl).mono ?_; rintro e w' ⟨ta', sa', tc', sc', ts', cs', rfl, k1, k2, k3, k4, k5⟩)
        | (go_at_call 14; refine (check_any ta' sa' _ tc' sc' _ ts' cs' [] _ (k1.below k5) (k2.below k5) (.inl rfl) (by simp)).mono ?_; rintro e w'' ⟨rfl, k6⟩))
      all_goals (go_wp2_with fail; go_meet; exact ⟨by rw [same_folN k3 k4], by rw [same_chkE k3 k4], (Below.refl _ _).drew.trans (k5.trans (k6.mono k5.size))⟩)
    · clear hr
      go_region_with (first
        | (go_at_call 29; refine (given_any (w1.heap.size + 1) ta sa tc sc ts cs _ (Hh3.out.up (Below.refl _ _).drew) Hta.out Hca.out htl hcl).mono ?_; rintro e w' ⟨ta', sa', tc', sc', ts', cs', rfl, k1, k2, k3, k4, k5⟩)
        | (go_at_call 14; refine (check_any ta' sa' _ tc' sc' _ ts' cs' sts _ (k1.below k5) (k2.below k5) (Hst3.out.below ((Below.refl _ _).drew.trans k5)) hlen).mono ?_; rintro e w'' ⟨rfl, k6⟩))
      all_goals (go_wp2_with fail; go_meet; exact ⟨by rw [same_folN k3 k4], by rw [same_chkE k3 k4], (Below.refl _ _).drew.trans (k5.trans (k6.mono k5.size))⟩)
  case rest =>
    obtain ⟨rfl, rfl, hbz⟩ := hcut
    have hs4 := hbz.size
    have hb1c : Below w1.heap.size w1 wc := hb13.trans (hbz.mono (by omega))
    have hN : Below w2.heap.size w2 wc := hb3.trans (hbz.mono hs3)
    go_wp2_with fail
    refine (still_any w1 w2 wc (w1.heap.size + 1) ta sa tc sc ts cs hb1c (by omega) Hh2.out hN hT1 hC1 hT1.bare hC1.bare Hto.out Hco.out htl hcl).mono ?_
    rintro e w5 ⟨rfl, htch⟩
    have hb15 : Below w1.heap.size w1 w5 := hb1c.trans (htch.below (by omega) hb1c.size)
    have Ho5 := hide ((Ho3.out.up hbz).touch htch (Nat.le_refl _))
    go_wp2_with fail
    refine (stillSteps_both w1 w5 la oa lc ol w2.heap.size sts hc1 hb15 hs2 hlen Ho5.out).mono ?_
    rintro e w6 ⟨rfl, hg6⟩
    have hb6 : Below w1.heap.size w1 w6 := hb15.grown hg6 hb15.size (fun k hk => by have := (Ho5.out.blk k hk).1; omega)
    have p0' := cell_below hb6 p0
    have p1' := cell_below hb6 p1
    clear p0 p1
    go_wp2_with fail
    refine (rCheck_any ta sa la tc sc lc ts cs sts w6 (hT1.below hb6) (hC1.below hb6) (hc1.below hb6) hlen).mono ?_
    rintro e w7 ⟨rfl, hb7⟩
    have hb17 : Below w.heap.size w w7 := (hb1.trans (hb6.mono hs1)).trans (hb7.mono (by have := hb6.size; omega))
    generalize folN ts cs sts = bb at *
    generalize chkE ts cs sts = ee at *
    have hee : (ee == ee) = true := by simp
    have hbb : (bb == bb) = true := by simp
    go_wp2_with fail
    go_ret
    exact ⟨rfl, hb17⟩
end Go.Proofs.Ytmampmbnjdncjaa
