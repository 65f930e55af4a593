import Derived.Test.YtjebhhoibofmfaaCMMy
import Derived.Test.YtjebhhoibofmfaaCMKp
namespace Go.Proofs.Ytjebhhoibofmfaa
open Go.RowKit
theorem fol_pre (ts : List Tm) (cs : List Cl) (r : List St) : ∀ (l : List St) (ss : List (Nat × Nat)), (followL ts cs l ss).length = ss.length + l.length → followL ts cs (l ++ r) ss = followL ts cs r (followL ts cs l ss)
  | [], ss, _ => rfl
  | t :: l, ss, h => by
    rw [List.cons_append]
    unfold followL at h
    rw [followL]
    split
    · rename_i hn
      rw [if_pos hn] at h
      have h' : (followL ts cs l (ss ++ [nextS ts cs ss t])).length = (ss ++ [nextS ts cs ss t]).length + l.length := by simp at h ⊢; omega
      have := fol_pre ts cs r l _ h'
      rw [this]
      conv => rhs; rw [followL, if_pos hn]
    · rename_i hn
      rw [if_neg hn] at h
      simp at h
theorem fol_turned {ts : List Tm} {cs : List Cl} {sts : List St} (h : (followL ts cs sts []).length = sts.length) {k : Nat} (hk : k < sts.length) (s : St) (hs : s.r = 5) : (followL ts cs (sts.set k s) []).length = k := by
  have ht := run_fol_take ts cs sts [] k (by simpa using h)
  have e : sts.set k s = sts.take k ++ (s :: sts.drop (k + 1)) := by rw [List.set_eq_take_append_cons_drop, if_pos hk]
  rw [e, fol_pre ts cs _ _ _ ht]
  have hn : nextB ts cs (followL ts cs (sts.take k) []) s = false := by simp [nextB, hs]
  rw [followL, hn]
  simp only [Bool.false_eq_true, if_false]
  rw [ht, List.length_take]
  simp
  omega
theorem chk_full {ts : List Tm} {cs : List Cl} {sts : List St} (hr : refuseI ts cs = 0) (h : (followL ts cs sts []).length = sts.length) : folN ts cs sts = sts.length ∧ (chkE ts cs sts = 0 ∨ chkE ts cs sts = 5) ∧
    (sts ≠ [] → emptyB (lastS (followL ts cs sts [])).1 (lastS (followL ts cs sts [])).2 = true → chkE ts cs sts = 0) := by
  have hE : folE ts cs sts = 0 := by unfold folE; rw [if_pos hr, h, if_neg (Nat.lt_irrefl _)]
  have hN : folN ts cs sts = (sts.length : Nat) := by unfold folN; rw [if_pos hr, h]
  have hS : folS ts cs sts = lastS (followL ts cs sts []) := by unfold folS; rw [if_pos hr, h, if_neg (Nat.lt_irrefl _)]
  refine ⟨hN, ?_, fun h0 he => ?_⟩
  · unfold chkE
    rw [hE, if_pos rfl]
    split
    · exact .inr rfl
    · split
      · exact .inl rfl
      · exact .inr rfl
  · have : sts.length ≠ 0 := fun e => h0 (List.eq_nil_of_length_eq_zero e)
    unfold chkE
    rw [hE, if_pos rfl, hN, if_neg (by omega), hS, he]
    rfl
theorem chk_bad {ts : List Tm} {cs : List Cl} {sts : List St} {k : Nat} (hr : refuseI ts cs = 0) (h : (followL ts cs sts []).length = k) (hk : k < sts.length) : folN ts cs sts = k ∧ chkE ts cs sts = 4 := by
  have hE : folE ts cs sts = 4 := by unfold folE; rw [if_pos hr, h, if_pos hk]
  have hN : folN ts cs sts = (k : Nat) := by unfold folN; rw [if_pos hr, h]
  refine ⟨hN, ?_⟩
  unfold chkE
  rw [hE]
  rfl
theorem cls_full {ts : List Tm} {cs : List Cl} {sts : List St} (hr : refuseI ts cs = 0) (h : (followL ts cs sts []).length = sts.length) (h1 : 1 ≤ sts.length) :
    clsE ts cs sts = 0 ∧ clsN ts cs sts = ((sts.length - 1 : Nat) : Int) ∧ clsL ts cs sts = inOrd (lastS (followL ts cs sts [])).1 (lastS (followL ts cs sts [])).2 := by
  have hE : folE ts cs sts = 0 := by unfold folE; rw [if_pos hr, h, if_neg (Nat.lt_irrefl _)]
  have hN : folN ts cs sts = (sts.length : Nat) := by unfold folN; rw [if_pos hr, h]
  have hS : folS ts cs sts = lastS (followL ts cs sts []) := by unfold folS; rw [if_pos hr, h, if_neg (Nat.lt_irrefl _)]
  have hc : clsE ts cs sts = 0 := by unfold clsE; rw [hE, if_pos rfl, hN, if_neg (by omega)]
  refine ⟨hc, ?_, ?_⟩
  · unfold clsN; rw [hE, if_pos rfl, hN, if_neg (by omega)]; omega
  · unfold clsL; rw [hc, if_pos rfl, hS]
theorem inOrd_none {s : Nat × Nat} (h : emptyB s.1 s.2 = true) : inOrd s.1 s.2 = [] := by
  unfold emptyB at h
  simp only [Bool.and_eq_true, decide_eq_true_eq] at h
  rw [h.1, h.2]
  unfold inOrd
  rw [List.filter_eq_nil_iff]
  intro t _
  rw [has_zero]
  simp
theorem Steps.take {w : World} {a : Option Addr} {sts : List St} (h : StepsAt w a sts) (n : Nat) : StepsAt w a (sts.take n) := by
  rcases h with h | ⟨b, o, rfl, h⟩
  · exact .inl (by rw [h]; simp)
  · refine .inr ⟨b, o, rfl, fun i hi => ?_⟩
    have hi' : i < sts.length := by simp at hi; omega
    have hin : i < n := by simp at hi; omega
    have e : (sts.take n).getD i st0 = sts.getD i st0 := by
      rw [List.getD_eq_getElem?_getD, List.getD_eq_getElem?_getD, List.getElem?_take, if_pos hin]
    rw [e]; exact h i hi'
theorem own_box {B g i : Nat} {w : World} {e : TypeId} {size n : Nat} {v : Value} {xs : List Value} {cur : Array Value} {t : TypeId} (h : w.ownsRow B e size v n xs) (hg : w.heap[g]? = some (.cells cur t (0, 0))) (hne : t ≠ e) (x : Value) : (w.setCell ⟨g, i, none⟩ x).ownsRow B e size v n xs := by
  have hK : Keeps [g] w (w.setCell ⟨g, i, none⟩ x) := (Keeps.refl _ _).set (by simp) _
  obtain ⟨a, cap, rfl⟩ := own_val h
  refine own_keep h hK (fun b hb hm => ?_)
  have : b = g := by simpa using hm
  subst this
  exact own_not h hg (fun cur' e' => by injection e' with _ e'; exact hne e') hb
theorem CsOwn.box {B g i : Nat} {w : World} {v : Value} {cs : List Cl} {cur : Array Value} (h : CsOwn B w v cs) (hg : w.heap[g]? = some (.cells cur 33 (0, 0))) (x : Value) : CsOwn B (w.setCell ⟨g, i, none⟩ x) v cs :=
  ⟨own_box h.1 hg (by decide) x, fun j hj => own_box (h.2 j hj) hg (by decide) x⟩
theorem CsOwn.two {B : Nat} {w1 w2 : World} {pv pv' : Value} {cs : List Cl} {c1 c2 : Cl} (h : CsOwn B w1 pv cs) (h1 : w1.ownsRow B 50 3 (clVal c1) c1.ls.length (lsCells c1.ls)) (h2 : w1.ownsRow B 50 3 (clVal c2) c2.ls.length (lsCells c2.ls))
    (ho : w2.ownsRow B 43 1 pv' (cs.length + 2) (csCells cs ++ [clVal c1, clVal c2])) (hg : w1.grownBy w2 pv.ownBlock) : CsOwn B w2 pv' (cs ++ [c1] ++ [c2]) := by
  have ht : ∀ g, pv.ownBlock = some g → ∃ cur e', w1.heap[g]? = some (.cells cur e' (0, 0)) ∧ e' ≠ 50 := own_type h.1 (by decide)
  refine ⟨?_, fun i hi => ?_⟩
  · rw [csCells_snoc, csCells_snoc, List.append_assoc]
    simpa using ho
  · simp only [List.length_append, List.length_cons, List.length_nil] at hi
    by_cases h3 : i < cs.length
    · rw [getD_snoc_lt _ _ _ (by simp; omega), getD_snoc_lt _ _ _ h3]
      exact own_apart (h.2 i h3) hg ht
    · by_cases h4 : i = cs.length
      · subst h4
        rw [getD_snoc_lt _ _ _ (by simp), getD_snoc_eq]
        exact own_apart h1 hg ht
      · have : i = (cs ++ [c1]).length := by simp; omega
        subst this
        rw [getD_snoc_eq]
        exact own_apart h2 hg ht
theorem miss_no {ts : List Tm} {cs : List Cl} (hf : First4 ts) {c1 c2 : Cl} (e1 : c1.ls = [⟨0, 1, false⟩]) (e2 : c2.ls = [⟨2, 3, true⟩]) {c : List Int} (hs : soundB ts c = true) (hh : allHoldB c (cs ++ [c1] ++ [c2]) = true) : False := by
  obtain ⟨h4, _, _, ⟨s2, a2⟩, s3, a3⟩ := hf
  unfold allHoldB at hh
  have g1 := allB_iff.1 hh cs.length (by simp)
  have g2 := allB_iff.1 hh (cs.length + 1) (by simp)
  rw [getD_snoc_lt _ _ _ (by simp), getD_snoc_eq, e1] at g1
  have e3 : cs.length + 1 = (cs ++ [c1]).length := by simp
  rw [e3, getD_snoc_eq, e2] at g2
  simp [holdsB, anyB, litB, eqB, cls] at g1 g2
  have hm : mustB ts c 3 2 = true := by
    unfold mustB
    rw [s2, a2, s3, a3]
    simp [alikeB, argsEq, allB, eqB, cls, List.range_succ, g1]
  exact g2 (sound_eq hs (by omega) (by omega) hm).symm
theorem own_turn {w : World} {base g : Nat} {vc : Nat} {sts : List St} (h : w.ownsRow base 62 5 (.slice (some ⟨g, 0, none⟩) sts.length vc) sts.length (stCells sts)) {k : Nat} (hk : k < sts.length) (x : Int) :
    StepsAt (w.setCell ⟨g, k * 5, none⟩ (.int .i64 x)) (some ⟨g, 0, none⟩) (sts.set k { sts.getD k st0 with r := x }) ∧ w.cell? ⟨g, k * 5, none⟩ = some (.int .i64 (sts.getD k st0).r) ∧ w.frozen? ⟨g, k * 5, none⟩ = false ∧ base ≤ g := by
  have hA : ∀ i, i < sts.length → w.cell? ⟨g, i * 5, none⟩ = some (.int .i64 (sts.getD i st0).r) ∧ w.cell? ⟨g, i * 5 + 1, none⟩ = some (.int .i64 (sts.getD i st0).a) ∧ w.cell? ⟨g, i * 5 + 2, none⟩ = some (.int .i64 (sts.getD i st0).b) ∧ w.cell? ⟨g, i * 5 + 3, none⟩ = some (.int .i64 (sts.getD i st0).c) ∧ w.cell? ⟨g, i * 5 + 4, none⟩ = some (.int .i64 (sts.getD i st0).d) := by
    intro i hi
    obtain ⟨b, o, e, hc⟩ := (stepsAt_of_own h).get hi
    injection e with e
    injection e with e1 e2
    subst e1
    subst e2
    simpa using hc i hi
  have hfr : w.frozen? ⟨g, k * 5, none⟩ = false ∧ base ≤ g := by
    rcases h.2 with ⟨hv, _⟩ | ⟨g', cap, cur, hv, hb, hg, _⟩
    · injection hv with hv; cases hv
    · injection hv with hv
      injection hv with hv
      injection hv with hv
      subst hv
      exact ⟨frozen_of_row _ _ _ _ _ hg, hb⟩
  refine ⟨.inr ⟨g, 0, rfl, fun i hi => ?_⟩, (hA k hk).1, hfr⟩
  rw [List.length_set] at hi
  obtain ⟨c0, c1, c2, c3, c4⟩ := hA i hi
  simp only [Nat.zero_add]
  by_cases e : i = k
  · subst e
    have e2 : (sts.set i { sts.getD i st0 with r := x }).getD i st0 = { sts.getD i st0 with r := x } := by
      rw [List.getD_eq_getElem?_getD, List.getElem?_set, if_pos rfl, if_pos hi]; rfl
    rw [e2]
    exact ⟨set_same c0, set_other (.inr (by omega)) c1, set_other (.inr (by omega)) c2, set_other (.inr (by omega)) c3, set_other (.inr (by omega)) c4⟩
  · have e2 : (sts.set k { sts.getD k st0 with r := x }).getD i st0 = sts.getD i st0 := by
      rw [List.getD_eq_getElem?_getD, List.getElem?_set, if_neg (fun e' => e e'.symm), ← List.getD_eq_getElem?_getD]
    rw [e2]
    exact ⟨set_other (.inr (by omega)) c0, set_other (.inr (by omega)) c1, set_other (.inr (by omega)) c2, set_other (.inr (by omega)) c3, set_other (.inr (by omega)) c4⟩
end Go.Proofs.Ytjebhhoibofmfaa
