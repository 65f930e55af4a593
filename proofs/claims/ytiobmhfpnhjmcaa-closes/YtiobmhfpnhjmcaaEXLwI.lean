import Derived.Test.YtiobmhfpnhjmcaaEXLwH
namespace Go.Proofs.Ytiobmhfpnhjmcaa
open Go.RowKit
def SameT (ts ts' : List Tm) : Prop := ts'.length = ts.length ∧ ∀ i, i < ts.length → (ts'.getD i tm0).sym = (ts.getD i tm0).sym ∧ (ts'.getD i tm0).args = (ts.getD i tm0).args
def SameC (cs cs' : List Cl) : Prop := cs'.length = cs.length ∧ ∀ i, i < cs.length → (cs'.getD i cl0).ls = (cs.getD i cl0).ls
def hts (ts : List Tm) (bs : List Nat) : List Tm := tabG ts.length (fun j => hTm (ts.getD j tm0) (bs.getD j 0))
theorem hts_length (ts : List Tm) (bs : List Nat) : (hts ts bs).length = ts.length := tabG_length _ _
theorem hTm_sym (t : Tm) (b : Nat) : (hTm t b).sym = t.sym ∧ (hTm t b).args = t.args := by
  unfold hTm; split <;> exact ⟨rfl, rfl⟩
theorem hts_same (ts : List Tm) (bs : List Nat) : SameT ts (hts ts bs) :=
  ⟨hts_length _ _, fun i hi => by unfold hts; rw [tabG_getD _ _ _ hi]; exact hTm_sym _ _⟩
def hcl (q : Cl) (b : Nat) : Cl := match q.a with
  | none => ⟨none, 0, q.ls⟩
  | some _ => ⟨some ⟨b, 0, none⟩, q.ls.length + 8, q.ls⟩
def hcs (cs : List Cl) (bs : List Nat) : List Cl := tabG cs.length (fun j => hcl (cs.getD j cl0) (bs.getD j 0))
theorem hcs_length (cs : List Cl) (bs : List Nat) : (hcs cs bs).length = cs.length := tabG_length _ _
theorem hcl_ls (q : Cl) (b : Nat) : (hcl q b).ls = q.ls := by unfold hcl; split <;> rfl
theorem hcs_same (cs : List Cl) (bs : List Nat) : SameC cs (hcs cs bs) :=
  ⟨hcs_length _ _, fun i hi => by unfold hcs; rw [tabG_getD _ _ _ hi]; exact hcl_ls _ _⟩
theorem full_getD {xs : List Int} {i : Nat} (h : i < xs.length) : (full xs).getD i 0 = xs.getD i 0 := by
  simp [full, List.getElem?_append_left h]
theorem fullL_getD {xs : List Lt} {i : Nat} (h : i < xs.length) : (fullL xs).getD i lt0 = xs.getD i lt0 := by
  simp [fullL, List.getElem?_append_left h]
theorem HT.terms {B g : Nat} {w : World} {ts : List Tm} {bs : List Nat} {A : Value} (h : HT B g w ts bs A (ts.length + 8)) (hargs : ∀ i, i < ts.length → (ts.getD i tm0).a = none → (ts.getD i tm0).args = []) : TermsAt w (some ⟨g, 0, none⟩) (hts ts bs) := by
  obtain ⟨h1, h2, h3, h4, h5, h6⟩ := h
  refine .inr ⟨g, 0, rfl, fun i hi => ?_⟩
  rw [hts_length] at hi
  have hc := h3.cell (k := i) (by rw [tDone_length]; omega)
  have e : (tDone ts bs (ts.length + 8)).getD i tm0 = (hts ts bs).getD i tm0 := by
    unfold tDone hts
    rw [tabG_getD _ _ _ (by omega), tabG_getD _ _ _ hi, if_pos (by omega), if_pos hi]
  rw [e] at hc
  refine ⟨by rw [Nat.zero_add]; exact hc.1, by rw [Nat.zero_add]; exact hc.2, ?_⟩
  have e2 : (hts ts bs).getD i tm0 = hTm (ts.getD i tm0) (bs.getD i 0) := by unfold hts; rw [tabG_getD _ _ _ hi]
  rw [e2]
  have hr := h5 i (by rw [h2, Nat.min_eq_right (by omega)]; exact hi)
  have ha := hargs i hi
  generalize ts.getD i tm0 = t at *
  obtain ⟨s, a, c, xs⟩ := t
  cases a with
  | none => exact .inl (ha rfl)
  | some y =>
    have hrow := hr.2 y rfl
    refine .inr ⟨bs.getD i 0, 0, rfl, fun k hk => ?_⟩
    rw [Nat.zero_add]
    have hk' : k < xs.length := hk
    have := hrow.cell (k := k) (by rw [full_length]; exact Nat.lt_of_lt_of_le hk' (by simp))
    rw [full_getD hk'] at this
    exact this
theorem HC.clauses {B g : Nat} {w : World} {cs : List Cl} {bs : List Nat} {L : Value} (h : HC B g w cs bs L (cs.length + 8)) (hargs : ∀ i, i < cs.length → (cs.getD i cl0).a = none → (cs.getD i cl0).ls = []) : ClausesAt w (some ⟨g, 0, none⟩) (hcs cs bs) := by
  obtain ⟨h1, h2, h3, h4, h5, h6⟩ := h
  refine .inr ⟨g, 0, rfl, fun i hi => ?_⟩
  rw [hcs_length] at hi
  have hc := h3.cell (k := i) (by rw [cDone_length]; omega)
  have e : (cDone cs bs (cs.length + 8)).getD i undef = hCl (cs.getD i cl0) (bs.getD i 0) := by
    unfold cDone
    rw [tabG_getD _ _ _ (by omega), if_pos (by omega)]
    unfold cVal
    rw [if_pos hi]
  rw [e] at hc
  have e2 : (hcs cs bs).getD i cl0 = hcl (cs.getD i cl0) (bs.getD i 0) := by unfold hcs; rw [tabG_getD _ _ _ hi]
  rw [e2]
  have hr := h5 i (by omega)
  have ha := hargs i hi
  have hcl0 : cRowLits cs i = fullL (cs.getD i cl0).ls := by unfold cRowLits; rw [if_pos hi]
  rw [hcl0] at hr
  have hh : (cs.getD i cl0).a ≠ none → cHas cs i := fun q => .inr q
  generalize cs.getD i cl0 = t at *
  obtain ⟨a, c, xs⟩ := t
  cases a with
  | none =>
    have := ha rfl
    simp only at this
    subst this
    exact ⟨by rw [Nat.zero_add]; exact hc, .inl rfl⟩
  | some y =>
    have hrow := hr.2 (hh (by simp))
    refine ⟨by rw [Nat.zero_add]; exact hc, .inr ⟨bs.getD i 0, 0, rfl, fun k hk => ?_⟩⟩
    rw [Nat.zero_add]
    have hk' : k < xs.length := hk
    have := hrow.cell (k := k) (by rw [fullL_length]; exact Nat.lt_of_lt_of_le hk' (by simp))
    rw [fullL_getD hk'] at this
    exact this
set_option maxRecDepth 100000 in
set_option maxHeartbeats 2000000 in
theorem given_any (H : Nat) (ta sa : Option Addr) (tc sc : Nat) (ts : List Tm) (cs : List Cl) (w : World) (hh : HandAt H w ta sa ts cs (.slice ta ts.length tc) (.slice sa cs.length sc))
    (hta : ∀ i, i < ts.length → (ts.getD i tm0).a = none → (ts.getD i tm0).args = []) (hca : ∀ i, i < cs.length → (cs.getD i cl0).a = none → (cs.getD i cl0).ls = []) (htl : ts.length ≤ 4398046510976) (hcl : cs.length ≤ 5864062014634) :
    Calls Try.prog 22 #[.pointer (some ⟨H, 0, none⟩)] w fun e w' => ∃ (ta' sa' : Option Addr) (tc' sc' : Nat) (ts' : List Tm) (cs' : List Cl), e = .returned (.agg #[.slice ta' ts'.length tc', .slice sa' cs'.length sc']) ∧
      TermsAt w ta' ts' ∧ ClausesAt w sa' cs' ∧ SameT ts ts' ∧ SameC cs cs' ∧ Below w.heap.size w w' := by
  obtain ⟨T, A, C, L, g, cg, M, bs, cbs, hH, hT, hlow, hM, hC⟩ := hh
  obtain ⟨h0, h1, h2, h3, h4, h5, hf⟩ := heap6 hH
  have hltH := (Array.getElem?_eq_some_iff.1 hH).1
  have Hta := hide hta
  have Hca := hide hca
  clear hta hca hf hlow
  rcases hT with ⟨rfl, rfl, rfl, rfl⟩ | ⟨hn, rfl, hHT⟩
  · rcases hC with ⟨rfl, rfl, rfl, rfl⟩ | ⟨hnc, rfl, hHC⟩
    · clear Hta Hca
      go_enter Try.func22, Try.ntmps22
      go_upto_region 1 with fail
      go_region
      go_wp2_with fail
      exact bodyPost_ret (v := .agg #[.slice none 0 0, .slice none 0 0]) (by simp [results, Try.results22, go_sem]) rfl ⟨none, none, 0, 0, [], [], rfl, .inl rfl, .inl rfl, ⟨rfl, fun i hi => by simp at hi⟩, ⟨rfl, fun i hi => by simp at hi⟩, ((Below.refl _ _).alloc (Nat.le_refl _) _).drew⟩
    · have hca' := hHC.clauses Hca.out
      have Hcc := hide hca'
      clear Hta Hca hca' hHC
      go_enter Try.func22, Try.ntmps22
      go_upto_region 1 with fail
      go_region
      go_wp2_with fail
      exact bodyPost_ret (v := .agg #[.slice none 0 0, .slice (some ⟨cg, 0, none⟩) cs.length (cs.length + 8)]) (by simp [results, Try.results22, go_sem]) rfl ⟨none, some ⟨cg, 0, none⟩, 0, cs.length + 8, [], hcs cs cbs, by rw [hcs_length]; rfl, .inl rfl, Hcc.out, ⟨rfl, fun i hi => by simp at hi⟩, hcs_same _ _, ((Below.refl _ _).alloc (Nat.le_refl _) _).drew⟩
  · have hta' := hHT.terms Hta.out
    have Htt := hide hta'
    clear hta' hHT
    rcases hC with ⟨rfl, rfl, rfl, rfl⟩ | ⟨hnc, rfl, hHC⟩
    · clear Hta Hca
      go_enter Try.func22, Try.ntmps22
      go_upto_region 1 with fail
      go_region
      go_wp2_with fail
      exact bodyPost_ret (v := .agg #[.slice (some ⟨g, 0, none⟩) ts.length (ts.length + 8), .slice none 0 0]) (by simp [results, Try.results22, go_sem]) rfl ⟨some ⟨g, 0, none⟩, none, ts.length + 8, 0, hts ts bs, [], by rw [hts_length]; rfl, Htt.out, .inl rfl, hts_same _ _, ⟨rfl, fun i hi => by simp at hi⟩, ((Below.refl _ _).alloc (Nat.le_refl _) _).drew⟩
    · have hca' := hHC.clauses Hca.out
      have Hcc := hide hca'
      clear Hta Hca hca' hHC
      go_enter Try.func22, Try.ntmps22
      go_upto_region 1 with fail
      go_region
      go_wp2_with fail
      exact bodyPost_ret (v := .agg #[.slice (some ⟨g, 0, none⟩) ts.length (ts.length + 8), .slice (some ⟨cg, 0, none⟩) cs.length (cs.length + 8)]) (by simp [results, Try.results22, go_sem]) rfl ⟨some ⟨g, 0, none⟩, some ⟨cg, 0, none⟩, ts.length + 8, cs.length + 8, hts ts bs, hcs cs cbs, by rw [hcs_length, hts_length], Htt.out, Hcc.out, hts_same _ _, hcs_same _ _, ((Below.refl _ _).alloc (Nat.le_refl _) _).drew⟩
end Go.Proofs.Ytiobmhfpnhjmcaa
