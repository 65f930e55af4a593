import Derived.Test.YtjebhhoibofmfaaXLwI
import Derived.Test.YtjebhhoibofmfaaXStA
namespace Go.Proofs.Ytjebhhoibofmfaa
open Go.RowKit

theorem allB_congr {n m : Nat} {p q : Nat → Bool} (hn : n = m) (h : ∀ t, t < n → p t = q t) : allB n p = allB m q := by
  subst hn
  rw [Bool.eq_iff_iff, allB_iff, allB_iff]
  exact ⟨fun k t ht => by rw [← h t ht]; exact k t ht, fun k t ht => by rw [h t ht]; exact k t ht⟩

theorem SameT.len {ts ts' : List Tm} (h : SameT ts ts') : ts'.length = ts.length := h.1
theorem SameT.termsB {ts ts' : List Tm} (h : SameT ts ts') : termsB ts' = termsB ts := by
  unfold Go.Proofs.Ytjebhhoibofmfaa.termsB
  rw [h.1]
  congr 1
  refine allB_congr rfl (fun t ht => ?_)
  obtain ⟨h1, h2⟩ := h.2 t ht
  unfold termB
  rw [h1, h2]
theorem SameT.must {ts ts' : List Tm} (h : SameT ts ts') (c : List Int) {i j : Nat} (hi : i < ts.length) (hj : j < ts.length) : mustB ts' c i j = mustB ts c i j := by
  obtain ⟨h1, h2⟩ := h.2 i hi
  obtain ⟨h3, h4⟩ := h.2 j hj
  unfold mustB
  rw [h1, h2, h3, h4]
theorem SameT.soundB {ts ts' : List Tm} (h : SameT ts ts') (c : List Int) : soundB ts' c = soundB ts c := by
  unfold Go.Proofs.Ytjebhhoibofmfaa.soundB
  rw [h.1]
  refine allB_congr rfl (fun i hi => allB_congr rfl (fun j hj => ?_))
  unfold forcedB
  rw [h.must c hi (by omega)]
theorem SameC.clausesB {cs cs' : List Cl} (h : SameC cs cs') (n : Int) : clausesB n cs' = clausesB n cs := by
  unfold Go.Proofs.Ytjebhhoibofmfaa.clausesB
  rw [h.1]
  congr 1
  refine allB_congr rfl (fun t ht => ?_)
  rw [h.2 t ht]
theorem SameC.allHoldB {cs cs' : List Cl} (h : SameC cs cs') (c : List Int) : allHoldB c cs' = allHoldB c cs := by
  unfold Go.Proofs.Ytjebhhoibofmfaa.allHoldB
  rw [h.1]
  refine allB_congr rfl (fun t ht => ?_)
  rw [h.2 t ht]
theorem same_refuse {ts ts' : List Tm} {cs cs' : List Cl} (h : SameT ts ts') (k : SameC cs cs') : refuseI ts' cs' = refuseI ts cs := by
  unfold refuseI
  rw [h.termsB, h.1, k.clausesB]
theorem same_trueB {ts ts' : List Tm} {cs cs' : List Cl} (h : SameT ts ts') (k : SameC cs cs') (c : List Int) : trueB ts' cs' c = trueB ts cs c := by
  unfold trueB
  rw [same_refuse h k, h.1, h.soundB, k.allHoldB]
theorem same_trueE {ts ts' : List Tm} {cs cs' : List Cl} (h : SameT ts ts') (k : SameC cs cs') (c : List Int) : trueE ts' cs' c = trueE ts cs c := by
  unfold trueE
  rw [same_refuse h k, h.1]

theorem TermsAt.bare {w : World} {a : Option Addr} {ts : List Tm} (h : TermsAt w a ts) : ∀ i, i < ts.length → (ts.getD i tm0).a = none → (ts.getD i tm0).args = [] := by
  intro i hi hn
  obtain ⟨_, _, _, hc⟩ := h.get hi
  rcases (hc i hi).2.2 with h1 | ⟨_, _, h1, _⟩
  · exact h1
  · rw [hn] at h1; cases h1
theorem ClausesAt.bare {w : World} {a : Option Addr} {cs : List Cl} (h : ClausesAt w a cs) : ∀ i, i < cs.length → (cs.getD i cl0).a = none → (cs.getD i cl0).ls = [] := by
  intro i hi hn
  obtain ⟨_, _, _, hc⟩ := h.get hi
  rcases (hc i hi).2 with h1 | ⟨_, _, h1, _⟩
  · exact h1
  · rw [hn] at h1; cases h1

theorem HandAt.up {H : Nat} {w w' : World} {ta sa : Option Addr} {ts : List Tm} {cs : List Cl} {tsl csl : Value} (h : HandAt H w ta sa ts cs tsl csl) (hb : Below w.heap.size w w') : HandAt H w' ta sa ts cs tsl csl := by
  obtain ⟨T, A, C, L, g, cg, M, bs, cbs, hH, hT, hlow, hM, hC⟩ := h
  refine ⟨T, A, C, L, g, cg, M, bs, cbs, (hb.block _ (Array.getElem?_eq_some_iff.1 hH).1).trans hH, ?_, hlow, hM, ?_⟩
  · rcases hT with h | ⟨h1, h2, h3⟩
    · exact .inl h
    · exact .inr ⟨h1, h2, h3.up hb⟩
  · rcases hC with h | ⟨h1, h2, h3⟩
    · exact .inl h
    · exact .inr ⟨h1, h2, h3.up hb⟩
end Go.Proofs.Ytjebhhoibofmfaa
