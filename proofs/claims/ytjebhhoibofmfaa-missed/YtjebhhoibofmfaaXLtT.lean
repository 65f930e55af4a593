import Derived.Test.YtjebhhoibofmfaaXLtS
namespace Go.Proofs.Ytjebhhoibofmfaa
open Go.RowKit

theorem mustB_swap (ts : List Tm) (c : List Int) (i j : Nat) : mustB ts c i j = mustB ts c j i := by
  rw [Bool.eq_iff_iff]
  simp only [mustB, alikeB, argsEq, Bool.and_eq_true, decide_eq_true_eq, allB_iff, eqB]
  constructor
  · rintro ⟨⟨h1, h2⟩, h3⟩
    exact ⟨⟨h1.symm, h2.symm⟩, fun t ht => (h3 t (by omega)).symm⟩
  · rintro ⟨⟨h1, h2⟩, h3⟩
    exact ⟨⟨h1.symm, h2.symm⟩, fun t ht => (h3 t (by omega)).symm⟩

theorem forcedB_swap (ts : List Tm) (c : List Int) (i j : Nat) : forcedB ts c i j = forcedB ts c j i := by
  rw [forcedB, forcedB, mustB_swap ts c i j]
  congr 2
  rw [Bool.eq_iff_iff]; simp [eq_comm]

/-! What sets say. -/

/-- Two literals that are one. -/
def oneB (t u : Lt) : Bool := decide (t.n = u.n) && decide (ixN t.x t.y = ixN u.x u.y)

theorem bitN_bit (x y : Int) (p : Nat) : (bitN x y).testBit p = decide (ixN x y = p) := two_bit _ _

theorem with_has (E A : Nat) (t u : Lt) : hasS (withE E t) (withA A t) u = (hasS E A u || oneB t u) := by
  unfold hasS withE withA oneB
  cases ht : t.n <;> cases hu : u.n <;> simp [bitN_bit, Nat.testBit_or]

theorem wout_has (E A : Nat) (t u : Lt) : hasS (woutE E t) (woutA A t) u = (hasS E A u && !oneB t u) := by
  unfold hasS woutE woutA oneB
  cases ht : t.n <;> cases hu : u.n <;> simp [bitN_bit, butN_bit]

theorem or_has (E A F B : Nat) (u : Lt) : hasS (E ||| F) (A ||| B) u = (hasS E A u || hasS F B u) := by
  unfold hasS
  cases hu : u.n <;> simp [Nat.testBit_or]

theorem ofL_has : ∀ (ls : List Lt) (s : Nat × Nat) (u : Lt), hasS (ofL ls s).1 (ofL ls s).2 u = (hasS s.1 s.2 u || ls.any fun t => oneB t u)
  | [], s, u => by simp [ofL]
  | t :: ls, s, u => by
    unfold ofL
    rw [ofL_has ls, with_has]
    simp [Bool.or_assoc]

theorem has_zero (u : Lt) : hasS 0 0 u = false := by unfold hasS; split <;> simp

theorem ixN_inj {x y x' y' : Int} (hx : 0 ≤ x ∧ x < 9) (hy : 0 ≤ y ∧ y < 9) (hx' : 0 ≤ x' ∧ x' < 9) (hy' : 0 ≤ y' ∧ y' < 9) (h : ixN x y = ixN x' y') : (x = x' ∧ y = y') ∨ (x = y' ∧ y = x') := by
  have := tri_inj (l := min x.toNat y.toNat) (g := max x.toNat y.toNat) (l' := min x'.toNat y'.toNat) (g' := max x'.toNat y'.toNat) (by omega) (by omega) (by omega) (by omega) h
  omega

theorem eqB_comm (c : List Int) (x y : Int) : eqB c x y = eqB c y x := by unfold eqB; rw [Bool.eq_iff_iff]; simp [eq_comm]

theorem one_lit {t u : Lt} (c : List Int) (ht : LowL 9 t) (hu : LowL 9 u) (h : oneB t u = true) : litB c t = litB c u := by
  simp only [oneB, Bool.and_eq_true, decide_eq_true_eq] at h
  obtain ⟨h1, h2⟩ := h
  obtain ⟨a1, a2, a3, a4⟩ := ht
  obtain ⟨b1, b2, b3, b4⟩ := hu
  unfold litB
  rw [h1]
  rcases ixN_inj ⟨a1, a2⟩ ⟨a3, a4⟩ ⟨b1, b2⟩ ⟨b3, b4⟩ h2 with ⟨e1, e2⟩ | ⟨e1, e2⟩
  · rw [e1, e2]
  · rw [e1, e2, eqB_comm]

theorem one_low {n : Int} {t u : Lt} (hn : n ≤ 9) (ht : LowL n t) (hu : LowL 9 u) (h : oneB t u = true) : LowL n u := by
  simp only [oneB, Bool.and_eq_true, decide_eq_true_eq] at h
  obtain ⟨a1, a2, a3, a4⟩ := ht
  obtain ⟨b1, b2, b3, b4⟩ := hu
  rcases ixN_inj ⟨a1, by omega⟩ ⟨a3, by omega⟩ ⟨b1, b2⟩ ⟨b3, b4⟩ h.2 with ⟨e1, e2⟩ | ⟨e1, e2⟩
  · exact ⟨by omega, by omega, by omega, by omega⟩
  · exact ⟨by omega, by omega, by omega, by omega⟩

theorem one_refl (t : Lt) : oneB t t = true := by simp [oneB]

/-- The set holds with classes. -/
def SHolds (n : Int) (c : List Int) (s : Nat × Nat) : Prop := ∃ t, LowL n t ∧ hasS s.1 s.2 t = true ∧ litB c t = true
/-- The set speaks of terms below n alone. -/
def SLow (n : Int) (s : Nat × Nat) : Prop := ∀ t, LowL 9 t → hasS s.1 s.2 t = true → LowL n t

theorem slow_of {n : Int} {ls : List Lt} (hn : n ≤ 9) (h : ∀ t ∈ ls, LowL n t) : SLow n (ofL ls (0, 0)) := by
  intro u hu hh
  rw [ofL_has, has_zero, Bool.false_or, List.any_eq_true] at hh
  obtain ⟨t, ht, h1⟩ := hh
  exact one_low hn (h t ht) hu h1

theorem sholds_of {n : Int} {c : List Int} {ls : List Lt} (h : ∀ t ∈ ls, LowL n t) (hh : ∃ t ∈ ls, litB c t = true) : SHolds n c (ofL ls (0, 0)) := by
  obtain ⟨t, ht, h1⟩ := hh
  refine ⟨t, h t ht, ?_, h1⟩
  rw [ofL_has, Bool.or_eq_true]
  exact .inr (List.any_eq_true.2 ⟨t, ht, one_refl t⟩)

theorem holdsB_mem {c : List Int} {ls : List Lt} : holdsB c ls = true ↔ ∃ t ∈ ls, litB c t = true := by
  unfold holdsB
  rw [anyB_iff]
  constructor
  · rintro ⟨i, hi, h⟩; exact ⟨_, getD_mem hi, h⟩
  · rintro ⟨t, ht, h⟩
    obtain ⟨k, hk, e⟩ := List.getElem_of_mem ht
    refine ⟨k, hk, ?_⟩
    rw [List.getD_eq_getElem?_getD, List.getElem?_eq_getElem hk, Option.getD_some, e]; exact h

theorem litsIn_mem {ls : List Lt} {n : Nat} (h : LitsIn ls n) : ∀ t ∈ ls, LowL n t := by
  intro t ht
  obtain ⟨k, hk, e⟩ := List.getElem_of_mem ht
  have h2 := h.2 k hk
  rw [List.getD_eq_getElem?_getD, List.getElem?_eq_getElem hk, Option.getD_some, e] at h2
  exact ⟨h2.1.1, h2.1.2, h2.2.1, h2.2.2⟩

theorem lowL_of' {n x y : Int} {b : Bool} (hx : belowB x n = true) (hy : belowB y n = true) : LowL n ⟨x, y, b⟩ := by
  simp [belowB] at hx hy
  exact ⟨hx.1, hx.2, hy.1, hy.2⟩

/-- What a right step gives speaks of the terms alone; and it holds with sound classes with which all that it stands on holds. -/
theorem next_sure {ts : List Tm} {cs : List Cl} {ss : List (Nat × Nat)} {s : St} (hts : termsB ts = true) (hcl : clausesB ts.length cs = true) (hss : ∀ p ∈ ss, SLow (ts.length : Nat) p) (h : nextB ts cs ss s = true) :
    SLow (ts.length : Nat) (nextS ts cs ss s) ∧ ∀ c : List Int, soundB ts c = true → allHoldB c cs = true → (∀ p ∈ ss, SHolds (ts.length : Nat) c p) → SHolds (ts.length : Nat) c (nextS ts cs ss s) := by
  have h9 : ((ts.length : Nat) : Int) ≤ 9 := by have := (len_of hts).2; omega
  unfold nextB at h
  unfold nextS
  split at h
  · rename_i h0
    rw [if_pos h0]
    simp only [okG, Bool.and_eq_true] at h
    have ha : belowB s.a (cs.length : Nat) = true := allB_iff.1 h.1 0 (by simp)
    simp [belowB] at ha
    have hi : s.a.toNat < cs.length := by omega
    have hm := litsIn_mem ((clausesIn_of hcl).2 s.a.toNat hi)
    exact ⟨slow_of h9 hm, fun c _ hh _ => sholds_of hm (holdsB_mem.1 (allB_iff.1 hh s.a.toNat hi))⟩
  · rename_i h0
    rw [if_neg h0]
    split at h
    · rename_i h1
      rw [if_pos h1]
      simp only [okR, Bool.and_eq_true] at h
      have ha : belowB s.a (ts.length : Nat) = true := allB_iff.1 h.1 0 (by simp)
      have hm : ∀ t ∈ [(⟨s.a, s.a, false⟩ : Lt)], LowL (ts.length : Nat) t := by intro t ht; simp at ht; rw [ht]; exact lowL_of' ha ha
      exact ⟨slow_of h9 hm, fun c _ _ _ => sholds_of hm ⟨_, List.mem_cons_self .., by simp [litB, eqB]⟩⟩
    · rename_i h1
      rw [if_neg h1]
      split at h
      · rename_i h2
        rw [if_pos h2]
        simp only [okT, Bool.and_eq_true] at h
        have ha : belowB s.a (ts.length : Nat) = true := allB_iff.1 h.1 0 (by simp)
        have hb : belowB s.b (ts.length : Nat) = true := allB_iff.1 h.1 1 (by simp)
        have hc : belowB s.c (ts.length : Nat) = true := allB_iff.1 h.1 2 (by simp)
        have hm : ∀ t ∈ [(⟨s.a, s.b, true⟩ : Lt), ⟨s.b, s.c, true⟩, ⟨s.a, s.c, false⟩], LowL (ts.length : Nat) t := by
          intro t ht
          simp at ht
          rcases ht with rfl | rfl | rfl
          · exact lowL_of' ha hb
          · exact lowL_of' hb hc
          · exact lowL_of' ha hc
        refine ⟨slow_of h9 hm, fun c _ _ _ => sholds_of hm ?_⟩
        by_cases e1 : cls c s.a = cls c s.b
        · by_cases e2 : cls c s.b = cls c s.c
          · exact ⟨⟨s.a, s.c, false⟩, by simp, by simp [litB, eqB, e1, e2]⟩
          · exact ⟨⟨s.b, s.c, true⟩, by simp, by simp [litB, eqB, e2]⟩
        · exact ⟨⟨s.a, s.b, true⟩, by simp, by simp [litB, eqB, e1]⟩
      · rename_i h2
        rw [if_neg h2]
        split at h
        · rename_i h3
          rw [if_pos h3]
          simp only [okC, Bool.and_eq_true] at h
          have ha : belowB s.a (ts.length : Nat) = true := allB_iff.1 h.1.1 0 (by simp)
          have hb : belowB s.b (ts.length : Nat) = true := allB_iff.1 h.1.1 1 (by simp)
          have hal := h.2
          have hal' := h.2
          simp only [alikeB, Bool.and_eq_true, decide_eq_true_eq] at hal'
          have ha' := ha
          have hb' := hb
          simp [belowB] at ha' hb'
          have hia : s.a.toNat < ts.length := by omega
          have hib : s.b.toNat < ts.length := by omega
          have ai := argsIn_of hts (Nat.le_refl _) s.a.toNat hia
          have aj := argsIn_of hts (Nat.le_refl _) s.b.toNat hib
          have hm : ∀ t ∈ congL s.a s.b (ts.getD s.a.toNat tm0).args (ts.getD s.b.toNat tm0).args (ts.getD s.a.toNat tm0).args.length, LowL (ts.length : Nat) t := by
            intro t ht
            simp only [congL, List.mem_cons, List.mem_map, List.mem_range] at ht
            rcases ht with rfl | ⟨i, hi, rfl⟩
            · exact lowL_of' ha hb
            · have x := ai.2 i hi
              have y := aj.2 i (by rw [← hal'.2]; exact hi)
              exact ⟨x.1, x.2, y.1, y.2⟩
          refine ⟨slow_of h9 hm, fun c hsd _ _ => sholds_of hm ?_⟩
          cases he : argsEq c (ts.getD s.a.toNat tm0).args (ts.getD s.b.toNat tm0).args with
          | true =>
            have hmu : mustB ts c s.a.toNat s.b.toNat = true := by unfold mustB; rw [hal, he]; rfl
            have hq : cls c s.a = cls c s.b := by
              have hs : ∀ i j, j < i → i < ts.length → forcedB ts c i j = false := by
                intro i j hji hi
                have := allB_iff.1 (allB_iff.1 hsd i hi) j hji
                simpa using this
              unfold cls
              rcases Nat.lt_trichotomy s.a.toNat s.b.toNat with hlt | heq | hgt
              · have := hs s.b.toNat s.a.toNat hlt hib
                rw [forcedB_swap] at this
                unfold forcedB at this
                rw [hmu] at this
                simpa using this
              · rw [heq]
              · have := hs s.a.toNat s.b.toNat hgt hia
                unfold forcedB at this
                rw [hmu] at this
                simpa using this
            exact ⟨⟨s.a, s.b, false⟩, by simp [congL], by simp [litB, eqB, hq]⟩
          | false =>
            have : ¬ ∀ i, i < (ts.getD s.a.toNat tm0).args.length → eqB c ((ts.getD s.a.toNat tm0).args.getD i 0) ((ts.getD s.b.toNat tm0).args.getD i 0) = true := by
              intro hall
              have := allB_yes hall
              unfold argsEq at he
              rw [he] at this; cases this
            obtain ⟨i, hi⟩ := Classical.not_forall.1 this
            obtain ⟨hi1, hi2⟩ := Classical.not_imp.1 hi
            refine ⟨⟨(ts.getD s.a.toNat tm0).args.getD i 0, (ts.getD s.b.toNat tm0).args.getD i 0, true⟩, ?_, ?_⟩
            · simp only [congL, List.mem_cons, List.mem_map, List.mem_range]
              exact .inr ⟨i, hi1, rfl⟩
            · unfold litB
              simp only [Bool.not_eq_true] at hi2
              rw [hi2]; rfl
        · rename_i h3
          rw [if_neg h3]
          split at h
          · simp only [okX, Bool.and_eq_true] at h
            have ha : belowB s.a (ss.length : Nat) = true := allB_iff.1 h.1.1.1 0 (by simp)
            have hb : belowB s.b (ss.length : Nat) = true := allB_iff.1 h.1.1.1 1 (by simp)
            have hc : belowB s.c (ts.length : Nat) = true := allB_iff.1 h.1.1.2 0 (by simp)
            have hd : belowB s.d (ts.length : Nat) = true := allB_iff.1 h.1.1.2 1 (by simp)
            simp [belowB] at ha hb
            have mx := getD_memS (ls := ss) (k := s.a.toNat) (by omega)
            have my := getD_memS (ls := ss) (k := s.b.toNat) (by omega)
            have lx := hss _ mx
            have ly := hss _ my
            have l1 : LowL (ts.length : Nat) ⟨s.c, s.d, false⟩ := lowL_of' hc hd
            have l2 : LowL (ts.length : Nat) ⟨s.c, s.d, true⟩ := lowL_of' hc hd
            have up : ∀ {t : Lt}, LowL (ts.length : Nat) t → LowL 9 t := fun ht => ⟨ht.1, by have := ht.2.1; omega, ht.2.2.1, by have := ht.2.2.2; omega⟩
            unfold setX
            generalize ss.getD s.a.toNat (0, 0) = x at *
            generalize ss.getD s.b.toNat (0, 0) = y at *
            refine ⟨?_, fun c _ _ hall => ?_⟩
            · intro t ht hh
              simp only [or_has, wout_has, Bool.or_eq_true, Bool.and_eq_true] at hh
              rcases hh with hh | hh
              · exact lx t ht hh.1
              · exact ly t ht hh.1
            · obtain ⟨t, ht, ht1, ht2⟩ := hall x mx
              cases h1 : oneB ⟨s.c, s.d, false⟩ t with
              | false =>
                refine ⟨t, ht, ?_, ht2⟩
                simp [or_has, wout_has, ht1, h1]
              | true =>
                obtain ⟨u, hu, hu1, hu2⟩ := hall y my
                cases h2 : oneB ⟨s.c, s.d, true⟩ u with
                | false =>
                  refine ⟨u, hu, ?_, hu2⟩
                  simp [or_has, wout_has, hu1, h2]
                | true =>
                  exfalso
                  have e1 := one_lit c (up l1) (up ht) h1
                  have e2 := one_lit c (up l2) (up hu) h2
                  rw [ht2] at e1
                  rw [hu2] at e2
                  simp [litB] at e1 e2
                  rw [e1] at e2; cases e2
          · cases h
end Go.Proofs.Ytjebhhoibofmfaa
