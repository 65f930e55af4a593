import Derived.Test.YtjebhhoibofmfaaMxA
namespace Go.Proofs.Ytjebhhoibofmfaa
open Go.RowKit

/-- t is the first with its mark. -/
def isFirst (m : List Int) (t : Nat) : Bool := allB t fun s => decide (m.getD s 0 ≠ m.getD t 0)
theorem isFirst_iff {m : List Int} {t : Nat} : isFirst m t = true ↔ ∀ s, s < t → m.getD s 0 ≠ m.getD t 0 := by
  unfold isFirst
  rw [allB_iff]
  constructor
  · intro h s hs; have := h s hs; simpa using this
  · intro h s hs; have := h s hs; simpa using this

/-- f is the first with the mark of t. -/
def FirstOf (m : List Int) (t f : Nat) : Prop := f ≤ t ∧ m.getD f 0 = m.getD t 0 ∧ ∀ s, s < f → m.getD s 0 ≠ m.getD t 0

theorem firstOf_ex (m : List Int) (t : Nat) : ∃ f, FirstOf m t f := by
  induction t using Nat.strongRecOn with
  | _ t ih =>
    by_cases h : ∃ s, s < t ∧ m.getD s 0 = m.getD t 0
    · obtain ⟨s, hs, e⟩ := h
      obtain ⟨f, h1, h2, h3⟩ := ih s hs
      exact ⟨f, by omega, h2.trans e, fun u hu => by rw [← e]; exact h3 u hu⟩
    · exact ⟨t, Nat.le_refl _, rfl, fun s hs e => h ⟨s, hs, e⟩⟩

theorem FirstOf.uniq {m : List Int} {t u f g : Nat} (h1 : FirstOf m t f) (h2 : FirstOf m u g) (e : m.getD t 0 = m.getD u 0) : f = g := by
  obtain ⟨_, a2, a3⟩ := h1
  obtain ⟨_, b2, b3⟩ := h2
  rcases Nat.lt_trichotomy f g with h | h | h
  · exact absurd (a2.trans e) (b3 f h)
  · exact h
  · exact absurd (b2.trans e.symm) (a3 g h)

theorem FirstOf.isFirst {m : List Int} {t f : Nat} (h : FirstOf m t f) : isFirst m f = true := isFirst_iff.2 (fun s hs => by rw [h.2.1]; exact h.2.2 s hs)
theorem FirstOf.self {m : List Int} {t : Nat} (h : Go.Proofs.Ytjebhhoibofmfaa.isFirst m t = true) : FirstOf m t t := ⟨Nat.le_refl _, rfl, isFirst_iff.1 h⟩

/-- How many firsts lie below k. -/
def rk (m : List Int) : Nat → Nat
  | 0 => 0
  | k + 1 => rk m k + if isFirst m k then 1 else 0

theorem rk_mono (m : List Int) {a b : Nat} (h : a ≤ b) : rk m a ≤ rk m b := by
  induction b with
  | zero => rw [Nat.le_zero.1 h]; exact Nat.le_refl _
  | succ b ih =>
    rcases Nat.le_succ_iff.1 h with h1 | h1
    · have := ih h1; show rk m a ≤ rk m b + _; omega
    · subst h1; exact Nat.le_refl _

theorem rk_lt (m : List Int) {a b : Nat} (h : a < b) (ha : isFirst m a = true) : rk m a < rk m b := by
  have h1 : rk m (a + 1) = rk m a + 1 := by simp [rk, ha]
  have h2 := rk_mono m (show a + 1 ≤ b by omega)
  omega

theorem rk_le (m : List Int) : ∀ k, rk m k ≤ k
  | 0 => Nat.le_refl _
  | k + 1 => by have := rk_le m k; unfold rk; split <;> omega

/-- The first with the mark v, up to k. -/
def fi (m : List Int) (v : Int) : Nat → Nat
  | 0 => 0
  | k + 1 => if m.getD (fi m v k) 0 = v then fi m v k else k + 1

theorem fi_spec (m : List Int) (v : Int) : ∀ k, (∀ s, s < fi m v k → m.getD s 0 ≠ v) ∧ fi m v k ≤ k ∧ (m.getD (fi m v k) 0 = v ∨ fi m v k = k)
  | 0 => ⟨fun s hs => by simp [fi] at hs, Nat.le_refl _, .inr rfl⟩
  | k + 1 => by
    obtain ⟨h1, h2, h3⟩ := fi_spec m v k
    by_cases h : m.getD (fi m v k) 0 = v
    · have e : fi m v (k + 1) = fi m v k := by show (if _ then _ else _) = _; rw [if_pos h]
      rw [e]
      exact ⟨h1, by omega, .inl h⟩
    · have e : fi m v (k + 1) = k + 1 := by show (if _ then _ else _) = _; rw [if_neg h]
      have hk : fi m v k = k := h3.resolve_left h
      rw [hk] at h h1
      rw [e]
      refine ⟨fun s hs => ?_, Nat.le_refl _, .inr rfl⟩
      rcases Nat.lt_succ_iff_lt_or_eq.1 hs with h4 | h4
      · exact h1 s h4
      · rw [h4]; exact h

theorem fi_first (m : List Int) (t : Nat) : FirstOf m t (fi m (m.getD t 0) t) := by
  obtain ⟨h1, h2, h3⟩ := fi_spec m (m.getD t 0) t
  refine ⟨h2, ?_, h1⟩
  rcases h3 with h3 | h3
  · exact h3
  · rw [h3]

/-- The class of t. -/
def clsOf (m : List Int) (t : Nat) : Int := (rk m (fi m (m.getD t 0) t) : Int)
theorem clsOf_eq {m : List Int} {t f : Nat} (h : FirstOf m t f) : clsOf m t = rk m f := by
  unfold clsOf
  rw [FirstOf.uniq (fi_first m t) h rfl]

theorem clsOf_iff (m : List Int) (a b : Nat) : clsOf m a = clsOf m b ↔ m.getD a 0 = m.getD b 0 := by
  obtain ⟨f, hf⟩ := firstOf_ex m a
  obtain ⟨g, hg⟩ := firstOf_ex m b
  rw [clsOf_eq hf, clsOf_eq hg]
  constructor
  · intro h
    have h : rk m f = rk m g := by omega
    rcases Nat.lt_trichotomy f g with h1 | h1 | h1
    · have := rk_lt m h1 hf.isFirst; omega
    · subst h1; exact hf.2.1.symm.trans hg.2.1
    · have := rk_lt m h1 hg.isFirst; omega
  · intro h
    rw [FirstOf.uniq hf hg h]

/-- toClasses, so far as k. -/
def clsTo (m : List Int) (k : Nat) : List Int := tab m.length (fun t => if t < k then clsOf m t else 0)
def clsAll (m : List Int) : List Int := tab m.length (clsOf m)
theorem clsTo_length (m : List Int) (k : Nat) : (clsTo m k).length = m.length := tab_length _ _
theorem clsAll_length (m : List Int) : (clsAll m).length = m.length := tab_length _ _
theorem clsTo_zero (m : List Int) : clsTo m 0 = zeros m.length := tab_congr (fun t _ => by rw [if_neg (by omega)])
theorem clsTo_all (m : List Int) : clsTo m m.length = clsAll m := tab_congr (fun t h => by rw [if_pos h])
theorem clsTo_set (m : List Int) (k : Nat) : (clsTo m k).set k (clsOf m k) = clsTo m (k + 1) := by
  unfold clsTo
  rw [tab_set]
  refine tab_congr (fun t _ => ?_)
  by_cases h : t = k
  · subst h; rw [if_pos rfl, if_pos (by omega)]
  · rw [if_neg h]
    by_cases h2 : t < k
    · rw [if_pos h2, if_pos (by omega)]
    · rw [if_neg h2, if_neg (by omega)]
theorem clsTo_getD {m : List Int} {k t : Nat} (ht : t < m.length) (hk : t < k) : (clsTo m k).getD t 0 = clsOf m t := by
  unfold clsTo; rw [tab_getD _ _ ht, if_pos hk]
theorem clsAll_getD {m : List Int} {t : Nat} (ht : t < m.length) : (clsAll m).getD t 0 = clsOf m t := tab_getD _ _ ht

theorem clsAll_coarser (m : List Int) : Coarser m.length m (clsAll m) ∧ Coarser m.length (clsAll m) m := by
  constructor
  · intro a b ha hb h
    rw [clsAll_getD ha, clsAll_getD hb]; exact (clsOf_iff m a b).2 h
  · intro a b ha hb h
    rw [clsAll_getD ha, clsAll_getD hb] at h; exact (clsOf_iff m a b).1 h

theorem gr_cls (m : List Int) : ∀ i, i + 1 ≤ m.length → gr (clsAll m) (i + 1) = (rk m (i + 1) : Int) - 1
  | 0, h => by
    have h0 : isFirst m 0 = true := isFirst_iff.2 (fun s hs => by omega)
    have e : clsOf m 0 = 0 := by rw [clsOf_eq (FirstOf.self h0)]; rfl
    simp only [gr, clsAll_getD (show 0 < m.length by omega), e, rk, h0, if_true]
    omega
  | i + 1, h => by
    have ih := gr_cls m i (by omega)
    have e : gr (clsAll m) (i + 1 + 1) = max (gr (clsAll m) (i + 1)) ((clsAll m).getD (i + 1) 0) := rfl
    rw [e, ih, clsAll_getD (by omega)]
    have er : rk m (i + 1 + 1) = rk m (i + 1) + if isFirst m (i + 1) then 1 else 0 := rfl
    rw [er]
    obtain ⟨f, hf⟩ := firstOf_ex m (i + 1)
    rw [clsOf_eq hf]
    by_cases hfe : f = i + 1
    · subst hfe
      rw [if_pos hf.isFirst]; omega
    · have hlt : f < i + 1 := by have := hf.1; omega
      have hno : ¬ isFirst m (i + 1) = true := fun h1 => hfe (FirstOf.uniq hf (FirstOf.self h1) rfl)
      rw [if_neg hno]
      have := rk_lt m hlt hf.isFirst
      omega

theorem Rg.cls {m : List Int} (h9 : m.length ≤ 9) : Rg (clsAll m) := by
  refine ⟨by rw [clsAll_length]; exact h9, fun h0 => ?_, fun t ht => ?_⟩
  · rw [clsAll_length] at h0
    rw [clsAll_getD h0, clsOf_eq (FirstOf.self (isFirst_iff.2 (fun s hs => by omega)))]; rfl
  · rw [clsAll_length] at ht
    rw [clsAll_getD ht]
    obtain ⟨f, hf⟩ := firstOf_ex m t
    rw [clsOf_eq hf]
    refine ⟨by omega, fun h1 => ?_⟩
    obtain ⟨p, rfl⟩ : ∃ p, t = p + 1 := ⟨t - 1, by omega⟩
    rw [gr_cls m p (by omega)]
    have := rk_mono m hf.1
    omega

/-- What Close must answer. -/
def CloseOf (ts : List Tm) (ps : List Pr) (c : List Int) : Prop := c.length = ts.length ∧ Rg c ∧ soundB ts c = true ∧ pairsHold c ps = true ∧ Fine ts ps c

theorem closeOf_cls {ts : List Tm} {ps : List Pr} {m : List Int} (h9 : ts.length ≤ 9) (hl : m.length = ts.length) (hin : ArgsIn ts ts.length) (hp : PairsIn ps ts.length) (hs : soundB ts m = true) (hh : pairsHold m ps = true) (hf : Fine ts ps m) : CloseOf ts ps (clsAll m) := by
  have hc := clsAll_coarser m
  rw [hl] at hc
  refine ⟨by rw [clsAll_length, hl], Rg.cls (by omega), soundB_same hin (Nat.le_refl _) hc.1 hc.2 hs, pairsHold_mono hp hc.1 hh, ?_⟩
  intro d h1 h2 h3 a b ha hb he
  exact hf d h1 h2 h3 a b ha hb (hc.2 a b ha hb he)
end Go.Proofs.Ytjebhhoibofmfaa
