import Derived.Test.YtjebhhoibofmfaaKpF
import Derived.Test.YtjebhhoibofmfaaKpG
import Derived.Deep.OwnRows
namespace Go.Proofs.Ytjebhhoibofmfaa
open Go.RowKit

/-- Classes, by their elements. -/
def Rg (c : List Int) : Prop := c.length ≤ 9 ∧ (0 < c.length → c.getD 0 0 = 0) ∧ ∀ i, i < c.length → 0 ≤ c.getD i 0 ∧ (1 ≤ i → c.getD i 0 ≤ gr c i + 1)

theorem gr_nonneg (c : List Int) : ∀ i, 0 ≤ gr c i
  | 0 => Int.le_refl _
  | i + 1 => by have := gr_nonneg c i; unfold gr; omega

theorem rgs_from {c : List Int} (h : Rg c) : ∀ d k, k + d = c.length → rgs (if k = 0 then 0 else gr c k + 1) (c.drop k) = true := by
  intro d
  induction d with
  | zero => intro k hk; rw [List.drop_of_length_le (by omega)]; rfl
  | succ d ih =>
    intro k hk
    have hlt : k < c.length := by omega
    obtain ⟨h0, h1⟩ := h.2.2 k hlt
    have hz := h.2.1 (by omega)
    have hr := ih (k + 1) (by omega)
    rw [if_neg (by omega)] at hr
    rw [drop_get hlt, rgs, Bool.and_eq_true]
    have e : gr c (k + 1) = max (gr c k) (c.getD k 0) := rfl
    by_cases hk0 : k = 0
    · subst hk0
      rw [hz] at e ⊢
      refine ⟨by rfl, ?_⟩
      have : (if (0 : Int) = (if (0 : Nat) = 0 then 0 else gr c 0 + 1) then (if (0 : Nat) = 0 then 0 else gr c 0 + 1) + 1 else if (0 : Nat) = 0 then 0 else gr c 0 + 1) = gr c (0 + 1) + 1 := by rw [e]; rfl
      rw [this]; exact hr
    · rw [if_neg hk0]
      have hle := h1 (by omega)
      refine ⟨belowB_iff.2 ⟨h0, by omega⟩, ?_⟩
      by_cases he : c.getD k 0 = gr c k + 1
      · rw [if_pos he]
        rw [show gr c (k + 1) = gr c k + 1 by omega] at hr
        exact hr
      · rw [if_neg he]
        rw [show gr c (k + 1) = gr c k by omega] at hr
        exact hr

theorem rgs_of {c : List Int} (h : Rg c) : rgs 0 c = true := by simpa using rgs_from h c.length 0 (by omega)

theorem gr_le {c : List Int} (h : Rg c) : ∀ i, 1 ≤ i → i ≤ c.length → gr c i ≤ (i : Int) - 1 := by
  intro i
  induction i with
  | zero => intro h1; omega
  | succ i ih =>
    intro _ h2
    have e : gr c (i + 1) = max (gr c i) (c.getD i 0) := rfl
    by_cases hi : i = 0
    · subst hi
      rw [e, h.2.1 (by omega)]
      simp [gr]
    · have h3 := ih (by omega) (by omega)
      have h4 := (h.2.2 i (by omega)).2 (by omega)
      omega

theorem Rg.le {c : List Int} (h : Rg c) {i : Nat} (hi : i < c.length) : 0 ≤ c.getD i 0 ∧ c.getD i 0 ≤ (i : Int) := by
  refine ⟨(h.2.2 i hi).1, ?_⟩
  by_cases h0 : i = 0
  · subst h0; rw [h.2.1 hi]; simp
  · have h1 := (h.2.2 i hi).2 (by omega)
    have h2 := gr_le h i (by omega) (by omega)
    omega

theorem bump_getD {c : List Int} {i k t : Nat} (ht : t < c.length) : (bump c i k).getD t 0 = if t < i then c.getD t 0 else if t = i then c.getD i 0 + 1 else if t < k then 0 else c.getD t 0 := tab_getD _ _ ht

theorem gr_bump {c : List Int} {i k : Nat} (hi : i < c.length) : ∀ t, t ≤ i → gr (bump c i k) t = gr c t
  | 0, _ => rfl
  | t + 1, h => by
    unfold gr
    rw [gr_bump hi t (by omega), bump_getD (by omega), if_pos (by omega)]

theorem Rg.bump {c : List Int} {i : Nat} (h : Rg c) (hb : BumpAt c i) : Rg (bump c i c.length) := by
  obtain ⟨h1, h2, h3, _⟩ := hb
  refine ⟨by rw [bump_length]; exact h.1, fun h0 => ?_, fun t ht => ?_⟩
  · rw [bump_length] at h0
    rw [bump_getD h0, if_pos h1]; exact h.2.1 h0
  · rw [bump_length] at ht
    rw [bump_getD ht]
    by_cases ha : t < i
    · rw [if_pos ha, gr_bump h2 t (by omega)]; exact h.2.2 t ht
    · rw [if_neg ha]
      by_cases he : t = i
      · subst he
        rw [if_pos rfl, gr_bump h2 t (Nat.le_refl _)]
        have := (h.2.2 t ht).1
        exact ⟨by omega, fun _ => by omega⟩
      · rw [if_neg he, if_pos ht]
        have := gr_nonneg (Go.Proofs.Ytjebhhoibofmfaa.bump c i c.length) t
        exact ⟨Int.le_refl _, fun _ => by omega⟩

def zeros (n : Nat) : List Int := tab n (fun _ => 0)
theorem zeros_length (n : Nat) : (zeros n).length = n := tab_length _ _
theorem Rg.zeros {n : Nat} (h : n ≤ 9) : Rg (zeros n) := by
  refine ⟨by rw [zeros_length]; exact h, fun h0 => ?_, fun t ht => ?_⟩
  · rw [zeros_length] at h0; exact tab_getD _ _ h0
  · rw [zeros_length] at ht
    unfold Go.Proofs.Ytjebhhoibofmfaa.zeros
    rw [tab_getD _ _ ht]
    have := gr_nonneg (tab n (fun _ => 0)) t
    exact ⟨Int.le_refl _, fun _ => by omega⟩

theorem made_zeros (n : Nat) : madeCells #[.int .i64 0] n = ((zeros n).map (Value.int .i64)).toArray := by
  unfold madeCells zeros tab
  apply Array.ext
  · simp
  · intro i h1 h2
    simp [Nat.mod_one]

def apart (n : Nat) : List Int := tab n (fun t => (t : Int))
theorem apart_length (n : Nat) : (apart n).length = n := tab_length _ _
theorem gr_apart {n : Nat} : ∀ i, i ≤ n → gr (apart n) (i + 1) = i ∨ n ≤ i
  | 0, h => by
    by_cases hn : n = 0
    · exact .inr (by omega)
    · refine .inl ?_
      unfold gr apart gr
      rw [tab_getD _ _ (by omega)]; simp
  | i + 1, h => by
    by_cases hn : n ≤ i + 1
    · exact .inr hn
    · refine .inl ?_
      have e : gr (apart n) (i + 1 + 1) = max (gr (apart n) (i + 1)) ((apart n).getD (i + 1) 0) := rfl
      rw [e]
      rcases gr_apart (n := n) i (by omega) with h1 | h1
      · rw [h1]; unfold apart; rw [tab_getD _ _ (by omega)]; omega
      · omega

theorem Rg.apart {n : Nat} (h : n ≤ 9) : Rg (apart n) := by
  refine ⟨by rw [apart_length]; exact h, fun h0 => ?_, fun t ht => ?_⟩
  · rw [apart_length] at h0; exact tab_getD _ _ h0
  · rw [apart_length] at ht
    have e : (Go.Proofs.Ytjebhhoibofmfaa.apart n).getD t 0 = t := tab_getD _ _ ht
    rw [e]
    refine ⟨by omega, fun h1 => ?_⟩
    obtain ⟨p, rfl⟩ : ∃ p, t = p + 1 := ⟨t - 1, by omega⟩
    rcases gr_apart (n := n) p (by omega) with h2 | h2
    · rw [h2]; omega
    · omega
end Go.Proofs.Ytjebhhoibofmfaa
