import Derived.Test.YtjebhhoibofmfaaMxB
namespace Go.Proofs.Ytjebhhoibofmfaa
open Go.RowKit

def Lex (d c : List Int) : Prop := ∃ i, i < c.length ∧ (∀ t, t < i → d.getD t 0 = c.getD t 0) ∧ d.getD i 0 < c.getD i 0

theorem gr_congr {d c : List Int} : ∀ i, (∀ t, t < i → d.getD t 0 = c.getD t 0) → gr d i = gr c i
  | 0, _ => rfl
  | i + 1, h => by
    unfold gr
    rw [gr_congr i (fun t ht => h t (by omega)), h i (by omega)]

theorem lex_or {d c : List Int} (hd : Rg d) (hl : d.length = c.length) : ∀ k i, i + k = c.length → 1 ≤ i → (∀ t, t < i → d.getD t 0 = c.getD t 0) → (∀ j, i ≤ j → j < c.length → gr c j < c.getD j 0) → d = c ∨ Lex d c := by
  intro k
  induction k with
  | zero => intro i hi _ hp _; exact .inl (list_ext hl (fun t ht => hp t (by omega)))
  | succ k ih =>
    intro i hi h1 hp hm
    by_cases he : d.getD i 0 = c.getD i 0
    · exact ih (i + 1) (by omega) (by omega) (upto_succ hp he) (fun j h2 h3 => hm j (by omega) h3)
    · have h2 := (hd.2.2 i (by omega)).2 h1
      rw [gr_congr i hp] at h2
      have h3 := hm i (Nat.le_refl _) (by omega)
      exact .inr ⟨i, by omega, hp, by omega⟩

theorem succ_lex {d c : List Int} {i : Nat} (hd : Rg d) (hl : d.length = c.length) (hb : BumpAt c i) (hx : Lex d (bump c i c.length)) : d = c ∨ Lex d c := by
  obtain ⟨b1, b2, b3, b4⟩ := hb
  obtain ⟨j, hj, hp, hlt⟩ := hx
  rw [bump_length] at hj
  rw [bump_getD hj] at hlt
  rcases Nat.lt_trichotomy j i with h | h | h
  · rw [if_pos h] at hlt
    exact .inr ⟨j, hj, fun t ht => by rw [hp t ht, bump_getD (by omega), if_pos (by omega)], hlt⟩
  · subst h
    rw [if_neg (by omega), if_pos rfl] at hlt
    have hp' : ∀ t, t < j → d.getD t 0 = c.getD t 0 := fun t ht => by rw [hp t ht, bump_getD (by omega), if_pos ht]
    by_cases he : d.getD j 0 = c.getD j 0
    · exact lex_or hd hl (c.length - (j + 1)) (j + 1) (by omega) (by omega) (upto_succ hp' he) (fun q h2 h3 => b4 q (by omega) h3)
    · exact .inr ⟨j, hj, hp', by omega⟩
  · rw [if_neg (by omega), if_neg (by omega), if_pos hj] at hlt
    have := (hd.2.2 j (by omega)).1
    omega

theorem max_lex {d c : List Int} (hd : Rg d) (hc : Rg c) (hl : d.length = c.length) (h1 : 1 ≤ c.length) (hn : NoBump c) : d = c ∨ Lex d c := by
  refine lex_or hd hl (c.length - 1) 1 (by omega) (Nat.le_refl _) (fun t ht => ?_) (fun j h2 h3 => hn j (by omega) h3)
  have : t = 0 := by omega
  subst this
  rw [hd.2.1 (by omega), hc.2.1 (by omega)]

theorem zeros_lex {d : List Int} {n : Nat} (hd : Rg d) (hl : d.length = n) : ¬ Lex d (zeros n) := by
  rintro ⟨i, hi, _, hlt⟩
  rw [zeros_length] at hi
  rw [show (zeros n).getD i 0 = 0 from tab_getD _ _ hi] at hlt
  have := (hd.2.2 i (by omega)).1
  omega

/-- The number that the first k are in tens. -/
def valTo (c : List Int) : Nat → Nat
  | 0 => 0
  | k + 1 => valTo c k * 10 + (c.getD k 0).toNat

theorem valTo_lt {c : List Int} (h : Rg c) : ∀ k, k ≤ c.length → valTo c k < 10 ^ k
  | 0, _ => by simp [valTo]
  | k + 1, hk => by
    have ih := valTo_lt h k (by omega)
    have h1 := h.le (i := k) (by omega)
    have h9 := h.1
    unfold valTo
    rw [Nat.pow_succ]
    omega

theorem valTo_congr {b c : List Int} : ∀ k, (∀ t, t < k → b.getD t 0 = c.getD t 0) → valTo b k = valTo c k
  | 0, _ => rfl
  | k + 1, h => by
    unfold valTo
    rw [valTo_congr k (fun t ht => h t (by omega)), h k (by omega)]

theorem valTo_bump {c : List Int} {i : Nat} (h : Rg c) (hb : BumpAt c i) : ∀ k, i + 1 + k ≤ c.length → valTo c (i + 1 + k) + 1 ≤ valTo (bump c i c.length) (i + 1 + k)
  | 0, hk => by
    show valTo c i * 10 + _ + 1 ≤ valTo (bump c i c.length) i * 10 + _
    rw [valTo_congr (b := bump c i c.length) (c := c) i (fun t ht => by rw [bump_getD (by have := hb.2.1; omega), if_pos ht]), bump_getD hb.2.1, if_neg (by omega), if_pos rfl]
    have := (h.2.2 i hb.2.1).1
    omega
  | k + 1, hk => by
    have ih := valTo_bump h hb k (by omega)
    have h1 := h.le (i := i + 1 + k) (by omega)
    have h9 := h.1
    show valTo c (i + 1 + k) * 10 + (c.getD (i + 1 + k) 0).toNat + 1 ≤ valTo (bump c i c.length) (i + 1 + k) * 10 + ((bump c i c.length).getD (i + 1 + k) 0).toNat
    omega

/-- How many may still come. -/
def leftN (c : List Int) : Nat := 10 ^ c.length - valTo c c.length
theorem leftN_bump {c : List Int} {i : Nat} (h : Rg c) (hb : BumpAt c i) : leftN (bump c i c.length) < leftN c ∧ valTo c c.length + 1 ≤ valTo (bump c i c.length) c.length := by
  have h1 := valTo_bump h hb (c.length - (i + 1)) (by have := hb.2.1; omega)
  rw [show i + 1 + (c.length - (i + 1)) = c.length by have := hb.2.1; omega] at h1
  have h2 := valTo_lt (h.bump hb) c.length (by rw [bump_length]; exact Nat.le_refl _)
  unfold leftN
  rw [bump_length]
  omega

theorem pow_small {n : Nat} (h : n ≤ 9) : 10 ^ n ≤ 1000000000 := by
  have := Nat.pow_le_pow_right (show 0 < 10 by omega) h
  simpa using this
end Go.Proofs.Ytjebhhoibofmfaa
