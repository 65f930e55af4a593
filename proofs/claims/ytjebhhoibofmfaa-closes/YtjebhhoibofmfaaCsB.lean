import Derived.Test.YtjebhhoibofmfaaRfB
namespace Go.Proofs.Ytjebhhoibofmfaa
open Go.RowKit

/-- equalproofref.each, with k terms to go. -/
def eachL (ts : List Tm) : Nat → List Int → Int → List (List Int)
  | 0, c, _ => [c]
  | k + 1, c, g => (List.range (g + 2).toNat).flatMap fun (x : Nat) => if soundB (ts.take (c.length + 1)) (c ++ [(x : Int)]) then eachL ts k (c ++ [(x : Int)]) (max g x) else []

theorem eachL_length (ts : List Tm) : ∀ (k : Nat) (c : List Int) (g : Int), ∀ d ∈ eachL ts k c g, d.length = c.length + k
  | 0, c, g, d, h => by simp [eachL] at h; rw [h]; rfl
  | k + 1, c, g, d, h => by
    simp only [eachL, List.mem_flatMap] at h
    obtain ⟨x, _, hx⟩ := h
    split at hx
    · have := eachL_length ts k _ _ d hx
      simp at this
      omega
    · simp at hx

theorem eachL_sound (ts : List Tm) : ∀ (k : Nat) (c : List Int) (g : Int), (c ≠ [] → soundB (ts.take c.length) c = true) → ∀ d ∈ eachL ts k c g, d ≠ [] → soundB (ts.take d.length) d = true
  | 0, c, g, hc, d, h, hd => by simp [eachL] at h; subst h; exact hc hd
  | k + 1, c, g, hc, d, h, hd => by
    simp only [eachL, List.mem_flatMap] at h
    obtain ⟨x, _, hx⟩ := h
    split at hx
    · rename_i hs
      exact eachL_sound ts k _ _ (fun _ => by rw [List.length_append]; exact hs) d hx hd
    · simp at hx

theorem flatMap_len {α β : Type} (f : α → List β) (m : Nat) : ∀ l : List α, (∀ x ∈ l, (f x).length ≤ m) → (l.flatMap f).length ≤ l.length * m
  | [], _ => by simp
  | x :: l, h => by
    have h1 := h x (by simp)
    have h2 := flatMap_len f m l (fun y hy => h y (by simp [hy]))
    simp only [List.flatMap_cons, List.length_append, List.length_cons, Nat.add_mul, Nat.one_mul]
    omega

theorem eachL_count (ts : List Tm) : ∀ (k : Nat) (c : List Int) (g : Int), c.length + k ≤ 9 → g + 1 ≤ (c.length : Int) → (eachL ts k c g).length ≤ 10 ^ k
  | 0, c, g, _, _ => by simp [eachL]
  | k + 1, c, g, h1, h2 => by
    have hm := flatMap_len (fun x : Nat => if soundB (ts.take (c.length + 1)) (c ++ [(x : Int)]) then eachL ts k (c ++ [(x : Int)]) (max g x) else []) (10 ^ k) (List.range (g + 2).toNat) (fun x hx => by
      have hx := List.mem_range.1 hx
      show (if _ then _ else _ : List (List Int)).length ≤ _
      split
      · exact eachL_count ts k _ _ (by simp; omega) (by simp; omega)
      · simp)
    simp only [eachL]
    refine Nat.le_trans hm ?_
    rw [List.length_range, Nat.pow_succ, Nat.mul_comm]
    exact Nat.mul_le_mul_left _ (by omega)

/-- Each is at most one more than the greatest ahead. -/
def RgFrom : Int → List Int → Prop
  | _, [] => True
  | g, x :: l => 0 ≤ x ∧ x ≤ g + 1 ∧ RgFrom (max g x) l

theorem eachL_mem (ts : List Tm) : ∀ (l c : List Int) (g : Int), RgFrom g l → (∀ m, m < l.length → soundB (ts.take (c.length + m + 1)) (c ++ l.take (m + 1)) = true) → c ++ l ∈ eachL ts l.length c g
  | [], c, g, _, _ => by simp [eachL]
  | x :: l, c, g, hr, hs => by
    obtain ⟨h0, h1, h2⟩ := hr
    obtain ⟨n, rfl⟩ := Int.eq_ofNat_of_zero_le h0
    simp only [List.length_cons, eachL, List.mem_flatMap]
    refine ⟨n, List.mem_range.2 (by omega), ?_⟩
    have hs0 := hs 0 (by simp)
    simp only [List.take_succ_cons, List.take_zero, Nat.add_zero] at hs0
    rw [if_pos hs0]
    have := eachL_mem ts l (c ++ [(n : Int)]) (max g n) h2 (fun m hm => by
      have := hs (m + 1) (by simpa using hm)
      rw [List.length_append, List.append_assoc]
      rw [show c.length + [(n : Int)].length + m + 1 = c.length + (m + 1) + 1 by simp; omega]
      exact this)
    rw [List.append_assoc] at this
    exact this

theorem rgFrom_of {d : List Int} (h : Rg d) : ∀ k i, i + k = d.length → RgFrom (if i = 0 then -1 else gr d i) (d.drop i)
  | 0, i, hk => by rw [List.drop_of_length_le (by omega)]; trivial
  | k + 1, i, hk => by
    have hi : i < d.length := by omega
    rw [drop_get hi]
    have ih := rgFrom_of h k (i + 1) (by omega)
    rw [if_neg (by omega)] at ih
    have hb := h.2.2 i hi
    refine ⟨hb.1, ?_, ?_⟩
    · by_cases h0 : i = 0
      · subst h0; rw [if_pos rfl, h.2.1 (by omega)]; omega
      · rw [if_neg h0]; exact hb.2 (by omega)
    · have e : max (if i = 0 then (-1 : Int) else gr d i) (d.getD i 0) = gr d (i + 1) := by
        by_cases h0 : i = 0
        · subst h0
          rw [if_pos rfl]
          show _ = max (gr d 0) (d.getD 0 0)
          show _ = max 0 (d.getD 0 0)
          have := hb.1
          omega
        · rw [if_neg h0]; rfl
      rw [e]; exact ih

theorem take_getD {α : Type} (l : List α) (d : α) {m i : Nat} (h : i < m) : (l.take m).getD i d = l.getD i d := by
  simp [h]

theorem sound_take {ts : List Tm} {d : List Int} (hts : termsB ts = true) (hs : soundB ts d = true) {m : Nat} (hm : m ≤ ts.length) : soundB (ts.take m) (d.take m) = true := by
  refine soundB_yes (fun i j hj hi => ?_)
  simp only [List.length_take] at hi
  have hi' : i < m := by omega
  have hall := soundB_iff.1 hs i j hj (by omega)
  have key : ∀ a, a < m → ∀ k, k < (ts.getD a tm0).args.length → 0 ≤ (ts.getD a tm0).args.getD k 0 ∧ (ts.getD a tm0).args.getD k 0 < (a : Int) := by
    intro a ha k hk
    simp only [termsB, Bool.and_eq_true] at hts
    have h1 := allB_iff.1 hts.2 a (by omega)
    simp only [termB, Bool.and_eq_true] at h1
    exact belowB_iff.1 (allB_iff.1 h1.2 k hk)
  unfold forcedB mustB at *
  rw [take_getD d 0 hi', take_getD d 0 (show j < m by omega), take_getD ts tm0 hi', take_getD ts tm0 (show j < m by omega)]
  cases hal : alikeB (ts.getD i tm0).sym (ts.getD j tm0).sym (ts.getD i tm0).args.length (ts.getD j tm0).args.length
  · simp
  · rw [hal] at hall
    have hll : (ts.getD i tm0).args.length = (ts.getD j tm0).args.length := by simp [alikeB] at hal; exact hal.2
    have e : argsEq (d.take m) (ts.getD i tm0).args (ts.getD j tm0).args = argsEq d (ts.getD i tm0).args (ts.getD j tm0).args := by
      unfold argsEq
      rw [Bool.eq_iff_iff, allB_iff, allB_iff]
      have h2 : ∀ t, t < (ts.getD i tm0).args.length → eqB (d.take m) ((ts.getD i tm0).args.getD t 0) ((ts.getD j tm0).args.getD t 0) = eqB d ((ts.getD i tm0).args.getD t 0) ((ts.getD j tm0).args.getD t 0) := by
        intro t ht
        have k1 := key i hi' t ht
        have k2 := key j (by omega) t (by omega)
        unfold eqB cls
        rw [take_getD d 0 (by omega), take_getD d 0 (by omega)]
      exact ⟨fun k t ht => by rw [← h2 t ht]; exact k t ht, fun k t ht => by rw [h2 t ht]; exact k t ht⟩
    rw [e]; exact hall

/-- All sound classes of terms are gone through, and no other. -/
theorem eachL_all {ts : List Tm} (hts : termsB ts = true) {d : List Int} (hl : d.length = ts.length) (hr : Rg d) (hs : soundB ts d = true) : d ∈ eachL ts ts.length [] (-1) := by
  have h := eachL_mem ts d [] (-1) (by have := rgFrom_of hr d.length 0 (by omega); simpa using this) (fun m hm => by
    simp only [List.length_nil, Nat.zero_add, List.nil_append]
    exact sound_take hts hs (by omega))
  rw [hl] at h
  simpa using h
theorem eachL_only {ts : List Tm} (hts : termsB ts = true) {d : List Int} (h : d ∈ eachL ts ts.length [] (-1)) : d.length = ts.length ∧ soundB ts d = true := by
  have hl := eachL_length ts _ _ _ d h
  simp only [List.length_nil, Nat.zero_add] at hl
  have := eachL_sound ts ts.length [] (-1) (fun q => absurd rfl q) d h (by intro e; rw [e] at hl; have := (len_of hts).1; simp at hl; omega)
  rw [hl, List.take_length] at this
  exact ⟨hl, this⟩
end Go.Proofs.Ytjebhhoibofmfaa
