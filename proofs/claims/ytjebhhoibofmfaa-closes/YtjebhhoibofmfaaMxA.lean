import Derived.Test.YtjebhhoibofmfaaKpH
namespace Go.Proofs.Ytjebhhoibofmfaa
open Go.RowKit

structure Pr where
  x : Int
  y : Int

def pr0 : Pr := ⟨0, 0⟩

def PairsAt (w : World) (a : Option Addr) (ps : List Pr) : Prop :=
  ps = [] ∨ ∃ b o, a = some ⟨b, o, none⟩ ∧ ∀ i, i < ps.length → w.cell? ⟨b, o + i * 2, none⟩ = some (.int .i64 (ps.getD i pr0).x) ∧ w.cell? ⟨b, o + i * 2 + 1, none⟩ = some (.int .i64 (ps.getD i pr0).y)

theorem PairsAt.below {w w' : World} {a : Option Addr} {ps : List Pr} (h : PairsAt w a ps) (hb : Below w.heap.size w w') : PairsAt w' a ps := by
  rcases h with h | ⟨b, o, rfl, h⟩
  · exact .inl h
  · refine .inr ⟨b, o, rfl, fun i hi => ?_⟩
    obtain ⟨h1, h2⟩ := h i hi
    exact ⟨cell_below hb h1, cell_below hb h2⟩

theorem PairsAt.get {w : World} {a : Option Addr} {ps : List Pr} (h : PairsAt w a ps) {i : Nat} (hi : i < ps.length) :
    ∃ b o, a = some ⟨b, o, none⟩ ∧ ∀ i, i < ps.length → w.cell? ⟨b, o + i * 2, none⟩ = some (.int .i64 (ps.getD i pr0).x) ∧ w.cell? ⟨b, o + i * 2 + 1, none⟩ = some (.int .i64 (ps.getD i pr0).y) := by
  rcases h with h | h
  · subst h; simp at hi
  · exact h

def pairOk (n : Int) (p : Pr) : Bool := belowB p.x n && belowB p.y n
def pairsB (n : Int) (ps : List Pr) : Bool := decide (ps.length ≤ 60) && allB ps.length fun k => pairOk n (ps.getD k pr0)
def pairsHold (c : List Int) (ps : List Pr) : Bool := allB ps.length fun k => eqB c (ps.getD k pr0).x (ps.getD k pr0).y
def PairsIn (ps : List Pr) (n : Nat) : Prop := ps.length ≤ 60 ∧ ∀ t, t < ps.length → (0 ≤ (ps.getD t pr0).x ∧ (ps.getD t pr0).x < (n : Int)) ∧ 0 ≤ (ps.getD t pr0).y ∧ (ps.getD t pr0).y < (n : Int)

theorem pairsB_no {n : Int} {ps : List Pr} (k : Nat) (hk : k < ps.length) (h : pairOk n (ps.getD k pr0) = false) : pairsB n ps = false := by
  unfold pairsB
  rw [show (allB ps.length fun k => pairOk n (ps.getD k pr0)) = false from allB_no k hk h]
  simp
theorem pairsB_yes {n : Int} {ps : List Pr} (h2 : ps.length ≤ 60) (h : ∀ k, k < ps.length → pairOk n (ps.getD k pr0) = true) : pairsB n ps = true := by
  unfold pairsB
  rw [show (allB ps.length fun k => pairOk n (ps.getD k pr0)) = true from allB_yes h]
  simp [h2]
theorem pairsIn_of {ps : List Pr} {n : Nat} (h : pairsB n ps = true) : PairsIn ps n := by
  simp only [pairsB, Bool.and_eq_true, decide_eq_true_eq] at h
  refine ⟨h.1, fun t ht => ?_⟩
  have h1 := allB_iff.1 h.2 t ht
  simp only [pairOk, Bool.and_eq_true] at h1
  exact ⟨belowB_iff.1 h1.1, belowB_iff.1 h1.2⟩

theorem eqB_iff {c : List Int} {x y : Int} : eqB c x y = true ↔ c.getD x.toNat 0 = c.getD y.toNat 0 := by unfold eqB cls; exact decide_eq_true_iff

/-- What is equal in m is so in every sound list in which the pairs hold. -/
def Fine (ts : List Tm) (ps : List Pr) (m : List Int) : Prop := ∀ d : List Int, d.length = ts.length → soundB ts d = true → pairsHold d ps = true →
  ∀ a b, a < ts.length → b < ts.length → m.getD a 0 = m.getD b 0 → d.getD a 0 = d.getD b 0

/-- One list joins what another does. -/
def Coarser (n : Nat) (m d : List Int) : Prop := ∀ a b, a < n → b < n → m.getD a 0 = m.getD b 0 → d.getD a 0 = d.getD b 0

theorem mustB_mono {ts : List Tm} {n : Nat} {m d : List Int} (hin : ArgsIn ts n) (hc : Coarser n m d) {i j : Nat} (hi : i < ts.length) (hj : j < ts.length) (h : mustB ts m i j = true) : mustB ts d i j = true := by
  unfold mustB at *
  rw [Bool.and_eq_true] at *
  refine ⟨h.1, ?_⟩
  unfold argsEq at *
  refine allB_yes (fun t ht => ?_)
  have h1 := allB_iff.1 h.2 t ht
  have hl : (ts.getD i tm0).args.length = (ts.getD j tm0).args.length := by have := h.1; simp [alikeB] at this; simpa using this.2
  have b1 := (hin i hi).2 t ht
  have b2 := (hin j hj).2 t (by omega)
  exact eqB_iff.2 (hc _ _ (by omega) (by omega) (eqB_iff.1 h1))

theorem sound_eq {ts : List Tm} {d : List Int} (hs : soundB ts d = true) {i j : Nat} (hi : i < ts.length) (hlt : j < i) (hm : mustB ts d i j = true) : d.getD i 0 = d.getD j 0 := by
  have h1 := allB_iff.1 (allB_iff.1 hs i hi) j hlt
  simp only [forcedB, hm, Bool.and_true, Bool.not_not, decide_eq_true_eq] at h1
  exact h1

theorem soundB_iff {ts : List Tm} {d : List Int} : soundB ts d = true ↔ ∀ i j, j < i → i < ts.length → forcedB ts d i j = false := by
  constructor
  · intro h i j hj hi
    have h1 := allB_iff.1 (allB_iff.1 h i hi) j hj
    simpa using h1
  · exact soundB_yes

/-- Soundness hangs on what is equal alone. -/
theorem soundB_same {ts : List Tm} {n : Nat} {m d : List Int} (hin : ArgsIn ts n) (hn : ts.length ≤ n) (h1 : Coarser n m d) (h2 : Coarser n d m) (hs : soundB ts m = true) : soundB ts d = true := by
  rw [soundB_iff] at *
  intro i j hj hi
  have h3 := hs i j hj hi
  cases hf : forcedB ts d i j
  · rfl
  · exfalso
    simp only [forcedB, Bool.and_eq_true, Bool.not_eq_true', decide_eq_false_iff_not] at hf
    have h4 := mustB_mono hin h2 hi (by omega) hf.2
    simp only [forcedB, h4, Bool.and_true, Bool.not_eq_false', decide_eq_true_eq] at h3
    exact hf.1 (h1 _ _ (by omega) (by omega) h3)

theorem pairsHold_mono {ps : List Pr} {n : Nat} {m d : List Int} (hin : PairsIn ps n) (h1 : Coarser n m d) (h : pairsHold m ps = true) : pairsHold d ps = true := by
  unfold pairsHold at *
  refine allB_yes (fun t ht => ?_)
  have h2 := allB_iff.1 h t ht
  obtain ⟨⟨a, b⟩, c, e⟩ := hin.2 t ht
  exact eqB_iff.2 (h1 _ _ (by omega) (by omega) (eqB_iff.1 h2))

/-- All that had the mark g has s. -/
def joinL (m : List Int) (s g : Int) : List Int := tab m.length (fun t => if m.getD t 0 = g then s else m.getD t 0)
theorem joinL_length (m : List Int) (s g : Int) : (joinL m s g).length = m.length := tab_length _ _
theorem joinL_getD {m : List Int} {s g : Int} {t : Nat} (h : t < m.length) : (joinL m s g).getD t 0 = if m.getD t 0 = g then s else m.getD t 0 := tab_getD _ _ h

theorem joinL_coarser {m : List Int} {s g : Int} : Coarser m.length m (joinL m s g) := by
  intro a b ha hb h
  rw [joinL_getD ha, joinL_getD hb, h]

theorem joinL_joins {m : List Int} {a b : Nat} (ha : a < m.length) (hb : b < m.length) : (joinL m (m.getD a 0) (m.getD b 0)).getD a 0 = (joinL m (m.getD a 0) (m.getD b 0)).getD b 0 := by
  rw [joinL_getD ha, joinL_getD hb, if_pos rfl]
  split <;> rfl

/-- Joining what is equal in d joins nothing that is not. -/
theorem joinL_into {m d : List Int} {a b : Nat} (ha : a < m.length) (hb : b < m.length) (h : Coarser m.length m d) (hd : d.getD a 0 = d.getD b 0) : Coarser m.length (joinL m (m.getD a 0) (m.getD b 0)) d := by
  intro x y hx hy he
  rw [joinL_getD hx, joinL_getD hy] at he
  by_cases h1 : m.getD x 0 = m.getD b 0
  · rw [if_pos h1] at he
    by_cases h2 : m.getD y 0 = m.getD b 0
    · exact h _ _ hx hy (h1.trans h2.symm)
    · rw [if_neg h2] at he
      exact (h _ _ hx hb h1).trans (hd.symm.trans (h _ _ ha hy he))
  · rw [if_neg h1] at he
    by_cases h2 : m.getD y 0 = m.getD b 0
    · rw [if_pos h2] at he
      exact (h _ _ hx ha he).trans (hd.trans (h _ _ hb hy h2.symm))
    · rw [if_neg h2] at he
      exact h _ _ hx hy he

/-- How many of the numbers below n are marks. -/
def marksN (n : Nat) (m : List Int) : Nat := (List.range n).countP (fun v : Nat => decide ((v : Int) ∈ m))

theorem countP_lt {l : List Nat} {p q : Nat → Bool} (h : ∀ x ∈ l, p x = true → q x = true) {y : Nat} (hy : y ∈ l) (hq : q y = true) (hp : p y = false) : l.countP p < l.countP q := by
  induction l with
  | nil => cases hy
  | cons x xs ih =>
    have hx := h x (by simp)
    have hxs : ∀ z ∈ xs, p z = true → q z = true := fun z hz => h z (by simp [hz])
    have hle : xs.countP p ≤ xs.countP q := List.countP_mono_left hxs
    rcases List.mem_cons.1 hy with rfl | hy'
    · rw [List.countP_cons_of_neg (by simp [hp]), List.countP_cons_of_pos hq]
      omega
    · have := ih hxs hy'
      by_cases hpx : p x = true
      · rw [List.countP_cons_of_pos hpx, List.countP_cons_of_pos (hx hpx)]; omega
      · rw [List.countP_cons_of_neg hpx]
        by_cases hqx : q x = true
        · rw [List.countP_cons_of_pos hqx]; omega
        · rw [List.countP_cons_of_neg hqx]; omega

theorem mem_getD {m : List Int} {v : Int} : v ∈ m ↔ ∃ t, t < m.length ∧ m.getD t 0 = v := by
  rw [List.mem_iff_getElem]
  constructor
  · rintro ⟨t, h, e⟩; exact ⟨t, h, by simp [h, e]⟩
  · rintro ⟨t, h, e⟩; exact ⟨t, h, by simpa [h] using e⟩

theorem marksN_join {n : Nat} {m : List Int} {a b : Nat} (ha : a < m.length) (hb : b < m.length) (hbd : ∀ t, t < m.length → 0 ≤ m.getD t 0 ∧ m.getD t 0 < n) (hne : m.getD a 0 ≠ m.getD b 0) :
    marksN n (joinL m (m.getD a 0) (m.getD b 0)) < marksN n m := by
  obtain ⟨g0, g1⟩ := hbd b hb
  refine countP_lt (y := (m.getD b 0).toNat) (fun v _ hv => ?_) (List.mem_range.2 (by omega)) ?_ ?_
  · simp only [decide_eq_true_eq] at *
    obtain ⟨t, ht, e⟩ := mem_getD.1 hv
    rw [joinL_length] at ht
    rw [joinL_getD ht] at e
    split at e
    · exact mem_getD.2 ⟨a, ha, e⟩
    · exact mem_getD.2 ⟨t, ht, e⟩
  · simp only [decide_eq_true_eq]
    rw [Int.toNat_of_nonneg g0]
    exact mem_getD.2 ⟨b, hb, rfl⟩
  · simp only [decide_eq_false_iff_not]
    rw [Int.toNat_of_nonneg g0]
    intro hv
    obtain ⟨t, ht, e⟩ := mem_getD.1 hv
    rw [joinL_length] at ht
    rw [joinL_getD ht] at e
    split at e
    · exact hne e
    · rename_i h; exact h e

theorem joinL_bd {n : Nat} {m : List Int} {a b : Nat} (ha : a < m.length) (hbd : ∀ t, t < m.length → 0 ≤ m.getD t 0 ∧ m.getD t 0 < (n : Int)) :
    ∀ t, t < (joinL m (m.getD a 0) (m.getD b 0)).length → 0 ≤ (joinL m (m.getD a 0) (m.getD b 0)).getD t 0 ∧ (joinL m (m.getD a 0) (m.getD b 0)).getD t 0 < (n : Int) := by
  intro t ht
  rw [joinL_length] at ht
  rw [joinL_getD ht]
  split
  · exact hbd a ha
  · exact hbd t ht
end Go.Proofs.Ytjebhhoibofmfaa
