import Derived.Test.YtiobmhfpnhjmcaaEMKp
namespace Go.Proofs.Ytiobmhfpnhjmcaa
open Go.RowKit
structure Pr where
  x : Int
  y : Int
def pr0 : Pr := ⟨0, 0⟩
def PairsAt (w : World) (a : Option Addr) (ps : List Pr) : Prop :=
  ps = [] ∨ ∃ b o, a = some ⟨b, o, none⟩ ∧ ∀ i, i < ps.length → w.cell? ⟨b, o + i * 2, none⟩ = some (.int .i64 (ps.getD i pr0).x) ∧ w.cell? ⟨b, o + i * 2 + 1, none⟩ = some (.int .i64 (ps.getD i pr0).y)
theorem PairsAt.below {w w' : World} {a : Option Addr} {ps : List Pr} (h : PairsAt w a ps) (hb : Below w.heap.size w w') : PairsAt w' a ps := by
  rcases h with h | ⟨b, o, rfl, h⟩
  · exact .inl h
  · refine .inr ⟨b, o, rfl, fun i hi => ?_⟩
    obtain ⟨h1, h2⟩ := h i hi
    exact ⟨cell_below hb h1, cell_below hb h2⟩
theorem PairsAt.get {w : World} {a : Option Addr} {ps : List Pr} (h : PairsAt w a ps) {i : Nat} (hi : i < ps.length) :
    ∃ b o, a = some ⟨b, o, none⟩ ∧ ∀ i, i < ps.length → w.cell? ⟨b, o + i * 2, none⟩ = some (.int .i64 (ps.getD i pr0).x) ∧ w.cell? ⟨b, o + i * 2 + 1, none⟩ = some (.int .i64 (ps.getD i pr0).y) := by
  rcases h with h | h
  · subst h; simp at hi
  · exact h
def pairOk (n : Int) (p : Pr) : Bool := belowB p.x n && belowB p.y n
def pairsB (n : Int) (ps : List Pr) : Bool := decide (ps.length ≤ 60) && allB ps.length fun k => pairOk n (ps.getD k pr0)
def pairsHold (c : List Int) (ps : List Pr) : Bool := allB ps.length fun k => eqB c (ps.getD k pr0).x (ps.getD k pr0).y
def PairsIn (ps : List Pr) (n : Nat) : Prop := ps.length ≤ 60 ∧ ∀ t, t < ps.length → (0 ≤ (ps.getD t pr0).x ∧ (ps.getD t pr0).x < (n : Int)) ∧ 0 ≤ (ps.getD t pr0).y ∧ (ps.getD t pr0).y < (n : Int)
theorem pairsB_no {n : Int} {ps : List Pr} (k : Nat) (hk : k < ps.length) (h : pairOk n (ps.getD k pr0) = false) : pairsB n ps = false := by
  unfold pairsB
  rw [show (allB ps.length fun k => pairOk n (ps.getD k pr0)) = false from allB_no k hk h]
  simp
theorem pairsB_yes {n : Int} {ps : List Pr} (h2 : ps.length ≤ 60) (h : ∀ k, k < ps.length → pairOk n (ps.getD k pr0) = true) : pairsB n ps = true := by
  unfold pairsB
  rw [show (allB ps.length fun k => pairOk n (ps.getD k pr0)) = true from allB_yes h]
  simp [h2]
theorem pairsIn_of {ps : List Pr} {n : Nat} (h : pairsB n ps = true) : PairsIn ps n := by
  simp only [pairsB, Bool.and_eq_true, decide_eq_true_eq] at h
  refine ⟨h.1, fun t ht => ?_⟩
  have h1 := allB_iff.1 h.2 t ht
  simp only [pairOk, Bool.and_eq_true] at h1
  exact ⟨belowB_iff.1 h1.1, belowB_iff.1 h1.2⟩
theorem eqB_iff {c : List Int} {x y : Int} : eqB c x y = true ↔ c.getD x.toNat 0 = c.getD y.toNat 0 := by unfold eqB cls; exact decide_eq_true_iff
def Fine (ts : List Tm) (ps : List Pr) (m : List Int) : Prop := ∀ d : List Int, d.length = ts.length → soundB ts d = true → pairsHold d ps = true →
  ∀ a b, a < ts.length → b < ts.length → m.getD a 0 = m.getD b 0 → d.getD a 0 = d.getD b 0
def Coarser (n : Nat) (m d : List Int) : Prop := ∀ a b, a < n → b < n → m.getD a 0 = m.getD b 0 → d.getD a 0 = d.getD b 0
theorem mustB_mono {ts : List Tm} {n : Nat} {m d : List Int} (hin : ArgsIn ts n) (hc : Coarser n m d) {i j : Nat} (hi : i < ts.length) (hj : j < ts.length) (h : mustB ts m i j = true) : mustB ts d i j = true := by
  unfold mustB at *
  rw [Bool.and_eq_true] at *
  refine ⟨h.1, ?_⟩
  unfold argsEq at *
  refine allB_yes (fun t ht => ?_)
  have h1 := allB_iff.1 h.2 t ht
  have hl : (ts.getD i tm0).args.length = (ts.getD j tm0).args.length := by have := h.1; simp [alikeB] at this; simpa using this.2
  have b1 := (hin i hi).2 t ht
  have b2 := (hin j hj).2 t (by omega)
  exact eqB_iff.2 (hc _ _ (by omega) (by omega) (eqB_iff.1 h1))
theorem sound_eq {ts : List Tm} {d : List Int} (hs : soundB ts d = true) {i j : Nat} (hi : i < ts.length) (hlt : j < i) (hm : mustB ts d i j = true) : d.getD i 0 = d.getD j 0 := by
  have h1 := allB_iff.1 (allB_iff.1 hs i hi) j hlt
  simp only [forcedB, hm, Bool.and_true, Bool.not_not, decide_eq_true_eq] at h1
  exact h1
theorem soundB_iff {ts : List Tm} {d : List Int} : soundB ts d = true ↔ ∀ i j, j < i → i < ts.length → forcedB ts d i j = false := by
  constructor
  · intro h i j hj hi
    have h1 := allB_iff.1 (allB_iff.1 h i hi) j hj
    simpa using h1
  · exact soundB_yes
theorem soundB_same {ts : List Tm} {n : Nat} {m d : List Int} (hin : ArgsIn ts n) (hn : ts.length ≤ n) (h1 : Coarser n m d) (h2 : Coarser n d m) (hs : soundB ts m = true) : soundB ts d = true := by
  rw [soundB_iff] at *
  intro i j hj hi
  have h3 := hs i j hj hi
  cases hf : forcedB ts d i j
  · rfl
  · exfalso
    simp only [forcedB, Bool.and_eq_true, Bool.not_eq_true', decide_eq_false_iff_not] at hf
    have h4 := mustB_mono hin h2 hi (by omega) hf.2
    simp only [forcedB, h4, Bool.and_true, Bool.not_eq_false', decide_eq_true_eq] at h3
    exact hf.1 (h1 _ _ (by omega) (by omega) h3)
theorem pairsHold_mono {ps : List Pr} {n : Nat} {m d : List Int} (hin : PairsIn ps n) (h1 : Coarser n m d) (h : pairsHold m ps = true) : pairsHold d ps = true := by
  unfold pairsHold at *
  refine allB_yes (fun t ht => ?_)
  have h2 := allB_iff.1 h t ht
  obtain ⟨⟨a, b⟩, c, e⟩ := hin.2 t ht
  exact eqB_iff.2 (h1 _ _ (by omega) (by omega) (eqB_iff.1 h2))
def joinL (m : List Int) (s g : Int) : List Int := tab m.length (fun t => if m.getD t 0 = g then s else m.getD t 0)
theorem joinL_length (m : List Int) (s g : Int) : (joinL m s g).length = m.length := tab_length _ _
theorem joinL_getD {m : List Int} {s g : Int} {t : Nat} (h : t < m.length) : (joinL m s g).getD t 0 = if m.getD t 0 = g then s else m.getD t 0 := tab_getD _ _ h
theorem joinL_coarser {m : List Int} {s g : Int} : Coarser m.length m (joinL m s g) := by
  intro a b ha hb h
  rw [joinL_getD ha, joinL_getD hb, h]
theorem joinL_joins {m : List Int} {a b : Nat} (ha : a < m.length) (hb : b < m.length) : (joinL m (m.getD a 0) (m.getD b 0)).getD a 0 = (joinL m (m.getD a 0) (m.getD b 0)).getD b 0 := by
  rw [joinL_getD ha, joinL_getD hb, if_pos rfl]
  split <;> rfl
theorem joinL_into {m d : List Int} {a b : Nat} (ha : a < m.length) (hb : b < m.length) (h : Coarser m.length m d) (hd : d.getD a 0 = d.getD b 0) : Coarser m.length (joinL m (m.getD a 0) (m.getD b 0)) d := by
  intro x y hx hy he
  rw [joinL_getD hx, joinL_getD hy] at he
  by_cases h1 : m.getD x 0 = m.getD b 0
  · rw [if_pos h1] at he
    by_cases h2 : m.getD y 0 = m.getD b 0
    · exact h _ _ hx hy (h1.trans h2.symm)
    · rw [if_neg h2] at he
      exact (h _ _ hx hb h1).trans (hd.symm.trans (h _ _ ha hy he))
  · rw [if_neg h1] at he
    by_cases h2 : m.getD y 0 = m.getD b 0
    · rw [if_pos h2] at he
      exact (h _ _ hx ha he).trans (hd.trans (h _ _ hb hy h2.symm))
    · rw [if_neg h2] at he
      exact h _ _ hx hy he
def marksN (n : Nat) (m : List Int) : Nat := (List.range n).countP (fun v : Nat => decide ((v : Int) ∈ m))
theorem countP_lt {l : List Nat} {p q : Nat → Bool} (h : ∀ x ∈ l, p x = true → q x = true) {y : Nat} (hy : y ∈ l) (hq : q y = true) (hp : p y = false) : l.countP p < l.countP q := by
  induction l with
  | nil => cases hy
  | cons x xs ih =>
    have hx := h x (by simp)
    have hxs : ∀ z ∈ xs, p z = true → q z = true := fun z hz => h z (by simp [hz])
    have hle : xs.countP p ≤ xs.countP q := List.countP_mono_left hxs
    rcases List.mem_cons.1 hy with rfl | hy'
    · rw [List.countP_cons_of_neg (by simp [hp]), List.countP_cons_of_pos hq]
      omega
    · have := ih hxs hy'
      by_cases hpx : p x = true
      · rw [List.countP_cons_of_pos hpx, List.countP_cons_of_pos (hx hpx)]; omega
      · rw [List.countP_cons_of_neg hpx]
        by_cases hqx : q x = true
        · rw [List.countP_cons_of_pos hqx]; omega
        · rw [List.countP_cons_of_neg hqx]; omega
theorem mem_getD {m : List Int} {v : Int} : v ∈ m ↔ ∃ t, t < m.length ∧ m.getD t 0 = v := by
  rw [List.mem_iff_getElem]
  constructor
  · rintro ⟨t, h, e⟩; exact ⟨t, h, by simp [h, e]⟩
  · rintro ⟨t, h, e⟩; exact ⟨t, h, by simpa [h] using e⟩
theorem marksN_join {n : Nat} {m : List Int} {a b : Nat} (ha : a < m.length) (hb : b < m.length) (hbd : ∀ t, t < m.length → 0 ≤ m.getD t 0 ∧ m.getD t 0 < n) (hne : m.getD a 0 ≠ m.getD b 0) :
    marksN n (joinL m (m.getD a 0) (m.getD b 0)) < marksN n m := by
  obtain ⟨g0, g1⟩ := hbd b hb
  refine countP_lt (y := (m.getD b 0).toNat) (fun v _ hv => ?_) (List.mem_range.2 (by omega)) ?_ ?_
  · simp only [decide_eq_true_eq] at *
    obtain ⟨t, ht, e⟩ := mem_getD.1 hv
    rw [joinL_length] at ht
    rw [joinL_getD ht] at e
    split at e
    · exact mem_getD.2 ⟨a, ha, e⟩
    · exact mem_getD.2 ⟨t, ht, e⟩
  · simp only [decide_eq_true_eq]
    rw [Int.toNat_of_nonneg g0]
    exact mem_getD.2 ⟨b, hb, rfl⟩
  · simp only [decide_eq_false_iff_not]
    rw [Int.toNat_of_nonneg g0]
    intro hv
    obtain ⟨t, ht, e⟩ := mem_getD.1 hv
    rw [joinL_length] at ht
    rw [joinL_getD ht] at e
    split at e
    · exact hne e
    · rename_i h; exact h e
theorem joinL_bd {n : Nat} {m : List Int} {a b : Nat} (ha : a < m.length) (hbd : ∀ t, t < m.length → 0 ≤ m.getD t 0 ∧ m.getD t 0 < (n : Int)) :
    ∀ t, t < (joinL m (m.getD a 0) (m.getD b 0)).length → 0 ≤ (joinL m (m.getD a 0) (m.getD b 0)).getD t 0 ∧ (joinL m (m.getD a 0) (m.getD b 0)).getD t 0 < (n : Int) := by
  intro t ht
  rw [joinL_length] at ht
  rw [joinL_getD ht]
  split
  · exact hbd a ha
  · exact hbd t ht
end Go.Proofs.Ytiobmhfpnhjmcaa
namespace Go.Proofs.Ytiobmhfpnhjmcaa
open Go.RowKit
def isFirst (m : List Int) (t : Nat) : Bool := allB t fun s => decide (m.getD s 0 ≠ m.getD t 0)
theorem isFirst_iff {m : List Int} {t : Nat} : isFirst m t = true ↔ ∀ s, s < t → m.getD s 0 ≠ m.getD t 0 := by
  unfold isFirst
  rw [allB_iff]
  constructor
  · intro h s hs; have := h s hs; simpa using this
  · intro h s hs; have := h s hs; simpa using this
def FirstOf (m : List Int) (t f : Nat) : Prop := f ≤ t ∧ m.getD f 0 = m.getD t 0 ∧ ∀ s, s < f → m.getD s 0 ≠ m.getD t 0
theorem firstOf_ex (m : List Int) (t : Nat) : ∃ f, FirstOf m t f := by
  induction t using Nat.strongRecOn with
  | _ t ih =>
    by_cases h : ∃ s, s < t ∧ m.getD s 0 = m.getD t 0
    · obtain ⟨s, hs, e⟩ := h
      obtain ⟨f, h1, h2, h3⟩ := ih s hs
      exact ⟨f, by omega, h2.trans e, fun u hu => by rw [← e]; exact h3 u hu⟩
    · exact ⟨t, Nat.le_refl _, rfl, fun s hs e => h ⟨s, hs, e⟩⟩
theorem FirstOf.uniq {m : List Int} {t u f g : Nat} (h1 : FirstOf m t f) (h2 : FirstOf m u g) (e : m.getD t 0 = m.getD u 0) : f = g := by
  obtain ⟨_, a2, a3⟩ := h1
  obtain ⟨_, b2, b3⟩ := h2
  rcases Nat.lt_trichotomy f g with h | h | h
  · exact absurd (a2.trans e) (b3 f h)
  · exact h
  · exact absurd (b2.trans e.symm) (a3 g h)
theorem FirstOf.isFirst {m : List Int} {t f : Nat} (h : FirstOf m t f) : isFirst m f = true := isFirst_iff.2 (fun s hs => by rw [h.2.1]; exact h.2.2 s hs)
theorem FirstOf.self {m : List Int} {t : Nat} (h : Go.Proofs.Ytiobmhfpnhjmcaa.isFirst m t = true) : FirstOf m t t := ⟨Nat.le_refl _, rfl, isFirst_iff.1 h⟩
def rk (m : List Int) : Nat → Nat
  | 0 => 0
  | k + 1 => rk m k + if isFirst m k then 1 else 0
theorem rk_mono (m : List Int) {a b : Nat} (h : a ≤ b) : rk m a ≤ rk m b := by
  induction b with
  | zero => rw [Nat.le_zero.1 h]; exact Nat.le_refl _
  | succ b ih =>
    rcases Nat.le_succ_iff.1 h with h1 | h1
    · have := ih h1; show rk m a ≤ rk m b + _; omega
    · subst h1; exact Nat.le_refl _
theorem rk_lt (m : List Int) {a b : Nat} (h : a < b) (ha : isFirst m a = true) : rk m a < rk m b := by
  have h1 : rk m (a + 1) = rk m a + 1 := by simp [rk, ha]
  have h2 := rk_mono m (show a + 1 ≤ b by omega)
  omega
theorem rk_le (m : List Int) : ∀ k, rk m k ≤ k
  | 0 => Nat.le_refl _
  | k + 1 => by have := rk_le m k; unfold rk; split <;> omega
def fi (m : List Int) (v : Int) : Nat → Nat
  | 0 => 0
  | k + 1 => if m.getD (fi m v k) 0 = v then fi m v k else k + 1
theorem fi_spec (m : List Int) (v : Int) : ∀ k, (∀ s, s < fi m v k → m.getD s 0 ≠ v) ∧ fi m v k ≤ k ∧ (m.getD (fi m v k) 0 = v ∨ fi m v k = k)
  | 0 => ⟨fun s hs => by simp [fi] at hs, Nat.le_refl _, .inr rfl⟩
  | k + 1 => by
    obtain ⟨h1, h2, h3⟩ := fi_spec m v k
    by_cases h : m.getD (fi m v k) 0 = v
    · have e : fi m v (k + 1) = fi m v k := by show (if _ then _ else _) = _; rw [if_pos h]
      rw [e]
      exact ⟨h1, by omega, .inl h⟩
    · have e : fi m v (k + 1) = k + 1 := by show (if _ then _ else _) = _; rw [if_neg h]
      have hk : fi m v k = k := h3.resolve_left h
      rw [hk] at h h1
      rw [e]
      refine ⟨fun s hs => ?_, Nat.le_refl _, .inr rfl⟩
      rcases Nat.lt_succ_iff_lt_or_eq.1 hs with h4 | h4
      · exact h1 s h4
      · rw [h4]; exact h
theorem fi_first (m : List Int) (t : Nat) : FirstOf m t (fi m (m.getD t 0) t) := by
  obtain ⟨h1, h2, h3⟩ := fi_spec m (m.getD t 0) t
  refine ⟨h2, ?_, h1⟩
  rcases h3 with h3 | h3
  · exact h3
  · rw [h3]
def clsOf (m : List Int) (t : Nat) : Int := (rk m (fi m (m.getD t 0) t) : Int)
theorem clsOf_eq {m : List Int} {t f : Nat} (h : FirstOf m t f) : clsOf m t = rk m f := by
  unfold clsOf
  rw [FirstOf.uniq (fi_first m t) h rfl]
theorem clsOf_iff (m : List Int) (a b : Nat) : clsOf m a = clsOf m b ↔ m.getD a 0 = m.getD b 0 := by
  obtain ⟨f, hf⟩ := firstOf_ex m a
  obtain ⟨g, hg⟩ := firstOf_ex m b
  rw [clsOf_eq hf, clsOf_eq hg]
  constructor
  · intro h
    have h : rk m f = rk m g := by omega
    rcases Nat.lt_trichotomy f g with h1 | h1 | h1
    · have := rk_lt m h1 hf.isFirst; omega
    · subst h1; exact hf.2.1.symm.trans hg.2.1
    · have := rk_lt m h1 hg.isFirst; omega
  · intro h
    rw [FirstOf.uniq hf hg h]
def clsTo (m : List Int) (k : Nat) : List Int := tab m.length (fun t => if t < k then clsOf m t else 0)
def clsAll (m : List Int) : List Int := tab m.length (clsOf m)
theorem clsTo_length (m : List Int) (k : Nat) : (clsTo m k).length = m.length := tab_length _ _
theorem clsAll_length (m : List Int) : (clsAll m).length = m.length := tab_length _ _
theorem clsTo_zero (m : List Int) : clsTo m 0 = zeros m.length := tab_congr (fun t _ => by rw [if_neg (by omega)])
theorem clsTo_all (m : List Int) : clsTo m m.length = clsAll m := tab_congr (fun t h => by rw [if_pos h])
theorem clsTo_set (m : List Int) (k : Nat) : (clsTo m k).set k (clsOf m k) = clsTo m (k + 1) := by
  unfold clsTo
  rw [tab_set]
  refine tab_congr (fun t _ => ?_)
  by_cases h : t = k
  · subst h; rw [if_pos rfl, if_pos (by omega)]
  · rw [if_neg h]
    by_cases h2 : t < k
    · rw [if_pos h2, if_pos (by omega)]
    · rw [if_neg h2, if_neg (by omega)]
theorem clsTo_getD {m : List Int} {k t : Nat} (ht : t < m.length) (hk : t < k) : (clsTo m k).getD t 0 = clsOf m t := by
  unfold clsTo; rw [tab_getD _ _ ht, if_pos hk]
theorem clsAll_getD {m : List Int} {t : Nat} (ht : t < m.length) : (clsAll m).getD t 0 = clsOf m t := tab_getD _ _ ht
theorem clsAll_coarser (m : List Int) : Coarser m.length m (clsAll m) ∧ Coarser m.length (clsAll m) m := by
  constructor
  · intro a b ha hb h
    rw [clsAll_getD ha, clsAll_getD hb]; exact (clsOf_iff m a b).2 h
  · intro a b ha hb h
    rw [clsAll_getD ha, clsAll_getD hb] at h; exact (clsOf_iff m a b).1 h
theorem gr_cls (m : List Int) : ∀ i, i + 1 ≤ m.length → gr (clsAll m) (i + 1) = (rk m (i + 1) : Int) - 1
  | 0, h => by
    have h0 : isFirst m 0 = true := isFirst_iff.2 (fun s hs => by omega)
    have e : clsOf m 0 = 0 := by rw [clsOf_eq (FirstOf.self h0)]; rfl
    simp only [gr, clsAll_getD (show 0 < m.length by omega), e, rk, h0, if_true]
    omega
  | i + 1, h => by
    have ih := gr_cls m i (by omega)
    have e : gr (clsAll m) (i + 1 + 1) = max (gr (clsAll m) (i + 1)) ((clsAll m).getD (i + 1) 0) := rfl
    rw [e, ih, clsAll_getD (by omega)]
    have er : rk m (i + 1 + 1) = rk m (i + 1) + if isFirst m (i + 1) then 1 else 0 := rfl
    rw [er]
    obtain ⟨f, hf⟩ := firstOf_ex m (i + 1)
    rw [clsOf_eq hf]
    by_cases hfe : f = i + 1
    · subst hfe
      rw [if_pos hf.isFirst]; omega
    · have hlt : f < i + 1 := by have := hf.1; omega
      have hno : ¬ isFirst m (i + 1) = true := fun h1 => hfe (FirstOf.uniq hf (FirstOf.self h1) rfl)
      rw [if_neg hno]
      have := rk_lt m hlt hf.isFirst
      omega
theorem Rg.cls {m : List Int} (h9 : m.length ≤ 9) : Rg (clsAll m) := by
  refine ⟨by rw [clsAll_length]; exact h9, fun h0 => ?_, fun t ht => ?_⟩
  · rw [clsAll_length] at h0
    rw [clsAll_getD h0, clsOf_eq (FirstOf.self (isFirst_iff.2 (fun s hs => by omega)))]; rfl
  · rw [clsAll_length] at ht
    rw [clsAll_getD ht]
    obtain ⟨f, hf⟩ := firstOf_ex m t
    rw [clsOf_eq hf]
    refine ⟨by omega, fun h1 => ?_⟩
    obtain ⟨p, rfl⟩ : ∃ p, t = p + 1 := ⟨t - 1, by omega⟩
    rw [gr_cls m p (by omega)]
    have := rk_mono m hf.1
    omega
def CloseOf (ts : List Tm) (ps : List Pr) (c : List Int) : Prop := c.length = ts.length ∧ Rg c ∧ soundB ts c = true ∧ pairsHold c ps = true ∧ Fine ts ps c
theorem closeOf_cls {ts : List Tm} {ps : List Pr} {m : List Int} (h9 : ts.length ≤ 9) (hl : m.length = ts.length) (hin : ArgsIn ts ts.length) (hp : PairsIn ps ts.length) (hs : soundB ts m = true) (hh : pairsHold m ps = true) (hf : Fine ts ps m) : CloseOf ts ps (clsAll m) := by
  have hc := clsAll_coarser m
  rw [hl] at hc
  refine ⟨by rw [clsAll_length, hl], Rg.cls (by omega), soundB_same hin (Nat.le_refl _) hc.1 hc.2 hs, pairsHold_mono hp hc.1 hh, ?_⟩
  intro d h1 h2 h3 a b ha hb he
  exact hf d h1 h2 h3 a b ha hb (hc.2 a b ha hb he)
end Go.Proofs.Ytiobmhfpnhjmcaa
namespace Go.Proofs.Ytiobmhfpnhjmcaa
open Go.RowKit
def Lex (d c : List Int) : Prop := ∃ i, i < c.length ∧ (∀ t, t < i → d.getD t 0 = c.getD t 0) ∧ d.getD i 0 < c.getD i 0
theorem zeros_lex {d : List Int} {n : Nat} (hd : Rg d) (hl : d.length = n) : ¬ Lex d (zeros n) := by
  rintro ⟨i, hi, _, hlt⟩
  rw [zeros_length] at hi
  rw [show (zeros n).getD i 0 = 0 from tab_getD _ _ hi] at hlt
  have := (hd.2.2 i (by omega)).1
  omega
end Go.Proofs.Ytiobmhfpnhjmcaa
namespace Go.Proofs.Ytiobmhfpnhjmcaa
open Go.RowKit
theorem info_ints : (Try.prog.info? 24).map (fun i => (i.zero, i.size, i.bytes)) = some (some (.slice none 0 0), 1, 24) := by kernel_rfl
structure Wy where
  a : Option Addr
  cap : Nat
  xs : List Int
def wy0 : Wy := ⟨none, 0, []⟩
def wyVal (y : Wy) : Value := .slice y.a y.xs.length y.cap
def intCells (xs : List Int) : List Value := xs.map (Value.int .i64)
def WaysAt (w : World) (a : Option Addr) (ys : List Wy) : Prop :=
  ys = [] ∨ ∃ b o, a = some ⟨b, o, none⟩ ∧ ∀ i, i < ys.length → w.cell? ⟨b, o + i, none⟩ = some (wyVal (ys.getD i wy0)) ∧ IntsAt w (ys.getD i wy0).a (ys.getD i wy0).xs
theorem WaysAt.below {w w' : World} {a : Option Addr} {ys : List Wy} (h : WaysAt w a ys) (hb : Below w.heap.size w w') : WaysAt w' a ys := by
  rcases h with h | ⟨b, o, rfl, h⟩
  · exact .inl h
  · refine .inr ⟨b, o, rfl, fun i hi => ?_⟩
    obtain ⟨h1, h2⟩ := h i hi
    exact ⟨cell_below hb h1, h2.below hb⟩
theorem WaysAt.get {w : World} {a : Option Addr} {ys : List Wy} (h : WaysAt w a ys) {i : Nat} (hi : i < ys.length) :
    ∃ b o, a = some ⟨b, o, none⟩ ∧ ∀ i, i < ys.length → w.cell? ⟨b, o + i, none⟩ = some (wyVal (ys.getD i wy0)) ∧ IntsAt w (ys.getD i wy0).a (ys.getD i wy0).xs := by
  rcases h with h | h
  · subst h; simp at hi
  · exact h
theorem intsAt_of_own {w : World} {base : Nat} {a : Option Addr} {cap : Nat} {xs : List Int} (h : w.ownsRow base 3 1 (.slice a xs.length cap) xs.length (intCells xs)) : IntsAt w a xs := by
  rcases h.2 with ⟨_, hn⟩ | ⟨g, cap, cur, hv, hb, hg, h1, h2, h3, h4⟩
  · exact .inl (List.length_eq_zero_iff.1 hn)
  · injection hv with hv _ _
    subst hv
    refine .inr ⟨g, 0, rfl, fun i hi => ?_⟩
    have hc : (intCells xs)[i]? = some (.int .i64 (xs.getD i 0)) := by simp [intCells, hi]
    rw [← h4, List.getElem?_take, if_pos (by omega)] at hc
    rw [Nat.zero_add, cell_of_row w g _ cur 3 (0, 0) hg]
    simpa using hc
def YsOwn (B : Nat) (w : World) (v : Value) (ys : List Wy) : Prop :=
  w.ownsRow B 24 1 v ys.length (ys.map wyVal) ∧ ∀ i, i < ys.length → w.ownsRow B 3 1 (wyVal (ys.getD i wy0)) (ys.getD i wy0).xs.length (intCells (ys.getD i wy0).xs)
theorem YsOwn.at {B : Nat} {w : World} {v : Value} {ys : List Wy} (h : YsOwn B w v ys) : ∃ a cap, v = .slice a ys.length cap ∧ WaysAt w a ys := by
  obtain ⟨h0, hl⟩ := h
  obtain ⟨a, cap, rfl⟩ := own_val h0
  refine ⟨a, cap, rfl, ?_⟩
  rcases h0.2 with ⟨_, hn⟩ | ⟨g, cap, cur, hv, hb, hg, h1, h2, h3, h4⟩
  · exact .inl (List.length_eq_zero_iff.1 hn)
  · injection hv with hv _ _
    subst hv
    refine .inr ⟨g, 0, rfl, fun i hi => ⟨?_, intsAt_of_own (hl i hi)⟩⟩
    have hc : (ys.map wyVal)[i]? = some (wyVal (ys.getD i wy0)) := by simp [hi]
    rw [← h4, List.getElem?_take, if_pos (by omega)] at hc
    rw [Nat.zero_add, cell_of_row w g _ cur 24 (0, 0) hg]
    simpa using hc
theorem YsOwn.below {B : Nat} {w w' : World} {v : Value} {ys : List Wy} (h : YsOwn B w v ys) (hb : Below w.heap.size w w') : YsOwn B w' v ys := ⟨own_below h.1 hb, fun i hi => own_below (h.2 i hi) hb⟩
theorem YsOwn.kept {g : Nat} {w w' : World} {v : Value} {ys : List Wy} (h : YsOwn (g + 1) w v ys) (hg : w.grownBy w' (some g)) : YsOwn (g + 1) w' v ys := by
  have hk : ∀ {e n xs v}, w.ownsRow (g + 1) e 1 v n xs → w'.ownsRow (g + 1) e 1 v n xs := by
    intro e n xs v ho
    refine ho.kept hg ?_
    cases hv : v.ownBlock with
    | none => exact .inl rfl
    | some k =>
      have := (ho.lt k hv).1
      exact .inr (fun e => by injection e with e; omega)
  exact ⟨hk h.1, fun i hi => hk (h.2 i hi)⟩
theorem YsOwn.snoc {B : Nat} {w w1 w2 : World} {v v' : Value} {ys : List Wy} {a : Option Addr} {cap : Nat} {xs : List Int} (h : YsOwn B w v ys) (hb : Below w.heap.size w w1)
    (hy : w1.ownsRow B 3 1 (.slice a xs.length cap) xs.length (intCells xs)) (hown : w2.ownsRow B 24 1 v' (ys.length + 1) (ys.map wyVal ++ [.slice a xs.length cap])) (hg : w1.grownBy w2 v.ownBlock) : YsOwn B w2 v' (ys ++ [⟨a, cap, xs⟩]) := by
  have ht := own_type (own_below h.1 hb) (show 24 ≠ 3 by decide)
  refine ⟨by simpa [wyVal] using hown, fun i hi => ?_⟩
  simp only [List.length_append, List.length_cons, List.length_nil] at hi
  by_cases hil : i < ys.length
  · rw [getD_snoc_lt _ _ _ hil]
    exact own_apart (own_below (h.2 i hil) hb) hg ht
  · have : i = ys.length := by omega
    subst this
    rw [getD_snoc_eq]
    exact own_apart hy hg ht
def Gone (n : Nat) (fits : List Int → Bool) (ys : List Wy) (c : List Int) : Prop :=
  (∀ i, i < ys.length → Rg (ys.getD i wy0).xs ∧ (ys.getD i wy0).xs.length = n ∧ fits (ys.getD i wy0).xs = true) ∧ ∀ d, Rg d → d.length = n → fits d = true → Lex d c → ∃ i, i < ys.length ∧ (ys.getD i wy0).xs = d
theorem Gone.start (n : Nat) (fits : List Int → Bool) : Gone n fits [] (zeros n) := ⟨fun i hi => by simp at hi, fun d h1 h2 _ h4 => absurd h4 (zeros_lex h1 h2)⟩
end Go.Proofs.Ytiobmhfpnhjmcaa
namespace Go.Proofs.Ytiobmhfpnhjmcaa
open Go.RowKit
theorem intCells_one (xs : List Int) : ∀ u ∈ intCells xs, u.oneCell' = true := by
  intro u hu
  simp [intCells] at hu
  obtain ⟨x, _, rfl⟩ := hu
  rfl
end Go.Proofs.Ytiobmhfpnhjmcaa
