import Derived.Test.YtmampmbnjdncjaaDMLy
import Derived.Test.YtmampmbnjdncjaaDXLtQ
namespace Go.Proofs.Ytmampmbnjdncjaa
open Go.RowKit
def ltEq : DecidableEq Lt := fun a b => decidable_of_iff (a.x = b.x ∧ a.y = b.y ∧ a.n = b.n) (by cases a; cases b; simp)
def normL (t : Lt) : Lt := ⟨min t.x t.y, max t.x t.y, t.n⟩
def placeI (t : Lt) : Int := wrap64 (wrap64 (wrap64 (wrap64 (min t.x t.y * 10) + max t.x t.y) * 2) + (if t.n then 1 else 0))
def withF (l : Lt) : List Lt → Bool → List Lt
  | [], d => if d then [] else [l]
  | c :: cs, d => if (d || @decide (c = l) (ltEq c l)) = false ∧ placeI l < placeI c then l :: c :: withF l cs true else c :: withF l cs (d || @decide (c = l) (ltEq c l))
def withL (c : List Lt) (t : Lt) : List Lt := withF (normL t) c false
theorem withF_done (l : Lt) : ∀ cs, withF l cs true = cs
  | [] => rfl
  | c :: cs => by simp [withF, withF_done l cs]
theorem withF_filter (x : Lt) (p : Lt → Bool) : ∀ u : List Lt, u.Pairwise (fun a b => placeI a < placeI b) → x ∈ u → withF x (u.filter p) false = u.filter (fun y => p y || @decide (y = x) (ltEq y x)) := by
  intro u
  induction u with
  | nil => intro _ h; simp at h
  | cons y ys ih =>
    intro hp hx
    rw [List.pairwise_cons] at hp
    obtain ⟨hy, hp⟩ := hp
    by_cases e : y = x
    · subst e
      have hn : y ∉ ys := fun h => by have := hy y h; omega
      have e1 : ys.filter (fun z => p z || @decide (z = y) (ltEq z y)) = ys.filter p := by
        refine List.filter_congr (fun z hz => ?_)
        have : ¬ z = y := fun e => hn (e ▸ hz)
        simp [this]
      rw [List.filter_cons, List.filter_cons]
      rw [if_pos (by simp : (p y || @decide (y = y) (ltEq y y)) = true), e1]
      cases hq : p y
      · rw [if_neg (by simp)]
        cases hf : ys.filter p with
        | nil => rfl
        | cons c r =>
          have hc : c ∈ ys := by
            have : c ∈ ys.filter p := by rw [hf]; exact List.mem_cons_self ..
            exact (List.mem_filter.1 this).1
          have h1 := hy c hc
          have h2 : ¬ c = y := fun e => hn (e ▸ hc)
          simp [withF, h1, h2, withF_done]
      · rw [if_pos rfl]
        simp [withF, withF_done]
    · have hx' : x ∈ ys := by
        rcases List.mem_cons.1 hx with h | h
        · exact absurd h.symm e
        · exact h
      have h1 := hy x hx'
      rw [List.filter_cons, List.filter_cons]
      cases hq : p y
      · simp only [Bool.false_eq_true, if_false, Bool.false_or, @decide_eq_false _ (ltEq y x) e]
        exact ih hp hx'
      · simp only [if_true, Bool.true_or]
        have h2 : ¬ placeI x < placeI y := by omega
        simp only [withF, Bool.false_or, @decide_eq_false _ (ltEq y x) e, h2, and_false, if_false]
        rw [ih hp hx']
def nextTo (a : Lt) : List Lt → Bool
  | [] => true
  | b :: l => decide (placeI a < placeI b) && nextTo b l
theorem nextTo_all {l : List Lt} : ∀ {a : Lt}, nextTo a l = true → (∀ b ∈ l, placeI a < placeI b) ∧ l.Pairwise (fun a b => placeI a < placeI b) := by
  induction l with
  | nil => intro a _; exact ⟨fun _ h => by simp at h, List.Pairwise.nil⟩
  | cons b l ih =>
    intro a h
    rw [nextTo, Bool.and_eq_true, decide_eq_true_eq] at h
    obtain ⟨h1, h2⟩ := h
    obtain ⟨h3, h4⟩ := ih h2
    refine ⟨fun c hc => ?_, List.pairwise_cons.2 ⟨h3, h4⟩⟩
    rcases List.mem_cons.1 hc with rfl | hc
    · exact h1
    · have := h3 c hc; omega
theorem allL_first : ∃ l, allL 9 = ⟨0, 0, false⟩ :: l ∧ nextTo ⟨0, 0, false⟩ l = true := ⟨(allL 9).tail, @of_decide_eq_true _ (@instDecidableEqList Lt ltEq _ _) (by decide +kernel), by decide +kernel⟩
theorem allL_sorted : (allL 9).Pairwise (fun a b => placeI a < placeI b) := by
  obtain ⟨l, h1, h2⟩ := allL_first
  rw [h1]
  exact List.pairwise_cons.2 (nextTo_all h2)
def lowB (t : Lt) : Bool := decide (0 ≤ t.x) && decide (t.x ≤ t.y) && decide (t.y < 9)
theorem allL_low : ∀ t ∈ allL 9, 0 ≤ t.x ∧ t.x ≤ t.y ∧ t.y < 9 := by
  have h : (allL 9).all lowB = true := by decide +kernel
  intro t ht
  have := List.all_eq_true.1 h t ht
  simp only [lowB, Bool.and_eq_true, decide_eq_true_eq] at this
  exact ⟨this.1.1, this.1.2, this.2⟩
theorem allL_mem {t : Lt} (h0 : 0 ≤ t.x) (h1 : t.x ≤ t.y) (h2 : t.y < 9) : t ∈ allL 9 := by
  have h : ∀ l g : Fin 9, l ≤ g → ∀ n : Bool, ((allL 9).any fun u => decide (u.x = (l.1 : Int)) && decide (u.y = (g.1 : Int)) && decide (u.n = n)) = true := by decide +kernel
  obtain ⟨x, y, n⟩ := t
  simp only at h0 h1 h2
  have := h ⟨x.toNat, by omega⟩ ⟨y.toNat, by omega⟩ (by show x.toNat ≤ y.toNat; omega) n
  obtain ⟨u, hu, hx⟩ := List.any_eq_true.1 this
  obtain ⟨u1, u2, u3⟩ := u
  simp only [Bool.and_eq_true, decide_eq_true_eq, Int.toNat_of_nonneg h0, Int.toNat_of_nonneg (Int.le_trans h0 h1)] at hx
  obtain ⟨⟨rfl, rfl⟩, rfl⟩ := hx
  exact hu
theorem norm_low {t : Lt} (h : LowL 9 t) : 0 ≤ (normL t).x ∧ (normL t).x ≤ (normL t).y ∧ (normL t).y < 9 := by
  obtain ⟨h1, h2, h3, h4⟩ := h
  simp only [normL]
  omega
theorem norm_in {t : Lt} (h : LowL 9 t) : normL t ∈ allL 9 := by
  obtain ⟨h1, h2, h3⟩ := norm_low h
  exact allL_mem h1 h2 h3
theorem one_norm {t u : Lt} (ht : LowL 9 t) (hu : u ∈ allL 9) : oneB t u = @decide (u = normL t) (ltEq u (normL t)) := by
  obtain ⟨h1, h2, h3⟩ := allL_low u hu
  rw [Bool.eq_iff_iff, @decide_eq_true_eq (u = normL t) (ltEq u (normL t))]
  constructor
  · intro h
    unfold oneB at h
    simp only [Bool.and_eq_true, decide_eq_true_eq] at h
    obtain ⟨x, y, n⟩ := u
    obtain ⟨a, b, m⟩ := t
    simp only at h h1 h2 h3
    obtain ⟨p1, p2, p3, p4⟩ := ht
    simp only at p1 p2 p3 p4
    have e := ixN_inj ⟨p1, p2⟩ ⟨p3, p4⟩ ⟨h1, by omega⟩ ⟨by omega, h3⟩ (by first | exact h.2 | exact h.1)
    have en : n = m := by first | exact h.1.symm | exact h.2.symm | exact h.1 | exact h.2
    subst en
    simp only [normL, Lt.mk.injEq]
    rcases e with ⟨e1, e2⟩ | ⟨e1, e2⟩ <;> refine ⟨?_, ?_, trivial⟩ <;> omega
  · intro h
    subst h
    unfold oneB
    obtain ⟨p1, p2, p3, p4⟩ := ht
    have : ixN t.x t.y = ixN (normL t).x (normL t).y := by
      unfold ixN normL
      simp only
      congr 1 <;> omega
    simp [this, normL]
theorem withL_in {E A : Nat} {t : Lt} (ht : LowL 9 t) : withL (inOrd E A) t = inOrd (withE E t) (withA A t) := by
  unfold withL inOrd
  rw [withF_filter _ _ _ allL_sorted (norm_in ht)]
  refine List.filter_congr (fun u hu => ?_)
  rw [with_has, one_norm ht hu]
theorem place_inj {a b : Lt} (ha : a ∈ allL 9) (hb : b ∈ allL 9) (h : placeI a = placeI b) : a = b := by
  have hp := allL_sorted
  by_cases e : a = b
  · exact e
  · exfalso
    obtain ⟨l1, l2, hl⟩ := List.append_of_mem ha
    rw [hl] at hb hp
    rcases List.mem_append.1 hb with hb | hb
    · have := (List.pairwise_append.1 hp).2.2 b hb a (List.mem_cons_self ..); omega
    · rcases List.mem_cons.1 hb with hb | hb
      · exact e hb.symm
      · have := (List.pairwise_cons.1 (List.pairwise_append.1 hp).2.1).1 b hb; omega
theorem place_norm (t : Lt) : placeI (normL t) = placeI t := by
  unfold placeI normL
  simp only
  rw [show min (min t.x t.y) (max t.x t.y) = min t.x t.y by omega, show max (min t.x t.y) (max t.x t.y) = max t.x t.y by omega]
def woutL (c : List Lt) (t : Lt) : List Lt := c.filter (fun y => !decide (placeI y = placeI t))
def wasL (c : List Lt) (t : Lt) : Bool := c.any (fun y => decide (placeI y = placeI t))
theorem place_one {t u : Lt} (ht : LowL 9 t) (hu : u ∈ allL 9) : decide (placeI u = placeI t) = oneB t u := by
  rw [one_norm ht hu, Bool.eq_iff_iff, decide_eq_true_eq, @decide_eq_true_eq (u = normL t) (ltEq u (normL t))]
  constructor
  · intro h
    exact place_inj hu (norm_in ht) (by rw [place_norm]; exact h)
  · intro h; rw [h, place_norm]
theorem woutL_in {E A : Nat} {t : Lt} (ht : LowL 9 t) : woutL (inOrd E A) t = inOrd (woutE E t) (woutA A t) := by
  unfold woutL inOrd
  rw [List.filter_filter]
  refine List.filter_congr (fun u hu => ?_)
  rw [wout_has, place_one ht hu, Bool.and_comm]
theorem has_one {E A : Nat} {t u : Lt} (h : oneB t u = true) : hasS E A t = hasS E A u := by
  unfold oneB at h
  unfold hasS
  simp only [Bool.and_eq_true, decide_eq_true_eq] at h
  first
    | rw [h.1, h.2]
    | rw [h.2, h.1]
theorem wasL_in {E A : Nat} {t : Lt} (ht : LowL 9 t) : wasL (inOrd E A) t = hasS E A t := by
  unfold wasL inOrd
  rw [Bool.eq_iff_iff, List.any_eq_true]
  constructor
  · rintro ⟨u, hu, h⟩
    rw [List.mem_filter] at hu
    rw [place_one ht hu.1] at h
    rw [has_one h]; exact hu.2
  · intro h
    have h1 : oneB t (normL t) = true := by rw [one_norm ht (norm_in ht)]; simp
    refine ⟨normL t, List.mem_filter.2 ⟨norm_in ht, by rw [← has_one h1]; exact h⟩, ?_⟩
    rw [place_one ht (norm_in ht)]; exact h1
def withs (c ls : List Lt) : List Lt := ls.foldl withL c
theorem withs_in : ∀ (ls : List Lt) (s : Nat × Nat), (∀ t ∈ ls, LowL 9 t) → withs (inOrd s.1 s.2) ls = inOrd (ofL ls s).1 (ofL ls s).2
  | [], _, _ => rfl
  | t :: ls, s, h => by
    show withs (withL (inOrd s.1 s.2) t) ls = _
    rw [withL_in (h t (List.mem_cons_self ..))]
    exact withs_in ls (withE s.1 t, withA s.2 t) (fun u hu => h u (List.mem_cons_of_mem _ hu))
theorem inOrd_zero : inOrd 0 0 = [] := by
  unfold inOrd
  rw [List.filter_eq_nil_iff]
  intro a _
  rw [has_zero]; simp
theorem inOrd_low {E A : Nat} : ∀ t ∈ inOrd E A, LowL 9 t := by
  intro t ht
  obtain ⟨h1, h2, h3⟩ := allL_low t (List.mem_filter.1 ht).1
  exact ⟨h1, by omega, by omega, h3⟩
theorem inOrd_congr {E A F B : Nat} (h : ∀ u ∈ allL 9, hasS E A u = hasS F B u) : inOrd E A = inOrd F B := List.filter_congr h
theorem withs_two (E A F B : Nat) : withs (withs [] (inOrd E A)) (inOrd F B) = inOrd (E ||| F) (A ||| B) := by
  rw [← inOrd_zero, withs_in _ (0, 0) inOrd_low, withs_in _ _ inOrd_low]
  refine inOrd_congr (fun u hu => ?_)
  rw [ofL_has, ofL_has, or_has, has_zero, Bool.false_or]
  have key : ∀ E A, ((inOrd E A).any fun t => oneB t u) = hasS E A u := by
    intro E A
    rw [Bool.eq_iff_iff, List.any_eq_true]
    constructor
    · rintro ⟨t, ht, h⟩
      rw [← has_one h]; exact (List.mem_filter.1 ht).2
    · intro h
      exact ⟨u, List.mem_filter.2 ⟨hu, h⟩, one_refl u⟩
  rw [key, key]
theorem withs_length (c : List Lt) (t : Lt) : (withL c t).length ≤ c.length + 1 := by
  have h : ∀ (l : Lt) (cs : List Lt) (d : Bool), (withF l cs d).length ≤ cs.length + 1 := by
    intro l cs
    induction cs with
    | nil => intro d; cases d <;> simp [withF]
    | cons c cs ih =>
      intro d
      unfold withF
      split
      · rw [withF_done]; simp
      · have := ih (d || @decide (c = l) (ltEq c l)); simp; omega
  exact h _ _ _
end Go.Proofs.Ytmampmbnjdncjaa
namespace Go.Proofs.Ytmampmbnjdncjaa
open Go.RowKit
def Low45 (p : Nat × Nat) : Prop := ∀ k, 45 ≤ k → p.1.testBit k = false ∧ p.2.testBit k = false
theorem Low45.nil : Low45 (0, 0) := fun k _ => by simp
theorem Low45.with {p : Nat × Nat} (h : Low45 p) {t : Lt} (ht : LowL 9 t) : Low45 (withE p.1 t, withA p.2 t) := by
  intro k hk
  have hi := ixN_le ht.1 ht.2.1 ht.2.2.1 ht.2.2.2
  have hb : (bitN t.x t.y).testBit k = false := by rw [bitN_bit]; simp; omega
  obtain ⟨h1, h2⟩ := h k hk
  unfold withE withA
  refine ⟨?_, ?_⟩
  · show (if t.n then p.1 else p.1 ||| bitN t.x t.y).testBit k = false
    split
    · exact h1
    · rw [Nat.testBit_or, h1, hb]; rfl
  · show (if t.n then p.2 ||| bitN t.x t.y else p.2).testBit k = false
    split
    · rw [Nat.testBit_or, h2, hb]; rfl
    · exact h2
theorem Low45.of : ∀ (ls : List Lt) {p : Nat × Nat}, Low45 p → (∀ t ∈ ls, LowL 9 t) → Low45 (ofL ls p)
  | [], _, h, _ => h
  | t :: ls, _, h, hl => Low45.of ls (h.with (hl t (List.mem_cons_self ..))) (fun u hu => hl u (List.mem_cons_of_mem _ hu))
theorem Low45.wout {p : Nat × Nat} (h : Low45 p) (t : Lt) : Low45 (woutE p.1 t, woutA p.2 t) := by
  intro k hk
  obtain ⟨h1, h2⟩ := h k hk
  unfold woutE woutA
  refine ⟨?_, ?_⟩
  · show (if t.n then p.1 else butN p.1 (bitN t.x t.y)).testBit k = false
    split
    · exact h1
    · rw [butN_bit, h1]; rfl
  · show (if t.n then butN p.2 (bitN t.x t.y) else p.2).testBit k = false
    split
    · rw [butN_bit, h2]; rfl
    · exact h2
theorem Low45.or {p q : Nat × Nat} (h : Low45 p) (h' : Low45 q) : Low45 (p.1 ||| q.1, p.2 ||| q.2) := by
  intro k hk
  obtain ⟨h1, h2⟩ := h k hk
  obtain ⟨h3, h4⟩ := h' k hk
  exact ⟨by show (p.1 ||| q.1).testBit k = false; rw [Nat.testBit_or, h1, h3]; rfl, by show (p.2 ||| q.2).testBit k = false; rw [Nat.testBit_or, h2, h4]; rfl⟩
theorem next_low45 {ts : List Tm} {cs : List Cl} {ss : List (Nat × Nat)} {s : St} (hts : termsB ts = true) (hcl : clausesB ts.length cs = true) (h64 : ∀ p ∈ ss, Low45 p) (h : nextB ts cs ss s = true) : Low45 (nextS ts cs ss s) := by
  have h9 : (ts.length : Int) ≤ 9 := by have := (len_of hts).2; omega
  unfold nextB at h
  unfold nextS
  split at h
  · rename_i h0
    rw [if_pos h0]
    simp only [okG, Bool.and_eq_true] at h
    have ha := allB_iff.1 h.1 0 (by simp)
    have ha' : belowB s.a (cs.length : Nat) = true := ha
    simp [belowB] at ha'
    exact Low45.of _ Low45.nil (clow_of hts hcl s.a.toNat (by omega)).2
  · rename_i h0
    rw [if_neg h0]
    split at h
    · rename_i h1
      rw [if_pos h1]
      simp only [okR, Bool.and_eq_true] at h
      have ha : belowB s.a (ts.length : Nat) = true := allB_iff.1 h.1 0 (by simp)
      exact Low45.of _ Low45.nil (by intro t ht; simp at ht; rw [ht]; exact lowL_of h9 ha ha)
    · rename_i h1
      rw [if_neg h1]
      split at h
      · rename_i h2
        rw [if_pos h2]
        simp only [okT, Bool.and_eq_true] at h
        have ha : belowB s.a (ts.length : Nat) = true := allB_iff.1 h.1 0 (by simp)
        have hb : belowB s.b (ts.length : Nat) = true := allB_iff.1 h.1 1 (by simp)
        have hc : belowB s.c (ts.length : Nat) = true := allB_iff.1 h.1 2 (by simp)
        refine Low45.of _ Low45.nil ?_
        intro t ht
        simp at ht
        rcases ht with rfl | rfl | rfl
        · exact lowL_of h9 ha hb
        · exact lowL_of h9 hb hc
        · exact lowL_of h9 ha hc
      · rename_i h2
        rw [if_neg h2]
        split at h
        · rename_i h3
          rw [if_pos h3]
          simp only [okC, Bool.and_eq_true] at h
          have ha : belowB s.a (ts.length : Nat) = true := allB_iff.1 h.1.1 0 (by simp)
          have hb : belowB s.b (ts.length : Nat) = true := allB_iff.1 h.1.1 1 (by simp)
          have hal := h.2
          simp only [alikeB, Bool.and_eq_true, decide_eq_true_eq] at hal
          have ha' := ha
          have hb' := hb
          simp [belowB] at ha' hb'
          have ai := argsIn_of hts (Nat.le_refl _) s.a.toNat (by omega)
          have aj := argsIn_of hts (Nat.le_refl _) s.b.toNat (by omega)
          refine Low45.of _ Low45.nil (congL_low (lowL_of h9 ha hb) (fun i hi => ?_) (fun i hi => ?_))
          · have := ai.2 i hi; omega
          · have := aj.2 i (by rw [← hal.2]; exact hi); omega
        · rename_i h3
          rw [if_neg h3]
          split at h
          · simp only [okX, Bool.and_eq_true] at h
            have ha : belowB s.a (ss.length : Nat) = true := allB_iff.1 h.1.1.1 0 (by simp)
            have hb : belowB s.b (ss.length : Nat) = true := allB_iff.1 h.1.1.1 1 (by simp)
            simp [belowB] at ha hb
            have x := h64 _ (getD_memS (ls := ss) (k := s.a.toNat) (by omega))
            have y := h64 _ (getD_memS (ls := ss) (k := s.b.toNat) (by omega))
            exact (x.wout ⟨s.c, s.d, false⟩).or (y.wout ⟨s.c, s.d, true⟩)
          · cases h
theorem followL_low45 {ts : List Tm} {cs : List Cl} (hts : termsB ts = true) (hcl : clausesB ts.length cs = true) : ∀ (sts : List St) (ss : List (Nat × Nat)), (∀ p ∈ ss, Low45 p) → ∀ p ∈ followL ts cs sts ss, Low45 p
  | [], _, h => h
  | s :: l, ss, h => by
    unfold followL
    split
    · rename_i hn
      refine followL_low45 hts hcl l _ ?_
      intro p hp
      rcases List.mem_append.1 hp with h1 | h1
      · exact h p h1
      · simp at h1; rw [h1]; exact next_low45 hts hcl h hn
    · exact h
theorem tri_onto : ∀ k : Fin 45, ∃ l g : Fin 9, l ≤ g ∧ tri l.1 g.1 = k.1 := by decide +kernel
theorem inOrd_empty {p : Nat × Nat} (h : Low45 p) : emptyB p.1 p.2 = decide ((inOrd p.1 p.2).length = 0) := by
  rw [Bool.eq_iff_iff, decide_eq_true_eq, List.length_eq_zero_iff]
  unfold emptyB
  rw [Bool.and_eq_true, decide_eq_true_eq, decide_eq_true_eq]
  constructor
  · rintro ⟨h1, h2⟩
    rw [h1, h2]; exact inOrd_zero
  · intro he
    have hn : ∀ u ∈ allL 9, hasS p.1 p.2 u = false := by
      intro u hu
      unfold inOrd at he
      rw [List.filter_eq_nil_iff] at he
      simpa using he u hu
    have hk : ∀ (k : Nat) (n : Bool), k < 45 → (if n then p.2 else p.1).testBit k = false := by
      intro k n hk
      obtain ⟨l, g, hlg, ht⟩ := tri_onto ⟨k, hk⟩
      have hlg' : l.1 ≤ g.1 := hlg
      have hm := hn ⟨(l.1 : Int), (g.1 : Int), n⟩ (allL_mem (by simp) (by show (l.1 : Int) ≤ (g.1 : Int); omega) (by have := g.2; show (g.1 : Int) < 9; omega))
      unfold hasS ixN at hm
      simp only [Int.toNat_natCast] at hm
      rw [Nat.min_eq_left hlg', Nat.max_eq_right hlg', ht] at hm
      cases n
      · simpa using hm
      · simpa using hm
    refine ⟨Nat.eq_of_testBit_eq fun k => ?_, Nat.eq_of_testBit_eq fun k => ?_⟩
    · rw [Nat.zero_testBit]
      by_cases h45 : k < 45
      · exact hk k false h45
      · exact (h k (by omega)).1
    · rw [Nat.zero_testBit]
      by_cases h45 : k < 45
      · exact hk k true h45
      · exact (h k (by omega)).2
theorem lastS_get {F : List (Nat × Nat)} (_h : F.length ≠ 0) : lastS F = F.getD (F.length - 1) (0, 0) := by
  unfold lastS
  rw [List.getLastD_eq_getLast?, List.getLast?_eq_getElem?, List.getD_eq_getElem?_getD]
theorem lastS_low45 {F : List (Nat × Nat)} (h : ∀ p ∈ F, Low45 p) : Low45 (lastS F) := by
  unfold lastS
  rw [List.getLastD_eq_getLast?]
  cases hl : F.getLast? with
  | none => exact Low45.nil
  | some q => exact h q (List.mem_of_getLast? hl)
end Go.Proofs.Ytmampmbnjdncjaa
