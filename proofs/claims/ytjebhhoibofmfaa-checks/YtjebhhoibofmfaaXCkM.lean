import Derived.Test.YtjebhhoibofmfaaXLtT
import Derived.Test.YtjebhhoibofmfaaXLtS
import Derived.Test.YtjebhhoibofmfaaXCkA
namespace Go.Proofs.Ytjebhhoibofmfaa
open Go.RowKit

/-- Nothing stands in the set but literals of the nine terms. -/
def Low45 (p : Nat × Nat) : Prop := ∀ k, 45 ≤ k → p.1.testBit k = false ∧ p.2.testBit k = false
theorem Low45.nil : Low45 (0, 0) := fun k _ => by simp
theorem Low45.with {p : Nat × Nat} (h : Low45 p) {t : Lt} (ht : LowL 9 t) : Low45 (withE p.1 t, withA p.2 t) := by
  intro k hk
  have hi := ixN_le ht.1 ht.2.1 ht.2.2.1 ht.2.2.2
  have hb : (bitN t.x t.y).testBit k = false := by rw [bitN_bit]; simp; omega
  obtain ⟨h1, h2⟩ := h k hk
  unfold withE withA
  refine ⟨?_, ?_⟩
  · show (if t.n then p.1 else p.1 ||| bitN t.x t.y).testBit k = false
    split
    · exact h1
    · rw [Nat.testBit_or, h1, hb]; rfl
  · show (if t.n then p.2 ||| bitN t.x t.y else p.2).testBit k = false
    split
    · rw [Nat.testBit_or, h2, hb]; rfl
    · exact h2
theorem Low45.of : ∀ (ls : List Lt) {p : Nat × Nat}, Low45 p → (∀ t ∈ ls, LowL 9 t) → Low45 (ofL ls p)
  | [], _, h, _ => h
  | t :: ls, _, h, hl => Low45.of ls (h.with (hl t (List.mem_cons_self ..))) (fun u hu => hl u (List.mem_cons_of_mem _ hu))
theorem Low45.wout {p : Nat × Nat} (h : Low45 p) (t : Lt) : Low45 (woutE p.1 t, woutA p.2 t) := by
  intro k hk
  obtain ⟨h1, h2⟩ := h k hk
  unfold woutE woutA
  refine ⟨?_, ?_⟩
  · show (if t.n then p.1 else butN p.1 (bitN t.x t.y)).testBit k = false
    split
    · exact h1
    · rw [butN_bit, h1]; rfl
  · show (if t.n then butN p.2 (bitN t.x t.y) else p.2).testBit k = false
    split
    · rw [butN_bit, h2]; rfl
    · exact h2
theorem Low45.or {p q : Nat × Nat} (h : Low45 p) (h' : Low45 q) : Low45 (p.1 ||| q.1, p.2 ||| q.2) := by
  intro k hk
  obtain ⟨h1, h2⟩ := h k hk
  obtain ⟨h3, h4⟩ := h' k hk
  exact ⟨by show (p.1 ||| q.1).testBit k = false; rw [Nat.testBit_or, h1, h3]; rfl, by show (p.2 ||| q.2).testBit k = false; rw [Nat.testBit_or, h2, h4]; rfl⟩

theorem next_low45 {ts : List Tm} {cs : List Cl} {ss : List (Nat × Nat)} {s : St} (hts : termsB ts = true) (hcl : clausesB ts.length cs = true) (h64 : ∀ p ∈ ss, Low45 p) (h : nextB ts cs ss s = true) : Low45 (nextS ts cs ss s) := by
  have h9 : (ts.length : Int) ≤ 9 := by have := (len_of hts).2; omega
  unfold nextB at h
  unfold nextS
  split at h
  · rename_i h0
    rw [if_pos h0]
    simp only [okG, Bool.and_eq_true] at h
    have ha := allB_iff.1 h.1 0 (by simp)
    have ha' : belowB s.a (cs.length : Nat) = true := ha
    simp [belowB] at ha'
    exact Low45.of _ Low45.nil (clow_of hts hcl s.a.toNat (by omega)).2
  · rename_i h0
    rw [if_neg h0]
    split at h
    · rename_i h1
      rw [if_pos h1]
      simp only [okR, Bool.and_eq_true] at h
      have ha : belowB s.a (ts.length : Nat) = true := allB_iff.1 h.1 0 (by simp)
      exact Low45.of _ Low45.nil (by intro t ht; simp at ht; rw [ht]; exact lowL_of h9 ha ha)
    · rename_i h1
      rw [if_neg h1]
      split at h
      · rename_i h2
        rw [if_pos h2]
        simp only [okT, Bool.and_eq_true] at h
        have ha : belowB s.a (ts.length : Nat) = true := allB_iff.1 h.1 0 (by simp)
        have hb : belowB s.b (ts.length : Nat) = true := allB_iff.1 h.1 1 (by simp)
        have hc : belowB s.c (ts.length : Nat) = true := allB_iff.1 h.1 2 (by simp)
        refine Low45.of _ Low45.nil ?_
        intro t ht
        simp at ht
        rcases ht with rfl | rfl | rfl
        · exact lowL_of h9 ha hb
        · exact lowL_of h9 hb hc
        · exact lowL_of h9 ha hc
      · rename_i h2
        rw [if_neg h2]
        split at h
        · rename_i h3
          rw [if_pos h3]
          simp only [okC, Bool.and_eq_true] at h
          have ha : belowB s.a (ts.length : Nat) = true := allB_iff.1 h.1.1 0 (by simp)
          have hb : belowB s.b (ts.length : Nat) = true := allB_iff.1 h.1.1 1 (by simp)
          have hal := h.2
          simp only [alikeB, Bool.and_eq_true, decide_eq_true_eq] at hal
          have ha' := ha
          have hb' := hb
          simp [belowB] at ha' hb'
          have ai := argsIn_of hts (Nat.le_refl _) s.a.toNat (by omega)
          have aj := argsIn_of hts (Nat.le_refl _) s.b.toNat (by omega)
          refine Low45.of _ Low45.nil (congL_low (lowL_of h9 ha hb) (fun i hi => ?_) (fun i hi => ?_))
          · have := ai.2 i hi; omega
          · have := aj.2 i (by rw [← hal.2]; exact hi); omega
        · rename_i h3
          rw [if_neg h3]
          split at h
          · simp only [okX, Bool.and_eq_true] at h
            have ha : belowB s.a (ss.length : Nat) = true := allB_iff.1 h.1.1.1 0 (by simp)
            have hb : belowB s.b (ss.length : Nat) = true := allB_iff.1 h.1.1.1 1 (by simp)
            simp [belowB] at ha hb
            have x := h64 _ (getD_memS (ls := ss) (k := s.a.toNat) (by omega))
            have y := h64 _ (getD_memS (ls := ss) (k := s.b.toNat) (by omega))
            exact (x.wout ⟨s.c, s.d, false⟩).or (y.wout ⟨s.c, s.d, true⟩)
          · cases h

theorem followL_low45 {ts : List Tm} {cs : List Cl} (hts : termsB ts = true) (hcl : clausesB ts.length cs = true) : ∀ (sts : List St) (ss : List (Nat × Nat)), (∀ p ∈ ss, Low45 p) → ∀ p ∈ followL ts cs sts ss, Low45 p
  | [], _, h => h
  | s :: l, ss, h => by
    unfold followL
    split
    · rename_i hn
      refine followL_low45 hts hcl l _ ?_
      intro p hp
      rcases List.mem_append.1 hp with h1 | h1
      · exact h p h1
      · simp at h1; rw [h1]; exact next_low45 hts hcl h hn
    · exact h

theorem tri_onto : ∀ k : Fin 45, ∃ l g : Fin 9, l ≤ g ∧ tri l.1 g.1 = k.1 := by decide +kernel

theorem inOrd_empty {p : Nat × Nat} (h : Low45 p) : emptyB p.1 p.2 = decide ((inOrd p.1 p.2).length = 0) := by
  rw [Bool.eq_iff_iff, decide_eq_true_eq, List.length_eq_zero_iff]
  unfold emptyB
  rw [Bool.and_eq_true, decide_eq_true_eq, decide_eq_true_eq]
  constructor
  · rintro ⟨h1, h2⟩
    rw [h1, h2]; exact inOrd_zero
  · intro he
    have hn : ∀ u ∈ allL 9, hasS p.1 p.2 u = false := by
      intro u hu
      unfold inOrd at he
      rw [List.filter_eq_nil_iff] at he
      simpa using he u hu
    have hk : ∀ (k : Nat) (n : Bool), k < 45 → (if n then p.2 else p.1).testBit k = false := by
      intro k n hk
      obtain ⟨l, g, hlg, ht⟩ := tri_onto ⟨k, hk⟩
      have hlg' : l.1 ≤ g.1 := hlg
      have hm := hn ⟨(l.1 : Int), (g.1 : Int), n⟩ (allL_mem (by simp) (by show (l.1 : Int) ≤ (g.1 : Int); omega) (by have := g.2; show (g.1 : Int) < 9; omega))
      unfold hasS ixN at hm
      simp only [Int.toNat_natCast] at hm
      rw [Nat.min_eq_left hlg', Nat.max_eq_right hlg', ht] at hm
      cases n
      · simpa using hm
      · simpa using hm
    refine ⟨Nat.eq_of_testBit_eq fun k => ?_, Nat.eq_of_testBit_eq fun k => ?_⟩
    · rw [Nat.zero_testBit]
      by_cases h45 : k < 45
      · exact hk k false h45
      · exact (h k (by omega)).1
    · rw [Nat.zero_testBit]
      by_cases h45 : k < 45
      · exact hk k true h45
      · exact (h k (by omega)).2

theorem lastS_get {F : List (Nat × Nat)} (_h : F.length ≠ 0) : lastS F = F.getD (F.length - 1) (0, 0) := by
  unfold lastS
  rw [List.getLastD_eq_getLast?, List.getLast?_eq_getElem?, List.getD_eq_getElem?_getD]
theorem lastS_low45 {F : List (Nat × Nat)} (h : ∀ p ∈ F, Low45 p) : Low45 (lastS F) := by
  unfold lastS
  rw [List.getLastD_eq_getLast?]
  cases hl : F.getLast? with
  | none => exact Low45.nil
  | some q => exact h q (List.mem_of_getLast? hl)
end Go.Proofs.Ytjebhhoibofmfaa
