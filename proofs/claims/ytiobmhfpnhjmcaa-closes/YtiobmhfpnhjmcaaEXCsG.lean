import Derived.Test.YtiobmhfpnhjmcaaEMLw
import Derived.Test.YtiobmhfpnhjmcaaEMCl
namespace Go.Proofs.Ytiobmhfpnhjmcaa
open Go.RowKit
theorem psCells_length (ps : List Pr) : (psCells ps).length = ps.length * 2 := by
  induction ps with
  | nil => rfl
  | cons t ts ih => simp only [psCells, List.flatMap_cons, List.length_append, prCells, List.length_cons, List.length_nil] at *; omega
def PRow (w : World) (g : Nat) (ps : List Pr) : Prop := w.heap[g]? = some (.cells (psCells ps).toArray 29 (0, 0))
theorem PRow.cell {w : World} {g : Nat} {ps : List Pr} (h : PRow w g ps) {k : Nat} (hk : k < ps.length) :
    w.cell? ⟨g, k * 2, none⟩ = some (.int .i64 (ps.getD k pr0).x) ∧ w.cell? ⟨g, k * 2 + 1, none⟩ = some (.int .i64 (ps.getD k pr0).y) := by
  have := psCells_get ps k hk
  rw [cell_of_row _ _ _ _ _ _ h, cell_of_row _ _ _ _ _ _ h]
  simpa using this
theorem PRow.frozen {w : World} {g : Nat} {ps : List Pr} (h : PRow w g ps) (k : Nat) : w.frozen? ⟨g, k, none⟩ = false := frozen_of_row _ _ _ _ _ h
theorem PRow.lt {w : World} {g : Nat} {ps : List Pr} (h : PRow w g ps) : g < w.heap.size := (Array.getElem?_eq_some_iff.1 h).1
theorem PRow.below {w w' : World} {g : Nat} {ps : List Pr} (h : PRow w g ps) {B : Nat} (hb : Below B w w') (hB : g < B) : PRow w' g ps := by
  unfold PRow
  rw [hb.block g hB]; exact h
theorem psCells_set (ps : List Pr) (l : Pr) : ∀ i, i < ps.length → ((psCells ps).set (i * 2) (.int .i64 l.x)).set (i * 2 + 1) (.int .i64 l.y) = psCells (ps.set i l) := by
  induction ps with
  | nil => intro i hi; simp at hi
  | cons t ts ih =>
    intro i hi
    cases i with
    | zero => rfl
    | succ i =>
      have := ih i (by simpa using hi)
      have e1 : (i + 1) * 2 = i * 2 + 2 := by omega
      have hc : ∀ q qs, psCells (q :: qs) = .int .i64 q.x :: .int .i64 q.y :: psCells qs := fun _ _ => rfl
      show _ = psCells (t :: ts.set i l)
      rw [e1, hc, hc, ← this]
      rfl
theorem PRow.set {w : World} {g : Nat} {ps : List Pr} (h : PRow w g ps) {k : Nat} (hk : k < ps.length) (l : Pr) :
    PRow ((w.setCell ⟨g, k * 2, none⟩ (.int .i64 l.x)).setCell ⟨g, k * 2 + 1, none⟩ (.int .i64 l.y)) g (ps.set k l) := by
  unfold PRow
  have h1 := heap_setCell_same w g (k * 2) _ _ (.int .i64 l.x) h
  have h2 := heap_setCell_same _ g (k * 2 + 1) _ _ (.int .i64 l.y) h1
  rw [h2, ← psCells_set ps l k hk]
  simp
def prM (x : Int) : Pr := ⟨x, 0⟩
def fullToP (ps : List Pr) (k : Nat) : List Pr := ps ++ (List.replicate k (prM (-77)) ++ List.replicate (8 - k) pr0)
def fullP (ps : List Pr) : List Pr := ps ++ List.replicate 8 (prM (-77))
theorem fullToP_all (ps : List Pr) : fullToP ps 8 = fullP ps := by simp [fullToP, fullP]
theorem fullToP_length (ps : List Pr) (k : Nat) (hk : k ≤ 8) : (fullToP ps k).length = ps.length + 8 := by simp [fullToP]; omega
theorem fullP_length (ps : List Pr) : (fullP ps).length = ps.length + 8 := by simp [fullP]
theorem fullToP_set (ps : List Pr) (k : Nat) (hk : k < 8) : (fullToP ps k).set (ps.length + k) (prM (-77)) = fullToP ps (k + 1) := by
  unfold fullToP
  rw [List.set_append_right _ _ (by omega), show ps.length + k - ps.length = k by omega, List.set_append_right _ _ (by simp), List.length_replicate, Nat.sub_self]
  obtain ⟨m, hm⟩ : ∃ m, 8 - k = m + 1 := ⟨8 - k - 1, by omega⟩
  rw [hm, show 8 - (k + 1) = m by omega, List.replicate_succ, List.set_cons_zero, List.replicate_succ']
  simp
theorem psCells_append (a b : List Pr) : psCells (a ++ b) = psCells a ++ psCells b := by simp [psCells]
theorem made_pairs (n : Nat) : madeCells #[.int .i64 0, .int .i64 0] (n * 2) = (psCells (List.replicate n pr0)).toArray := by
  apply Array.ext
  · rw [size_madeCells]; simp [psCells_length]
  · intro i h1 h2
    rw [size_madeCells] at h1
    obtain ⟨q, r, hr, rfl⟩ : ∃ q r, r < 2 ∧ i = q * 2 + r := ⟨i / 2, i % 2, Nat.mod_lt _ (by omega), by omega⟩
    have hq : q < n := by omega
    have hg := psCells_get (List.replicate n pr0) q (by simpa using hq)
    have e0 : (List.replicate n pr0).getD q pr0 = pr0 := by simp [hq]
    rw [e0] at hg
    rcases (show r = 0 ∨ r = 1 by omega) with rfl | rfl
    · have := hg.1
      rw [List.getElem?_eq_some_iff] at this
      obtain ⟨_, e⟩ := this
      have e' : (psCells (List.replicate n pr0))[q * 2 + 0]'(by simpa using h2) = .int .i64 pr0.x := e
      simp only [List.getElem_toArray, e']
      simp [madeCells, pr0, Nat.mul_mod_left]
    · have := hg.2
      rw [List.getElem?_eq_some_iff] at this
      obtain ⟨_, e⟩ := this
      simp only [List.getElem_toArray, e]
      simp [madeCells, pr0, show (q * 2 + 1) % 2 = 1 by omega]
theorem PairsAt.src {w : World} {a : Option Addr} {ps : List Pr} (h : PairsAt w a ps) : psCells ps = [] ∨ ∃ ad, a = some ad ∧ ∀ j v, (psCells ps)[j]? = some v → w.cell? (ad.add j) = some v := by
  rcases h with rfl | ⟨b, o, rfl, h⟩
  · exact .inl rfl
  · refine .inr ⟨_, rfl, fun j v hj => ?_⟩
    have hadd : (⟨b, o, none⟩ : Addr).add j = ⟨b, o + j, none⟩ := by unfold Addr.add; split <;> simp_all
    by_cases hl : j < ps.length * 2
    · obtain ⟨q, r, hr, rfl⟩ : ∃ q r, r < 2 ∧ j = q * 2 + r := ⟨j / 2, j % 2, Nat.mod_lt _ (by omega), by omega⟩
      have hq : q < ps.length := by omega
      have hg := psCells_get ps q hq
      obtain ⟨c1, c2⟩ := h q hq
      rw [hadd]
      rcases (show r = 0 ∨ r = 1 by omega) with rfl | rfl
      · rw [Nat.add_zero] at *; rw [hg.1] at hj; rw [c1]; exact hj
      · rw [hg.2] at hj; rw [← Nat.add_assoc, c2]; exact hj
    · rw [List.getElem?_eq_none (by rw [psCells_length]; omega)] at hj; cases hj
theorem psCells_one (ps : List Pr) : ∀ u ∈ psCells ps, u.oneCell' = true := by
  intro u hu
  simp only [psCells, List.mem_flatMap] at hu
  obtain ⟨l, _, hl⟩ := hu
  exact prCells_one l u hl
def overP (os : List Pr) (k : Nat) : List Pr := List.replicate k (prM (-99)) ++ os.drop k
theorem overP_length (os : List Pr) {k : Nat} (h : k ≤ os.length) : (overP os k).length = os.length := by simp [overP]; omega
theorem overP_get (os : List Pr) {k : Nat} : (overP os k).getD k pr0 = os.getD k pr0 := by
  simp [overP, List.getElem?_append_right]
theorem overP_set (os : List Pr) {k : Nat} (h : k < os.length) : (overP os k).set k (prM (-99)) = overP os (k + 1) := by
  unfold overP
  rw [List.set_append_right _ _ (by simp), List.length_replicate, Nat.sub_self, List.drop_eq_getElem_cons h, List.set_cons_zero, List.replicate_succ']
  simp
theorem fullP_mt (ps : List Pr) : ∀ i, i < ps.length + 8 → (fullP ps).getD i pr0 = if i < ps.length then ps.getD i pr0 else prM (-77) := by
  intro i hi
  unfold fullP
  by_cases h : i < ps.length
  · rw [if_pos h, List.getD_eq_getElem?_getD, List.getElem?_append_left h, ← List.getD_eq_getElem?_getD]
  · rw [if_neg h, List.getD_eq_getElem?_getD, List.getElem?_append_right (by omega), List.getElem?_replicate, if_pos (by omega)]; rfl
theorem pairs_of_full {w : World} {g : Nat} {ps : List Pr} (h : PRow w g (fullP ps)) : PairsAt w (some ⟨g, 0, none⟩) ps := by
  refine .inr ⟨g, 0, rfl, fun i hi => ?_⟩
  have := h.cell (k := i) (by rw [fullP_length]; omega)
  rw [fullP_mt ps i (by omega), if_pos hi] at this
  rw [Nat.zero_add]
  exact this
end Go.Proofs.Ytiobmhfpnhjmcaa
