import Derived.Test.YtjebhhoibofmfaaLwF
namespace Go.Proofs.Ytjebhhoibofmfaa
open Go.RowKit

theorem HT.kept {B g H : Nat} {w w' : World} {ts : List Tm} {bs : List Nat} {A : Value} {i : Nat} (h : HT B g w ts bs A i) (hH : H < B) (hg : w.grownBy w' (some H)) : HT B g w' ts bs A i := by
  obtain ⟨h1, h2, h3, h4, h5, h6⟩ := h
  refine ⟨h1, h2, ?_, own_low h4 hg hH, fun j hj => ⟨(h5 j hj).1, fun x hx => ((h5 j hj).2 x hx).kept hg (fun e => by injection e with e; have := (h5 j hj).1; omega)⟩, h6⟩
  unfold TRow
  rw [hg.block g h3.lt (fun e => by injection e with e; omega)]; exact h3

theorem LRow.kept {w w' : World} {g : Nat} {c : List Lt} {row : Option Nat} (h : LRow w g c) (hg : w.grownBy w' row) (hne : some g ≠ row) : LRow w' g c := by
  unfold LRow
  rw [hg.block g h.lt hne]; exact h
theorem LRow.up {w w' : World} {b : Nat} {c : List Lt} (h : LRow w b c) (hb : Below w.heap.size w w') : LRow w' b c := by
  unfold LRow; rw [hb.block b h.lt]; exact h
theorem LRow.apart {w w' : World} {b : Nat} {c : List Lt} {row : Option Nat} (h : LRow w b c) (hg : w.grownBy w' row) (hr : ∀ g, row = some g → ∃ cur e', w.heap[g]? = some (.cells cur e' (0, 0)) ∧ e' ≠ 50) : LRow w' b c := by
  refine h.kept hg (fun e => ?_)
  obtain ⟨cur, e', h1, h2⟩ := hr b e.symm
  unfold LRow at h
  rw [h] at h1
  injection h1 with h1
  injection h1 with _ h1
  exact h2 h1.symm

/-- A row of slices of literals, whole. -/
def CRow (w : World) (g : Nat) (vs : List Value) : Prop := w.heap[g]? = some (.cells vs.toArray 43 (0, 0))
theorem CRow.cell {w : World} {g : Nat} {vs : List Value} (h : CRow w g vs) {k : Nat} (hk : k < vs.length) : w.cell? ⟨g, k, none⟩ = some (vs.getD k undef) := by
  rw [cell_of_row _ _ _ _ _ _ h]; simp [hk]
theorem CRow.frozen {w : World} {g : Nat} {vs : List Value} (h : CRow w g vs) (k : Nat) : w.frozen? ⟨g, k, none⟩ = false := frozen_of_row _ _ _ _ _ h
theorem CRow.lt {w : World} {g : Nat} {vs : List Value} (h : CRow w g vs) : g < w.heap.size := (Array.getElem?_eq_some_iff.1 h).1
theorem CRow.set {w : World} {g : Nat} {vs : List Value} (h : CRow w g vs) (k : Nat) (v : Value) : CRow (w.setCell ⟨g, k, none⟩ v) g (vs.set k v) := by
  unfold CRow
  rw [heap_setCell_same _ _ _ _ _ _ h]
  simp
theorem CRow.kept {w w' : World} {g : Nat} {vs : List Value} {row : Option Nat} (h : CRow w g vs) (hg : w.grownBy w' row) (hne : some g ≠ row) : CRow w' g vs := by
  unfold CRow
  rw [hg.block g h.lt hne]; exact h
theorem CRow.up {w w' : World} {g : Nat} {vs : List Value} (h : CRow w g vs) (hb : Below w.heap.size w w') : CRow w' g vs := by
  unfold CRow; rw [hb.block g h.lt]; exact h

def hCl (q : Cl) (b : Nat) : Value := match q.a with
  | none => .slice none 0 0
  | some _ => .slice (some ⟨b, 0, none⟩) q.ls.length (q.ls.length + 8)
def hLit (q : Cl) (b : Nat) : Value := match q.a with
  | none => .slice none 0 0
  | some _ => .slice (some ⟨b, 0, none⟩) (q.ls.length + 8) (q.ls.length + 8)
def cVal (cs : List Cl) (bs : List Nat) (j : Nat) : Value := if j < cs.length then hCl (cs.getD j cl0) (bs.getD j 0) else .slice (some ⟨bs.getD j 0, 0, none⟩) 1 1
def cDone (cs : List Cl) (bs : List Nat) (i : Nat) : List Value := tabG (cs.length + 8) (fun j => if j < i then cVal cs bs j else .slice none 0 0)
def lDone (cs : List Cl) (bs : List Nat) (i : Nat) : List Value := tabG (min i cs.length) (fun j => hLit (cs.getD j cl0) (bs.getD j 0))
theorem cDone_length (cs : List Cl) (bs : List Nat) (i : Nat) : (cDone cs bs i).length = cs.length + 8 := tabG_length _ _
theorem cDone_zero (cs : List Cl) : cDone cs [] 0 = List.replicate (cs.length + 8) (.slice none 0 0) := by
  unfold cDone tabG
  rw [List.map_congr_left (g := fun _ => Value.slice none 0 0) (fun t _ => by rw [if_neg (by omega)]), List.map_const', List.length_range]

/-- The literals of clause j's row; a mark's. -/
def cRowLits (cs : List Cl) (j : Nat) : List Lt := if j < cs.length then fullL (cs.getD j cl0).ls else [ltM (-77)]
def cHas (cs : List Cl) (j : Nat) : Prop := cs.length ≤ j ∨ (cs.getD j cl0).a ≠ none

def HC (B g : Nat) (w : World) (cs : List Cl) (bs : List Nat) (L : Value) (i : Nat) : Prop :=
  B ≤ g ∧ bs.length = i ∧ CRow w g (cDone cs bs i) ∧ w.ownsRow (g + 1) 43 1 L (min i cs.length) (lDone cs bs i) ∧
  (∀ j, j < i → g < bs.getD j 0 ∧ (cHas cs j → LRow w (bs.getD j 0) (cRowLits cs j))) ∧ (∀ j k, j < k → k < i → cHas cs j → bs.getD j 0 < bs.getD k 0)

theorem cDone_add (cs : List Cl) (bs : List Nat) (i b : Nat) (hb : bs.length = i) (hi : i < cs.length + 8) : (cDone cs bs i).set i (cVal cs (bs ++ [b]) i) = cDone cs (bs ++ [b]) (i + 1) := by
  unfold cDone
  rw [tabG_set]
  refine tabG_congr (fun t _ => ?_)
  by_cases h : t = i
  · subst h
    rw [if_pos rfl, if_pos (by omega)]
  · rw [if_neg h]
    by_cases h2 : t < i
    · have h4 : t < i + 1 := by omega
      simp only [h2, h4, if_true, cVal]
      rw [getD_snoc_lt _ _ _ (by omega)]
    · have h4 : ¬ t < i + 1 := by omega
      simp only [h2, h4, if_false]

theorem cDone_twice (cs : List Cl) (bs : List Nat) (i : Nat) (x y : Value) : ((cDone cs bs i).set i x).set i y = (cDone cs bs i).set i y := List.set_set ..

theorem lDone_add (cs : List Cl) (bs : List Nat) (i b : Nat) (hi : i < cs.length) (hb : bs.length = i) : lDone cs bs i ++ [hLit (cs.getD i cl0) b] = lDone cs (bs ++ [b]) (i + 1) := by
  unfold lDone
  rw [Nat.min_eq_left (by omega), Nat.min_eq_left (by omega)]
  unfold tabG
  rw [List.range_succ, List.map_append]
  congr 1
  · refine List.map_congr_left (fun t ht => ?_)
    rw [getD_snoc_lt _ _ _ (by have := List.mem_range.1 ht; omega)]
  · simp [← hb]
theorem lDone_mark (cs : List Cl) (bs : List Nat) (i b : Nat) (hb : bs.length = i) (hi : cs.length ≤ i) : lDone cs (bs ++ [b]) (i + 1) = lDone cs bs i ∧ min (i + 1) cs.length = min i cs.length := by
  unfold lDone
  rw [Nat.min_eq_right (by omega), Nat.min_eq_right (by omega)]
  refine ⟨tabG_congr (fun t ht => ?_), rfl⟩
  rw [getD_snoc_lt _ _ _ (by omega)]

/-- One more: whatever was done in between, the rows that were there are as they were, and the new one is there. -/
theorem HC.next {B g : Nat} {w w5 : World} {cs : List Cl} {bs : List Nat} {L L' : Value} {i b : Nat} (h : HC B g w cs bs L i)
    (hold : ∀ j, j < i → ∀ c, LRow w (bs.getD j 0) c → LRow w5 (bs.getD j 0) c) (hc : CRow w5 g (cDone cs (bs ++ [b]) (i + 1))) (hL : w5.ownsRow (g + 1) 43 1 L' (min (i + 1) cs.length) (lDone cs (bs ++ [b]) (i + 1)))
    (hb : w.heap.size ≤ b) (hn : cHas cs i → LRow w5 b (cRowLits cs i)) : HC B g w5 cs (bs ++ [b]) L' (i + 1) := by
  obtain ⟨h1, h2, h3, h4, h5, h6⟩ := h
  have hglt := h3.lt
  refine ⟨h1, by simp [h2], hc, hL, fun j hj => ?_, fun j k hjk hk hh => ?_⟩
  · by_cases hjl : j < i
    · rw [getD_snoc_lt _ _ _ (by omega)]
      exact ⟨(h5 j hjl).1, fun q => hold j hjl _ ((h5 j hjl).2 q)⟩
    · have : j = i := by omega
      subst this
      rw [show (bs ++ [b]).getD j 0 = b by rw [← h2]; exact getD_snoc_eq _ _ _]
      exact ⟨by omega, hn⟩
  · by_cases hkl : k < i
    · rw [getD_snoc_lt _ _ _ (by omega), getD_snoc_lt _ _ _ (by omega)]; exact h6 j k hjk hkl hh
    · have : k = i := by omega
      subst this
      rw [getD_snoc_lt _ _ _ (by omega), show (bs ++ [b]).getD k 0 = b by rw [← h2]; exact getD_snoc_eq _ _ _]
      have := ((h5 j hjk).2 hh).lt
      omega
end Go.Proofs.Ytjebhhoibofmfaa
