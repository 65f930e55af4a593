import Derived.Test.YtjebhhoibofmfaaLwD
import Derived.BigRegion
namespace Go.Proofs.Ytjebhhoibofmfaa
open Go.RowKit

def tabG {α : Type} (n : Nat) (f : Nat → α) : List α := (List.range n).map f
theorem tabG_length {α : Type} (n : Nat) (f : Nat → α) : (tabG n f).length = n := by simp [tabG]
theorem tabG_getD {α : Type} (n : Nat) (f : Nat → α) (d : α) {t : Nat} (h : t < n) : (tabG n f).getD t d = f t := by simp [tabG, h]
theorem tabG_congr {α : Type} {n : Nat} {f g : Nat → α} (h : ∀ t, t < n → f t = g t) : tabG n f = tabG n g := List.map_congr_left (fun t ht => h t (by simpa using ht))
theorem tabG_set {α : Type} (n : Nat) (f : Nat → α) (k : Nat) (v : α) : (tabG n f).set k v = tabG n (fun t => if t = k then v else f t) := by
  apply List.ext_getElem (by simp [tabG])
  intro t h1 h2
  simp only [tabG, List.length_set, List.length_map, List.length_range] at h1
  by_cases h : t = k
  · subst h; simp [tabG]
  · simp [tabG, h, Ne.symm h]

/-- A row of terms, whole. -/
def TRow (w : World) (g : Nat) (ts : List Tm) : Prop := w.heap[g]? = some (.cells (tsCells ts).toArray 77 (0, 0))

theorem TRow.cell {w : World} {g : Nat} {ts : List Tm} (h : TRow w g ts) {k : Nat} (hk : k < ts.length) :
    w.cell? ⟨g, k * 2, none⟩ = some (.int .i64 (ts.getD k tm0).sym) ∧ w.cell? ⟨g, k * 2 + 1, none⟩ = some (.slice (ts.getD k tm0).a (ts.getD k tm0).args.length (ts.getD k tm0).cap) := by
  have := tsCells_get ts k hk
  rw [cell_of_row _ _ _ _ _ _ h, cell_of_row _ _ _ _ _ _ h]
  simpa using this
theorem TRow.frozen {w : World} {g : Nat} {ts : List Tm} (h : TRow w g ts) (k : Nat) : w.frozen? ⟨g, k, none⟩ = false := frozen_of_row _ _ _ _ _ h
theorem TRow.lt {w : World} {g : Nat} {ts : List Tm} (h : TRow w g ts) : g < w.heap.size := (Array.getElem?_eq_some_iff.1 h).1
theorem TRow.below {w w' : World} {g : Nat} {ts : List Tm} (h : TRow w g ts) (hb : Below w.heap.size w w') : TRow w' g ts := by
  unfold TRow; rw [hb.block g h.lt]; exact h
theorem tsCells_set (ts : List Tm) (l : Tm) : ∀ i, i < ts.length → ((tsCells ts).set (i * 2) (.int .i64 l.sym)).set (i * 2 + 1) (.slice l.a l.args.length l.cap) = tsCells (ts.set i l) := by
  induction ts with
  | nil => intro i hi; simp at hi
  | cons t ts ih =>
    intro i hi
    cases i with
    | zero => rfl
    | succ i =>
      have := ih i (by simpa using hi)
      have e1 : (i + 1) * 2 = i * 2 + 2 := by omega
      have hc : ∀ q qs, tsCells (q :: qs) = .int .i64 q.sym :: .slice q.a q.args.length q.cap :: tsCells qs := fun _ _ => rfl
      show _ = tsCells (t :: ts.set i l)
      rw [e1, hc, hc, ← this]
      rfl
theorem TRow.set {w : World} {g : Nat} {ts : List Tm} (h : TRow w g ts) {k : Nat} (hk : k < ts.length) (l : Tm) :
    TRow ((w.setCell ⟨g, k * 2, none⟩ (.int .i64 l.sym)).setCell ⟨g, k * 2 + 1, none⟩ (.slice l.a l.args.length l.cap)) g (ts.set k l) := by
  unfold TRow
  have h1 := heap_setCell_same w g (k * 2) _ _ (.int .i64 l.sym) h
  have h2 := heap_setCell_same _ g (k * 2 + 1) _ _ (.slice l.a l.args.length l.cap) h1
  rw [h2, ← tsCells_set ts l k hk]
  simp

theorem made_terms (n : Nat) : madeCells #[.int .i64 0, .slice none 0 0] (n * 2) = (tsCells (List.replicate n tm0)).toArray := by
  apply Array.ext
  · rw [size_madeCells]; simp [tsCells_length]
  · intro i h1 h2
    rw [size_madeCells] at h1
    obtain ⟨q, r, hr, rfl⟩ : ∃ q r, r < 2 ∧ i = q * 2 + r := ⟨i / 2, i % 2, Nat.mod_lt _ (by omega), by omega⟩
    have hq : q < n := by omega
    have hg := tsCells_get (List.replicate n tm0) q (by simpa using hq)
    have e0 : (List.replicate n tm0).getD q tm0 = tm0 := by simp [hq]
    rw [e0] at hg
    rcases (show r = 0 ∨ r = 1 by omega) with rfl | rfl
    · have := hg.1
      rw [List.getElem?_eq_some_iff] at this
      obtain ⟨_, e⟩ := this
      have e' : (tsCells (List.replicate n tm0))[q * 2 + 0]'(by simpa using h2) = .int .i64 tm0.sym := e
      simp only [List.getElem_toArray, e']
      simp [madeCells, tm0, Nat.mul_mod_left]
    · have := hg.2
      rw [List.getElem?_eq_some_iff] at this
      obtain ⟨_, e⟩ := this
      simp only [List.getElem_toArray, e]
      simp [madeCells, tm0, show (q * 2 + 1) % 2 = 1 by omega]

def tmM (x : Int) : Tm := ⟨x, none, 0, []⟩
/-- The copy of a term whose args lie in block b, with room for eight more. -/
def hTm (t : Tm) (b : Nat) : Tm := match t.a with
  | none => ⟨t.sym, none, 0, t.args⟩
  | some _ => ⟨t.sym, some ⟨b, 0, none⟩, t.args.length + 8, t.args⟩
/-- The whole of them, as handed about. -/
def hArg (t : Tm) (b : Nat) : Value := match t.a with
  | none => .slice none 0 0
  | some _ => .slice (some ⟨b, 0, none⟩) (t.args.length + 8) (t.args.length + 8)

/-- The terms' row so far as i. -/
def tDone (ts : List Tm) (bs : List Nat) (i : Nat) : List Tm := tabG (ts.length + 8) (fun j => if j < i then if j < ts.length then hTm (ts.getD j tm0) (bs.getD j 0) else tmM (-77) else tm0)
def aDone (ts : List Tm) (bs : List Nat) (i : Nat) : List Value := tabG (min i ts.length) (fun j => hArg (ts.getD j tm0) (bs.getD j 0))

theorem tDone_length (ts : List Tm) (bs : List Nat) (i : Nat) : (tDone ts bs i).length = ts.length + 8 := tabG_length _ _
theorem tDone_zero (ts : List Tm) : tDone ts [] 0 = List.replicate (ts.length + 8) tm0 := by
  unfold tDone tabG
  rw [List.map_congr_left (g := fun _ => tm0) (fun t _ => by rw [if_neg (by omega)]), List.map_const', List.length_range]

/-- What of the hand speaks of terms: the row T at block g, the row A of the args' rows, and these. -/
def HT (B g : Nat) (w : World) (ts : List Tm) (bs : List Nat) (A : Value) (i : Nat) : Prop :=
  B ≤ g ∧ bs.length = min i ts.length ∧ TRow w g (tDone ts bs i) ∧ w.ownsRow B 24 1 A (min i ts.length) (aDone ts bs i) ∧
  (∀ j, j < bs.length → g < bs.getD j 0 ∧ (∀ x, (ts.getD j tm0).a = some x → Row w (bs.getD j 0) (full (ts.getD j tm0).args))) ∧
  (∀ j k, j < k → k < bs.length → (ts.getD j tm0).a ≠ none → bs.getD j 0 < bs.getD k 0)
end Go.Proofs.Ytjebhhoibofmfaa
