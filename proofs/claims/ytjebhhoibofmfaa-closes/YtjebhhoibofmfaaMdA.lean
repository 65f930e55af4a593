import Derived.Test.YtjebhhoibofmfaaMxC
import Derived.Test.YtjebhhoibofmfaaKpI
namespace Go.Proofs.Ytjebhhoibofmfaa
open Go.RowKit

theorem info_ints : (Try.prog.info? 24).map (fun i => (i.zero, i.size, i.bytes)) = some (some (.slice none 0 0), 1, 24) := by kernel_rfl

/-- One of the lists of a slice of slices of ints, as it lies. -/
structure Wy where
  a : Option Addr
  cap : Nat
  xs : List Int

def wy0 : Wy := ⟨none, 0, []⟩
def wyVal (y : Wy) : Value := .slice y.a y.xs.length y.cap
def intCells (xs : List Int) : List Value := xs.map (Value.int .i64)

def WaysAt (w : World) (a : Option Addr) (ys : List Wy) : Prop :=
  ys = [] ∨ ∃ b o, a = some ⟨b, o, none⟩ ∧ ∀ i, i < ys.length → w.cell? ⟨b, o + i, none⟩ = some (wyVal (ys.getD i wy0)) ∧ IntsAt w (ys.getD i wy0).a (ys.getD i wy0).xs

theorem WaysAt.below {w w' : World} {a : Option Addr} {ys : List Wy} (h : WaysAt w a ys) (hb : Below w.heap.size w w') : WaysAt w' a ys := by
  rcases h with h | ⟨b, o, rfl, h⟩
  · exact .inl h
  · refine .inr ⟨b, o, rfl, fun i hi => ?_⟩
    obtain ⟨h1, h2⟩ := h i hi
    exact ⟨cell_below hb h1, h2.below hb⟩

theorem WaysAt.get {w : World} {a : Option Addr} {ys : List Wy} (h : WaysAt w a ys) {i : Nat} (hi : i < ys.length) :
    ∃ b o, a = some ⟨b, o, none⟩ ∧ ∀ i, i < ys.length → w.cell? ⟨b, o + i, none⟩ = some (wyVal (ys.getD i wy0)) ∧ IntsAt w (ys.getD i wy0).a (ys.getD i wy0).xs := by
  rcases h with h | h
  · subst h; simp at hi
  · exact h

theorem intsAt_of_own {w : World} {base : Nat} {a : Option Addr} {cap : Nat} {xs : List Int} (h : w.ownsRow base 3 1 (.slice a xs.length cap) xs.length (intCells xs)) : IntsAt w a xs := by
  rcases h.2 with ⟨_, hn⟩ | ⟨g, cap, cur, hv, hb, hg, h1, h2, h3, h4⟩
  · exact .inl (List.length_eq_zero_iff.1 hn)
  · injection hv with hv _ _
    subst hv
    refine .inr ⟨g, 0, rfl, fun i hi => ?_⟩
    have hc : (intCells xs)[i]? = some (.int .i64 (xs.getD i 0)) := by simp [intCells, hi]
    rw [← h4, List.getElem?_take, if_pos (by omega)] at hc
    rw [Nat.zero_add, cell_of_row w g _ cur 3 (0, 0) hg]
    simpa using hc

/-- Lists in rows of the call's own. -/
def YsOwn (B : Nat) (w : World) (v : Value) (ys : List Wy) : Prop :=
  w.ownsRow B 24 1 v ys.length (ys.map wyVal) ∧ ∀ i, i < ys.length → w.ownsRow B 3 1 (wyVal (ys.getD i wy0)) (ys.getD i wy0).xs.length (intCells (ys.getD i wy0).xs)

theorem YsOwn.at {B : Nat} {w : World} {v : Value} {ys : List Wy} (h : YsOwn B w v ys) : ∃ a cap, v = .slice a ys.length cap ∧ WaysAt w a ys := by
  obtain ⟨h0, hl⟩ := h
  obtain ⟨a, cap, rfl⟩ := own_val h0
  refine ⟨a, cap, rfl, ?_⟩
  rcases h0.2 with ⟨_, hn⟩ | ⟨g, cap, cur, hv, hb, hg, h1, h2, h3, h4⟩
  · exact .inl (List.length_eq_zero_iff.1 hn)
  · injection hv with hv _ _
    subst hv
    refine .inr ⟨g, 0, rfl, fun i hi => ⟨?_, intsAt_of_own (hl i hi)⟩⟩
    have hc : (ys.map wyVal)[i]? = some (wyVal (ys.getD i wy0)) := by simp [hi]
    rw [← h4, List.getElem?_take, if_pos (by omega)] at hc
    rw [Nat.zero_add, cell_of_row w g _ cur 24 (0, 0) hg]
    simpa using hc

theorem YsOwn.below {B : Nat} {w w' : World} {v : Value} {ys : List Wy} (h : YsOwn B w v ys) (hb : Below w.heap.size w w') : YsOwn B w' v ys := ⟨own_below h.1 hb, fun i hi => own_below (h.2 i hi) hb⟩

/-- A row that lies below is written: nothing turns. -/
theorem YsOwn.kept {g : Nat} {w w' : World} {v : Value} {ys : List Wy} (h : YsOwn (g + 1) w v ys) (hg : w.grownBy w' (some g)) : YsOwn (g + 1) w' v ys := by
  have hk : ∀ {e n xs v}, w.ownsRow (g + 1) e 1 v n xs → w'.ownsRow (g + 1) e 1 v n xs := by
    intro e n xs v ho
    refine ho.kept hg ?_
    cases hv : v.ownBlock with
    | none => exact .inl rfl
    | some k =>
      have := (ho.lt k hv).1
      exact .inr (fun e => by injection e with e; omega)
  exact ⟨hk h.1, fun i hi => hk (h.2 i hi)⟩

theorem YsOwn.snoc {B : Nat} {w w1 w2 : World} {v v' : Value} {ys : List Wy} {a : Option Addr} {cap : Nat} {xs : List Int} (h : YsOwn B w v ys) (hb : Below w.heap.size w w1)
    (hy : w1.ownsRow B 3 1 (.slice a xs.length cap) xs.length (intCells xs)) (hown : w2.ownsRow B 24 1 v' (ys.length + 1) (ys.map wyVal ++ [.slice a xs.length cap])) (hg : w1.grownBy w2 v.ownBlock) : YsOwn B w2 v' (ys ++ [⟨a, cap, xs⟩]) := by
  have ht := own_type (own_below h.1 hb) (show 24 ≠ 3 by decide)
  refine ⟨by simpa [wyVal] using hown, fun i hi => ?_⟩
  simp only [List.length_append, List.length_cons, List.length_nil] at hi
  by_cases hil : i < ys.length
  · rw [getD_snoc_lt _ _ _ hil]
    exact own_apart (own_below (h.2 i hil) hb) hg ht
  · have : i = ys.length := by omega
    subst this
    rw [getD_snoc_eq]
    exact own_apart hy hg ht

/-- All that fits and comes ahead of c is there. -/
def Gone (n : Nat) (fits : List Int → Bool) (ys : List Wy) (c : List Int) : Prop :=
  (∀ i, i < ys.length → Rg (ys.getD i wy0).xs ∧ (ys.getD i wy0).xs.length = n ∧ fits (ys.getD i wy0).xs = true) ∧ ∀ d, Rg d → d.length = n → fits d = true → Lex d c → ∃ i, i < ys.length ∧ (ys.getD i wy0).xs = d
/-- .. and no other. -/
def GoneAll (n : Nat) (fits : List Int → Bool) (ys : List Wy) : Prop :=
  (∀ i, i < ys.length → Rg (ys.getD i wy0).xs ∧ (ys.getD i wy0).xs.length = n ∧ fits (ys.getD i wy0).xs = true) ∧ ∀ d, Rg d → d.length = n → fits d = true → ∃ i, i < ys.length ∧ (ys.getD i wy0).xs = d
/-- .. c among it. -/
def GoneTo (n : Nat) (fits : List Int → Bool) (ys : List Wy) (c : List Int) : Prop :=
  (∀ i, i < ys.length → Rg (ys.getD i wy0).xs ∧ (ys.getD i wy0).xs.length = n ∧ fits (ys.getD i wy0).xs = true) ∧ ∀ d, Rg d → d.length = n → fits d = true → d = c ∨ Lex d c → ∃ i, i < ys.length ∧ (ys.getD i wy0).xs = d

theorem Gone.not {n : Nat} {fits : List Int → Bool} {ys : List Wy} {c : List Int} (h : Gone n fits ys c) (hc : fits c = false) : GoneTo n fits ys c :=
  ⟨h.1, fun d h1 h2 h3 h4 => by
    rcases h4 with rfl | h4
    · rw [hc] at h3; cases h3
    · exact h.2 d h1 h2 h3 h4⟩

theorem Gone.yes {n : Nat} {fits : List Int → Bool} {ys : List Wy} {c : List Int} {a : Option Addr} {cap : Nat} (h : Gone n fits ys c) (hr : Rg c) (hl : c.length = n) (hc : fits c = true) : GoneTo n fits (ys ++ [⟨a, cap, c⟩]) c := by
  constructor
  · intro i hi
    simp only [List.length_append, List.length_cons, List.length_nil] at hi
    by_cases hil : i < ys.length
    · rw [getD_snoc_lt _ _ _ hil]; exact h.1 i hil
    · have : i = ys.length := by omega
      subst this
      rw [getD_snoc_eq]; exact ⟨hr, hl, hc⟩
  · intro d h1 h2 h3 h4
    rcases h4 with rfl | h4
    · exact ⟨ys.length, by simp, by rw [getD_snoc_eq]⟩
    · obtain ⟨i, hi, e⟩ := h.2 d h1 h2 h3 h4
      exact ⟨i, by simp; omega, by rw [getD_snoc_lt _ _ _ hi]; exact e⟩

theorem GoneTo.bump {n : Nat} {fits : List Int → Bool} {ys : List Wy} {c : List Int} {i : Nat} (h : GoneTo n fits ys c) (hl : c.length = n) (hb : BumpAt c i) : Gone n fits ys (bump c i n) :=
  ⟨h.1, fun d h1 h2 h3 h4 => h.2 d h1 h2 h3 (succ_lex h1 (by omega) hb (by rw [hl]; exact h4))⟩

theorem GoneTo.done {n : Nat} {fits : List Int → Bool} {ys : List Wy} {c : List Int} (h : GoneTo n fits ys c) (hc : Rg c) (hl : c.length = n) (h1n : 1 ≤ n) (hb : NoBump c) : GoneAll n fits ys :=
  ⟨h.1, fun d h1 h2 h3 => h.2 d h1 h2 h3 (max_lex h1 hc (by omega) (by omega) hb)⟩

theorem Gone.start (n : Nat) (fits : List Int → Bool) : Gone n fits [] (zeros n) := ⟨fun i hi => by simp at hi, fun d h1 h2 _ h4 => absurd h4 (zeros_lex h1 h2)⟩

def fitsB (ts : List Tm) (cs : List Cl) (c : List Int) : Bool := soundB ts c && allHoldB c cs
end Go.Proofs.Ytjebhhoibofmfaa
