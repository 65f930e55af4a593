import Derived.Test.YtjebhhoibofmfaaKpD
namespace Go.Proofs.Ytjebhhoibofmfaa
open Go.RowKit

/-- A list by its elements. -/
def tab (n : Nat) (f : Nat → Int) : List Int := (List.range n).map f
theorem tab_length (n : Nat) (f : Nat → Int) : (tab n f).length = n := by simp [tab]
theorem tab_getD (n : Nat) (f : Nat → Int) {t : Nat} (h : t < n) : (tab n f).getD t 0 = f t := by simp [tab, h]
theorem tab_congr {n : Nat} {f g : Nat → Int} (h : ∀ t, t < n → f t = g t) : tab n f = tab n g := by
  unfold tab
  exact List.map_congr_left (fun t ht => h t (by simpa using ht))
theorem list_ext {a b : List Int} (hl : a.length = b.length) (h : ∀ t, t < a.length → a.getD t 0 = b.getD t 0) : a = b := by
  apply List.ext_getElem hl
  intro t h1 h2
  have := h t h1
  simpa [h1, h2] using this
theorem tab_self (c : List Int) : tab c.length (fun t => c.getD t 0) = c :=
  list_ext (tab_length _ _) (fun t ht => by rw [tab_length] at ht; rw [tab_getD _ _ ht])
theorem tab_set (n : Nat) (f : Nat → Int) (k : Nat) (v : Int) : (tab n f).set k v = tab n (fun t => if t = k then v else f t) := by
  refine list_ext (by simp [tab]) (fun t ht => ?_)
  have ht' : t < n := by simpa [tab] using ht
  rw [tab_getD _ _ ht']
  by_cases h : t = k
  · subst h; simp [tab, ht']
  · rw [if_neg h]
    simp [tab, ht', Ne.symm h]

/-- A row of ints, whole. -/
def Row (w : World) (g : Nat) (c : List Int) : Prop := w.heap[g]? = some (.cells (c.map (Value.int .i64)).toArray 3 (0, 0))

theorem Row.cell {w : World} {g : Nat} {c : List Int} (h : Row w g c) {k : Nat} (hk : k < c.length) : w.cell? ⟨g, k, none⟩ = some (.int .i64 (c.getD k 0)) := by
  rw [cell_of_row _ _ _ _ _ _ h]
  simp [hk]
theorem Row.frozen {w : World} {g : Nat} {c : List Int} (h : Row w g c) (k : Nat) : w.frozen? ⟨g, k, none⟩ = false := frozen_of_row _ _ _ _ _ h
theorem Row.at {w : World} {g : Nat} {c : List Int} (h : Row w g c) : IntsAt w (some ⟨g, 0, none⟩) c := .inr ⟨g, 0, rfl, fun i hi => by rw [Nat.zero_add]; exact h.cell hi⟩
theorem Row.lt {w : World} {g : Nat} {c : List Int} (h : Row w g c) : g < w.heap.size := (Array.getElem?_eq_some_iff.1 h).1
theorem Row.set {w : World} {g : Nat} {c : List Int} (h : Row w g c) (k : Nat) (v : Int) : Row (w.setCell ⟨g, k, none⟩ (.int .i64 v)) g (c.set k v) := by
  unfold Row
  rw [heap_setCell_same _ _ _ _ _ _ h]
  simp [List.map_set]
theorem Row.below {w w' : World} {g : Nat} {c : List Int} (h : Row w g c) {B : Nat} (hb : Below B w w') (hB : g < B) : Row w' g c := by
  unfold Row
  rw [hb.block g hB]; exact h
theorem Row.kept {w w' : World} {g : Nat} {c : List Int} {row : Option Nat} (h : Row w g c) (hg : w.grownBy w' row) (hne : some g ≠ row) : Row w' g c := by
  unfold Row
  rw [hg.block g h.lt hne]; exact h
theorem grown_set {w w' : World} {g k : Nat} {v : Value} (h : w.grownBy w' (some g)) : w.grownBy (w'.setCell ⟨g, k, none⟩ v) (some g) :=
  ⟨h.os, h.tape, h.output, by simpa using h.size, fun j hj hne => by rw [heap_setCell_other _ _ _ _ (by intro e; exact hne (by rw [e]))]; exact h.block j hj hne⟩

/-- The greatest of the first i, and 0. -/
def gr (c : List Int) : Nat → Int
  | 0 => 0
  | i + 1 => max (gr c i) (c.getD i 0)

/-- Behind 'next' at i: so far as k. -/
def bump (c : List Int) (i k : Nat) : List Int := tab c.length (fun t => if t < i then c.getD t 0 else if t = i then c.getD i 0 + 1 else if t < k then 0 else c.getD t 0)

theorem bump_start (c : List Int) (i : Nat) (hi : i < c.length) : c.set i (c.getD i 0 + 1) = bump c i (i + 1) := by
  conv => lhs; rw [← tab_self c]
  rw [tab_set, tab_self]
  refine tab_congr (fun t ht => ?_)
  by_cases h1 : t = i
  · subst h1; simp
  · rw [if_neg h1]
    by_cases h2 : t < i
    · rw [if_pos h2]
    · rw [if_neg h2, if_neg h1, if_neg (by omega)]

theorem bump_step (c : List Int) (i k : Nat) (hi : i < k) : (bump c i k).set k 0 = bump c i (k + 1) := by
  unfold bump
  rw [tab_set]
  refine tab_congr (fun t ht => ?_)
  by_cases h1 : t = k
  · subst h1; rw [if_pos rfl, if_neg (by omega), if_neg (by omega), if_pos (by omega)]
  · rw [if_neg h1]
    by_cases h2 : t < i
    · rw [if_pos h2, if_pos h2]
    · by_cases h3 : t = i
      · rw [if_neg h2, if_pos h3, if_neg h2, if_pos h3]
      · rw [if_neg h2, if_neg h3, if_neg h2, if_neg h3]
        by_cases h4 : t < k
        · rw [if_pos h4, if_pos (by omega)]
        · rw [if_neg h4, if_neg (by omega)]

theorem bump_length (c : List Int) (i k : Nat) : (bump c i k).length = c.length := tab_length _ _

/-- 'next': where it bumps. -/
def BumpAt (c : List Int) (i : Nat) : Prop := 0 < i ∧ i < c.length ∧ c.getD i 0 ≤ gr c i ∧ ∀ j, i < j → j < c.length → gr c j < c.getD j 0
def NoBump (c : List Int) : Prop := ∀ j, 0 < j → j < c.length → gr c j < c.getD j 0

set_option maxRecDepth 100000 in
set_option maxHeartbeats 400000 in
theorem next_any (g : Nat) (c : List Int) (w : World) (hc : Row w g c) (h9 : c.length ≤ 9) (h1 : 1 ≤ c.length) (hbd : ∀ i, i < c.length → 0 ≤ c.getD i 0 ∧ c.getD i 0 ≤ 9) :
    Calls Try.prog 24 #[.slice (some ⟨g, 0, none⟩) c.length c.length] w fun e w' => w.grownBy w' (some g) ∧
      ((∃ i, BumpAt c i ∧ Row w' g (bump c i c.length) ∧ e = .returned (.bool true)) ∨ (NoBump c ∧ Row w' g c ∧ e = .returned (.bool false))) := by
  have Hbd := hide hbd
  clear hbd
  obtain ⟨m, hm⟩ : ∃ m, c.length = m + 1 := ⟨c.length - 1, by omega⟩
  go_enter Try.func24, Try.ntmps24
  go_wp2_with fail
  have Hm := hide hm
  clear hm
  go_loopg [3] m (fun q s wr => s = .int .i64 q ∧ q ≤ m ∧ Hid (∀ j, q < j → j < c.length → gr c j < c.getD j 0) ∧ wr = w)
  case atStart => exact ⟨rfl, Nat.le_refl _, (fun j h1 h2 => by have := Hm.out; omega), rfl⟩
  case round =>
    obtain ⟨rfl, hq, Hq, rfl⟩ := hrel
    cases gk with
    | zero =>
      go_wp2_with fail
      go_ret
      exact ⟨World.grownBy.refl _ _, .inr ⟨fun j h1 h2 => Hq.out j h1 h2, hc, rfl⟩⟩
    | succ p =>
      rw [show ((p + 1 : Nat) : Int) = (p : Int) + 1 by omega]
      have hpl : p + 1 < c.length := by have := Hm.out; omega
      go_wp2_with fail
      go_loopg [4, 5] (p + 1) (fun q s4 s5 wx => ∃ k : Nat, q = p + 1 - k ∧ k ≤ p + 1 ∧ s5 = .int .i64 k ∧ s4 = .int .i64 (gr c k) ∧ wx = wr)
      case atStart => exact ⟨0, by omega, by omega, rfl, rfl, rfl⟩
      case round =>
        obtain ⟨k, rfl, hk, rfl, rfl, rfl⟩ := hrel
        by_cases hlt : k < p + 1
        · have ck := hc.cell (k := k) (by omega)
          have Hs : Hid (gr c (k + 1) = max (gr c k) (c.getD k 0)) := rfl
          generalize gr c k = mx at *
          generalize c.getD k 0 = v at *
          by_cases hv : mx < v
          · have hm1 : ¬ v < mx := by omega
            go_wp2_with fail
            go_roundg (p + 1 - (k + 1))
            case measure => omega
            case rel => exact ⟨k + 1, rfl, by omega, by go_num, by rw [Hs.out]; congr 1; omega, rfl⟩
          · go_wp2_with fail
            go_roundg (p + 1 - (k + 1))
            case measure => omega
            case rel => exact ⟨k + 1, rfl, by omega, by go_num, by rw [Hs.out]; congr 1; omega, rfl⟩
        · have hkp : k = p + 1 := by omega
          subst hkp
          have ck := hc.cell (k := p + 1) (by omega)
          have fk := hc.frozen (p + 1)
          obtain ⟨b0, b9⟩ := Hbd.out (p + 1) hpl
          by_cases hle : c.getD (p + 1) 0 ≤ gr c (p + 1)
          · have Hb : Hid (BumpAt c (p + 1)) := ⟨by omega, hpl, hle, fun j h1 h2 => Hq.out j h1 h2⟩
            have Hst : Hid (Row (wr.setCell ⟨g, p + 1, none⟩ (.int .i64 (c.getD (p + 1) 0 + 1))) g (bump c (p + 1) (p + 1 + 1))) := by rw [← bump_start c _ hpl]; exact hc.set _ _
            generalize c.getD (p + 1) 0 = v at *
            generalize gr c (p + 1) = mx at *
            go_wp2_with fail
            go_loopg [6] (c.length - (p + 1 + 1)) (fun q s wy => ∃ k : Nat, q = c.length - k ∧ p + 1 < k ∧ k ≤ c.length ∧ s = .int .i64 k ∧ Row wy g (bump c (p + 1) k) ∧ wr.grownBy wy (some g))
            case atStart => exact ⟨p + 1 + 1, rfl, by omega, by omega, by go_num, Hst.out, grown_set (World.grownBy.refl _ _)⟩
            case round =>
              obtain ⟨k, rfl, hk1, hk2, rfl, hrow, hgr⟩ := hrel
              by_cases hlt2 : k < c.length
              · have dk := hrow.cell (k := k) (by rw [bump_length]; exact hlt2)
                have df := hrow.frozen k
                generalize (bump c (p + 1) k).getD k 0 = dv at *
                go_wp2_with fail
                go_roundg (c.length - (k + 1))
                case measure => omega
                case rel => exact ⟨k + 1, rfl, by omega, by omega, by go_num, by rw [← bump_step c _ _ hk1]; exact hrow.set _ _, grown_set hgr⟩
              · have hkl : k = c.length := by omega
                have Hkl := hide hkl
                clear hkl
                go_wp2_with fail
                go_ret
                exact ⟨hgr, .inl ⟨p + 1, Hb.out, by rw [Hkl.out] at hrow; exact hrow, rfl⟩⟩
          · have Hn : Hid (∀ j, p < j → j < c.length → gr c j < c.getD j 0) := by
              intro j h1 h2
              by_cases hj : j = p + 1
              · subst hj; omega
              · exact Hq.out j (by omega) h2
            generalize c.getD (p + 1) 0 = v at *
            generalize gr c (p + 1) = mx at *
            go_wp2_with fail
            go_roundg p
            case measure => omega
            case rel => exact ⟨by go_num, by omega, Hn, rfl⟩
end Go.Proofs.Ytjebhhoibofmfaa
