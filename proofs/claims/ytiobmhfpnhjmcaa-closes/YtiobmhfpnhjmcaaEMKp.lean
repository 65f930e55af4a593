import Derived.Test.YtiobmhfpnhjmcaaEMEq
import Derived.Deep.RegionLaw
import Derived.Deep.OwnRows
import Derived.Deep.CutBlock
namespace Go.Proofs.Ytiobmhfpnhjmcaa
open Go.RowKit
def IntsRow (w : World) (a : Option Addr) (xs : List Int) : Prop :=
  xs = [] ∨ ∃ b cur, a = some ⟨b, 0, none⟩ ∧ w.heap[b]? = some (.cells cur 3 (0, 0)) ∧ ∀ i, i < xs.length → cur[i]? = some (.int .i64 (xs.getD i 0))
theorem IntsRow.at {w : World} {a : Option Addr} {xs : List Int} (h : IntsRow w a xs) : IntsAt w a xs := by
  rcases h with h | ⟨b, cur, rfl, hb, h⟩
  · exact .inl h
  · refine .inr ⟨b, 0, rfl, fun i hi => ?_⟩
    rw [Nat.zero_add, cell_of_row w b i cur 3 (0, 0) hb]
    exact h i hi
theorem IntsRow.grown {w w' : World} {row : Option Nat} {a : Option Addr} {xs : List Int} (h : IntsRow w a xs) (hg : w.grownBy w' row)
    (hr : ∀ g, row = some g → ∃ cur e, w.heap[g]? = some (.cells cur e (0, 0)) ∧ e ≠ 3) : IntsRow w' a xs := by
  rcases h with h | ⟨b, cur, rfl, hb, h⟩
  · exact .inl h
  · refine .inr ⟨b, cur, rfl, ?_, h⟩
    rw [hg.block b (Array.getElem?_eq_some_iff.1 hb).1 (fun e => ?_)]
    · exact hb
    · obtain ⟨cur', e', h1, h2⟩ := hr b e.symm
      rw [hb] at h1
      injection h1 with h1
      injection h1 with _ h1
      exact h2 h1.symm
def tmCells (t : Tm) : List Value := [.int .i64 t.sym, .slice t.a t.args.length t.cap]
def tsCells (ts : List Tm) : List Value := ts.flatMap tmCells
theorem tsCells_length (ts : List Tm) : (tsCells ts).length = ts.length * 2 := by
  induction ts with
  | nil => rfl
  | cons t ts ih => simp only [tsCells, List.flatMap_cons, List.length_append, tmCells, List.length_cons, List.length_nil] at *; omega
theorem tsCells_get (ts : List Tm) : ∀ i, i < ts.length → (tsCells ts)[i * 2]? = some (.int .i64 (ts.getD i tm0).sym) ∧
    (tsCells ts)[i * 2 + 1]? = some (.slice (ts.getD i tm0).a (ts.getD i tm0).args.length (ts.getD i tm0).cap) := by
  induction ts with
  | nil => intro i hi; simp at hi
  | cons t ts ih =>
    intro i hi
    cases i with
    | zero => exact ⟨rfl, rfl⟩
    | succ i =>
      have := ih i (by simpa using hi)
      have e1 : (i + 1) * 2 = i * 2 + 2 := by omega
      have hc : tsCells (t :: ts) = .int .i64 t.sym :: .slice t.a t.args.length t.cap :: tsCells ts := rfl
      rw [e1, hc]
      simpa using this
end Go.Proofs.Ytiobmhfpnhjmcaa
namespace Go.Proofs.Ytiobmhfpnhjmcaa
open Go.RowKit
theorem info_term : (Try.prog.info? 61).map (fun i => (i.zero, i.size, i.bytes)) = some (some (.agg #[.int .i64 0, .slice none 0 0]), 2, 32) := by kernel_rfl
def First4 (ts : List Tm) : Prop := 4 ≤ ts.length ∧ ((ts.getD 0 tm0).sym = 0 ∧ (ts.getD 0 tm0).args = []) ∧ ((ts.getD 1 tm0).sym = 1 ∧ (ts.getD 1 tm0).args = []) ∧
  ((ts.getD 2 tm0).sym = 2 ∧ (ts.getD 2 tm0).args = [0]) ∧ (ts.getD 3 tm0).sym = 2 ∧ (ts.getD 3 tm0).args = [1]
def KT (w wr : World) (v : Value) (ts : List Tm) : Prop :=
  wr.ownsRow w.heap.size 61 2 v ts.length (tsCells ts) ∧ (∀ i, i < ts.length → IntsRow wr (ts.getD i tm0).a (ts.getD i tm0).args) ∧ termsB ts = true ∧ First4 ts ∧ Below w.heap.size w wr
theorem getD_snoc_lt {α : Type} (ts : List α) (t d : α) {i : Nat} (h : i < ts.length) : (ts ++ [t]).getD i d = ts.getD i d := by
  simp [List.getElem?_append_left h]
theorem getD_snoc_eq {α : Type} (ts : List α) (t d : α) : (ts ++ [t]).getD ts.length d = t := by simp
theorem First4.snoc {ts : List Tm} {t : Tm} (h : First4 ts) : First4 (ts ++ [t]) := by
  obtain ⟨h0, h1⟩ := h
  refine ⟨by simp; omega, ?_⟩
  rw [getD_snoc_lt _ _ _ (by omega), getD_snoc_lt _ _ _ (by omega), getD_snoc_lt _ _ _ (by omega), getD_snoc_lt _ _ _ (by omega)]
  exact h1
theorem heap_at_new (w : World) (o : Obj) (n : Nat) (h : n = w.heap.size) : (w.alloc o).heap[n]? = some o := by
  subst h
  show (w.heap.push o)[w.heap.size]? = _
  simp
theorem heap_at_old (w : World) (o : Obj) {n : Nat} {x : Obj} (h : w.heap[n]? = some x) : (w.alloc o).heap[n]? = some x := by
  have := (Array.getElem?_eq_some_iff.1 h).1
  show (w.heap.push o)[n]? = _
  rw [Array.getElem?_push, if_neg (by omega)]
  exact h
theorem KT.start (w : World) : KT w (((w.alloc (.cells #[.int .i64 0] 3)).alloc (.cells #[.int .i64 1] 3)).alloc
    (.cells #[.int .i64 0, .slice none 0 0, .int .i64 1, .slice none 0 0, .int .i64 2, .slice (some ⟨w.heap.size, 0, none⟩) 1 1, .int .i64 2, .slice (some ⟨w.heap.size + 1, 0, none⟩) 1 1] 61))
    (.slice (some ⟨w.heap.size + 1 + 1, 0, none⟩) 4 4)
    [⟨0, none, 0, []⟩, ⟨1, none, 0, []⟩, ⟨2, some ⟨w.heap.size, 0, none⟩, 1, [0]⟩, ⟨2, some ⟨w.heap.size + 1, 0, none⟩, 1, [1]⟩] := by
  refine ⟨⟨rfl, .inr ⟨w.heap.size + 1 + 1, 4, _, rfl, by omega, heap_at_new _ _ _ (by simp), (by show 4 ≤ 4; omega), (by show 4 ≤ 9223372036854775807; omega), rfl, rfl⟩⟩, ?_, rfl, ⟨(by show 4 ≤ 4; omega), ⟨rfl, rfl⟩, ⟨rfl, rfl⟩, ⟨rfl, rfl⟩, rfl, rfl⟩, ?_⟩
  · intro i hi
    match i, hi with
    | 0, _ => exact .inl rfl
    | 1, _ => exact .inl rfl
    | 2, _ => exact .inr ⟨w.heap.size, #[.int .i64 0], rfl, heap_at_old _ _ (heap_at_old _ _ (heap_at_new _ _ _ rfl)), fun i hi => by simp at hi; subst hi; rfl⟩
    | 3, _ => exact .inr ⟨w.heap.size + 1, #[.int .i64 1], rfl, heap_at_old _ _ (heap_at_new _ _ _ (by simp)), fun i hi => by simp at hi; subst hi; rfl⟩
    | n + 4, hi => exact absurd hi (by simp)
  · exact (((Below.refl _ _).alloc (Nat.le_refl _) _).alloc (by simp) _).alloc (by simp; omega) _
theorem KT.below {w wr : World} {v : Value} {ts : List Tm} (h : KT w wr v ts) : Below w.heap.size w wr := h.2.2.2.2
end Go.Proofs.Ytiobmhfpnhjmcaa
namespace Go.Proofs.Ytiobmhfpnhjmcaa
open Go.RowKit
theorem own_apart {w w' : World} {base : Nat} {e : TypeId} {size : Nat} {v : Value} {n : Nat} {xs : List Value} {row : Option Nat} (h : w.ownsRow base e size v n xs) (hg : w.grownBy w' row)
    (hr : ∀ g, row = some g → ∃ cur e', w.heap[g]? = some (.cells cur e' (0, 0)) ∧ e' ≠ e) : w'.ownsRow base e size v n xs := by
  refine h.kept hg ?_
  rcases h.2 with ⟨rfl, _⟩ | ⟨g, cap, cur, rfl, hb, hgg, _⟩
  · exact .inl rfl
  · refine .inr (fun e1 => ?_)
    obtain ⟨cur', e', h1, h2⟩ := hr g e1.symm
    rw [hgg] at h1
    injection h1 with h1
    injection h1 with _ h1
    exact h2 h1.symm
theorem own_type {w : World} {base : Nat} {e : TypeId} {size : Nat} {v : Value} {n : Nat} {xs : List Value} (h : w.ownsRow base e size v n xs) {e0 : TypeId} (hne : e ≠ e0) :
    ∀ g, v.ownBlock = some g → ∃ cur e', w.heap[g]? = some (.cells cur e' (0, 0)) ∧ e' ≠ e0 := by
  intro g hg
  rcases h.2 with ⟨rfl, _⟩ | ⟨g', cap, cur, rfl, hb, hgg, _⟩
  · simp [Value.ownBlock] at hg
  · simp [Value.ownBlock] at hg
    subst hg
    exact ⟨cur, e, hgg, hne⟩
theorem own_below {w w' : World} {base : Nat} {e : TypeId} {size : Nat} {v : Value} {n : Nat} {xs : List Value} (h : w.ownsRow base e size v n xs) (hb : Below w.heap.size w w') : w'.ownsRow base e size v n xs := by
  refine ⟨h.1, ?_⟩
  rcases h.2 with h2 | ⟨g, cap, cur, hv, hg, hh, r⟩
  · exact Or.inl h2
  · exact Or.inr ⟨g, cap, cur, hv, hg, by rw [hb.block _ (Array.getElem?_eq_some_iff.1 hh).1]; exact hh, r⟩
theorem own_val {w : World} {base : Nat} {e : TypeId} {size : Nat} {v : Value} {n : Nat} {xs : List Value} (h : w.ownsRow base e size v n xs) : ∃ a cap, v = .slice a n cap := by
  rcases h.2 with ⟨rfl, h2⟩ | ⟨g, cap, cur, rfl, _⟩
  · exact ⟨none, 0, by rw [h2]⟩
  · exact ⟨_, _, rfl⟩
theorem own_setCell {w : World} {base : Nat} {e : TypeId} {size : Nat} {v : Value} {n : Nat} {xs : List Value} (h : w.ownsRow base e size v n xs) {p : Addr} (hp : p.block < base) (u : Value) : (w.setCell p u).ownsRow base e size v n xs :=
  ownsRow_setCell_below h hp u
def ltCells (l : Lt) : List Value := [.int .i64 l.x, .int .i64 l.y, .bool l.n]
def lsCells (ls : List Lt) : List Value := ls.flatMap ltCells
def clVal (q : Cl) : Value := .slice q.a q.ls.length q.cap
def csCells (cs : List Cl) : List Value := cs.map clVal
theorem lsCells_length (ls : List Lt) : (lsCells ls).length = ls.length * 3 := by
  induction ls with
  | nil => rfl
  | cons t ts ih => simp only [lsCells, List.flatMap_cons, List.length_append, ltCells, List.length_cons, List.length_nil] at *; omega
theorem lsCells_get (ls : List Lt) : ∀ i, i < ls.length → (lsCells ls)[i * 3]? = some (.int .i64 (ls.getD i lt0).x) ∧ (lsCells ls)[i * 3 + 1]? = some (.int .i64 (ls.getD i lt0).y) ∧ (lsCells ls)[i * 3 + 2]? = some (.bool (ls.getD i lt0).n) := by
  induction ls with
  | nil => intro i hi; simp at hi
  | cons t ts ih =>
    intro i hi
    cases i with
    | zero => exact ⟨rfl, rfl, rfl⟩
    | succ i =>
      have := ih i (by simpa using hi)
      have e1 : (i + 1) * 3 = i * 3 + 3 := by omega
      have hc : lsCells (t :: ts) = .int .i64 t.x :: .int .i64 t.y :: .bool t.n :: lsCells ts := rfl
      rw [e1, hc]
      simpa using this
theorem litsAt_of_own {w : World} {base : Nat} {a : Option Addr} {cap : Nat} {ls : List Lt} (h : w.ownsRow base 44 3 (.slice a ls.length cap) ls.length (lsCells ls)) : LitsAt w a ls := by
  rcases h.2 with ⟨_, hn⟩ | ⟨g, cap, cur, hv, hb, hg, h1, h2, h3, h4⟩
  · exact .inl (List.length_eq_zero_iff.1 hn)
  · injection hv with hv _ _
    subst hv
    refine .inr ⟨g, 0, rfl, fun i hi => ?_⟩
    have hc := lsCells_get ls i hi
    rw [← h4, List.getElem?_take, List.getElem?_take, List.getElem?_take] at hc
    rw [if_pos (by omega), if_pos (by omega), if_pos (by omega)] at hc
    refine ⟨?_, ?_, ?_⟩
    · rw [Nat.zero_add, cell_of_row w g _ cur 44 (0, 0) hg]; simpa using hc.1
    · rw [Nat.zero_add, cell_of_row w g _ cur 44 (0, 0) hg]; simpa using hc.2.1
    · rw [Nat.zero_add, cell_of_row w g _ cur 44 (0, 0) hg]; simpa using hc.2.2
theorem clausesAt_of_own {w : World} {base : Nat} {a : Option Addr} {cap : Nat} {cs : List Cl} (h : w.ownsRow base 45 1 (.slice a cs.length cap) cs.length (csCells cs))
    (hl : ∀ i, i < cs.length → LitsAt w (cs.getD i cl0).a (cs.getD i cl0).ls) : ClausesAt w a cs := by
  rcases h.2 with ⟨_, hn⟩ | ⟨g, cap, cur, hv, hb, hg, h1, h2, h3, h4⟩
  · exact .inl (List.length_eq_zero_iff.1 hn)
  · injection hv with hv _ _
    subst hv
    refine .inr ⟨g, 0, rfl, fun i hi => ⟨?_, hl i hi⟩⟩
    have hc : (csCells cs)[i]? = some (clVal (cs.getD i cl0)) := by simp [csCells, hi]
    rw [← h4, List.getElem?_take, if_pos (by omega)] at hc
    rw [Nat.zero_add, cell_of_row w g _ cur 45 (0, 0) hg]
    simpa [clVal] using hc
end Go.Proofs.Ytiobmhfpnhjmcaa
namespace Go.Proofs.Ytiobmhfpnhjmcaa
open Go.RowKit
theorem info_lit : (Try.prog.info? 44).map (fun i => (i.zero, i.size, i.bytes)) = some (some (.agg #[.int .i64 0, .int .i64 0, .bool false]), 3, 24) := by kernel_rfl
theorem info_lits : (Try.prog.info? 45).map (fun i => (i.zero, i.size, i.bytes)) = some (some (.slice none 0 0), 1, 24) := by kernel_rfl
theorem new_one (w : World) (v : Value) (t : TypeId) : ∀ j u, [v][j]? = some u → (w.alloc (.cells #[v] t)).cell? ((⟨w.heap.size, 0, none⟩ : Addr).add j) = some u := by
  intro j u hj
  match j, hj with
  | 0, hj => simp at hj; subst hj; simp [Addr.add]
  | j + 1, hj => simp at hj
theorem ltCells_one (l : Lt) : ∀ u ∈ ltCells l, u.oneCell' = true := by
  intro u hu
  simp [ltCells] at hu
  rcases hu with rfl | rfl | rfl <;> rfl
def CsOwn (B : Nat) (wr : World) (v : Value) (cs : List Cl) : Prop :=
  wr.ownsRow B 45 1 v cs.length (csCells cs) ∧ ∀ i, i < cs.length → wr.ownsRow B 44 3 (clVal (cs.getD i cl0)) (cs.getD i cl0).ls.length (lsCells (cs.getD i cl0).ls)
theorem CsOwn.at {B : Nat} {w : World} {v : Value} {cs : List Cl} (h : CsOwn B w v cs) : ∃ a cap, v = .slice a cs.length cap ∧ ClausesAt w a cs := by
  obtain ⟨a, cap, rfl⟩ := own_val h.1
  exact ⟨a, cap, rfl, clausesAt_of_own h.1 (fun i hi => litsAt_of_own (h.2 i hi))⟩
theorem CsOwn.below {B : Nat} {w w' : World} {v : Value} {cs : List Cl} (h : CsOwn B w v cs) (hb : Below w.heap.size w w') : CsOwn B w' v cs := ⟨own_below h.1 hb, fun i hi => own_below (h.2 i hi) hb⟩
theorem own_base {w : World} {base base' : Nat} {e : TypeId} {size : Nat} {v : Value} {n : Nat} {xs : List Value} (h : w.ownsRow base e size v n xs) (hb : base' ≤ base) : w.ownsRow base' e size v n xs := by
  refine ⟨h.1, ?_⟩
  rcases h.2 with h2 | ⟨g, cap, cur, hv, hg, r⟩
  · exact Or.inl h2
  · exact Or.inr ⟨g, cap, cur, hv, by omega, r⟩
def PR (n : Nat) (w wr : World) (tsl pv : Value) (cs : List Cl) : Prop :=
  wr.heap[w.heap.size]? = some (.cells #[.slice none 0 0, .slice none 0 0] 33 (0, 0)) ∧ wr.heap[w.heap.size + 1]? = some (.cells #[tsl, pv] 33 (0, 0)) ∧
  CsOwn (w.heap.size + 2) wr pv cs ∧ clausesB n cs = true ∧ Below w.heap.size w wr
theorem PR.kept {n : Nat} {w wr w1 w2 : World} {tsl pv : Value} {cs : List Cl} {o : Obj} (h : PR n w wr tsl pv cs) (hb : Below wr.heap.size wr w1) (hg : (w1.alloc o).grownBy w2 pv.ownBlock) :
    w2.heap[w.heap.size + 1]? = some (.cells #[tsl, pv] 33 (0, 0)) := by
  obtain ⟨h1, h2, h3, h4, h5⟩ := h
  have hs2 := (Array.getElem?_eq_some_iff.1 h2).1
  have hb1 : Below wr.heap.size wr (w1.alloc o) := hb.alloc hb.size _
  rw [hg.block _ (by have := hb1.size; omega) (fun e => by have := (h3.1.lt _ e.symm).1; omega), hb1.block _ hs2]
  exact h2
theorem wrap64_small {x : Int} (h0 : 0 ≤ x) (h1 : x < 9223372036854775808) : wrap64 x = x := by unfold wrap64; omega
theorem PR.start (n : Nat) (w : World) (tsl : Value) : PR n w ((w.alloc (.cells #[.slice none 0 0, .slice none 0 0] 33)).alloc (.cells #[tsl, .slice none 0 0] 33)) tsl (.slice none 0 0) [] :=
  ⟨heap_at_old _ _ (heap_at_new _ _ _ rfl), heap_at_new _ _ _ (by simp), ⟨World.ownsRow_nil _ _ _ _, fun i hi => by simp at hi⟩, rfl, ((Below.refl _ _).alloc (Nat.le_refl _) _).alloc (by simp) _⟩
end Go.Proofs.Ytiobmhfpnhjmcaa
namespace Go.Proofs.Ytiobmhfpnhjmcaa
open Go.RowKit
def tab (n : Nat) (f : Nat → Int) : List Int := (List.range n).map f
theorem tab_length (n : Nat) (f : Nat → Int) : (tab n f).length = n := by simp [tab]
theorem tab_getD (n : Nat) (f : Nat → Int) {t : Nat} (h : t < n) : (tab n f).getD t 0 = f t := by simp [tab, h]
theorem tab_congr {n : Nat} {f g : Nat → Int} (h : ∀ t, t < n → f t = g t) : tab n f = tab n g := by
  unfold tab
  exact List.map_congr_left (fun t ht => h t (by simpa using ht))
theorem list_ext {a b : List Int} (hl : a.length = b.length) (h : ∀ t, t < a.length → a.getD t 0 = b.getD t 0) : a = b := by
  apply List.ext_getElem hl
  intro t h1 h2
  have := h t h1
  simpa [h1, h2] using this
theorem tab_self (c : List Int) : tab c.length (fun t => c.getD t 0) = c :=
  list_ext (tab_length _ _) (fun t ht => by rw [tab_length] at ht; rw [tab_getD _ _ ht])
theorem tab_set (n : Nat) (f : Nat → Int) (k : Nat) (v : Int) : (tab n f).set k v = tab n (fun t => if t = k then v else f t) := by
  refine list_ext (by simp [tab]) (fun t ht => ?_)
  have ht' : t < n := by simpa [tab] using ht
  rw [tab_getD _ _ ht']
  by_cases h : t = k
  · subst h; simp [tab, ht']
  · rw [if_neg h]
    simp [tab, ht', Ne.symm h]
def Row (w : World) (g : Nat) (c : List Int) : Prop := w.heap[g]? = some (.cells (c.map (Value.int .i64)).toArray 3 (0, 0))
theorem Row.cell {w : World} {g : Nat} {c : List Int} (h : Row w g c) {k : Nat} (hk : k < c.length) : w.cell? ⟨g, k, none⟩ = some (.int .i64 (c.getD k 0)) := by
  rw [cell_of_row _ _ _ _ _ _ h]
  simp [hk]
theorem Row.frozen {w : World} {g : Nat} {c : List Int} (h : Row w g c) (k : Nat) : w.frozen? ⟨g, k, none⟩ = false := frozen_of_row _ _ _ _ _ h
theorem Row.at {w : World} {g : Nat} {c : List Int} (h : Row w g c) : IntsAt w (some ⟨g, 0, none⟩) c := .inr ⟨g, 0, rfl, fun i hi => by rw [Nat.zero_add]; exact h.cell hi⟩
theorem Row.lt {w : World} {g : Nat} {c : List Int} (h : Row w g c) : g < w.heap.size := (Array.getElem?_eq_some_iff.1 h).1
theorem Row.set {w : World} {g : Nat} {c : List Int} (h : Row w g c) (k : Nat) (v : Int) : Row (w.setCell ⟨g, k, none⟩ (.int .i64 v)) g (c.set k v) := by
  unfold Row
  rw [heap_setCell_same _ _ _ _ _ _ h]
  simp [List.map_set]
theorem Row.below {w w' : World} {g : Nat} {c : List Int} (h : Row w g c) {B : Nat} (hb : Below B w w') (hB : g < B) : Row w' g c := by
  unfold Row
  rw [hb.block g hB]; exact h
theorem Row.kept {w w' : World} {g : Nat} {c : List Int} {row : Option Nat} (h : Row w g c) (hg : w.grownBy w' row) (hne : some g ≠ row) : Row w' g c := by
  unfold Row
  rw [hg.block g h.lt hne]; exact h
theorem grown_set {w w' : World} {g k : Nat} {v : Value} (h : w.grownBy w' (some g)) : w.grownBy (w'.setCell ⟨g, k, none⟩ v) (some g) :=
  ⟨h.os, h.tape, h.output, by simpa using h.size, fun j hj hne => by rw [heap_setCell_other _ _ _ _ (by intro e; exact hne (by rw [e]))]; exact h.block j hj hne⟩
def gr (c : List Int) : Nat → Int
  | 0 => 0
  | i + 1 => max (gr c i) (c.getD i 0)
end Go.Proofs.Ytiobmhfpnhjmcaa
namespace Go.Proofs.Ytiobmhfpnhjmcaa
open Go.RowKit
end Go.Proofs.Ytiobmhfpnhjmcaa
namespace Go.Proofs.Ytiobmhfpnhjmcaa
open Go.RowKit
end Go.Proofs.Ytiobmhfpnhjmcaa
namespace Go.Proofs.Ytiobmhfpnhjmcaa
open Go.RowKit
def Rg (c : List Int) : Prop := c.length ≤ 9 ∧ (0 < c.length → c.getD 0 0 = 0) ∧ ∀ i, i < c.length → 0 ≤ c.getD i 0 ∧ (1 ≤ i → c.getD i 0 ≤ gr c i + 1)
theorem rgs_from {c : List Int} (h : Rg c) : ∀ d k, k + d = c.length → rgs (if k = 0 then 0 else gr c k + 1) (c.drop k) = true := by
  intro d
  induction d with
  | zero => intro k hk; rw [List.drop_of_length_le (by omega)]; rfl
  | succ d ih =>
    intro k hk
    have hlt : k < c.length := by omega
    obtain ⟨h0, h1⟩ := h.2.2 k hlt
    have hz := h.2.1 (by omega)
    have hr := ih (k + 1) (by omega)
    rw [if_neg (by omega)] at hr
    rw [drop_get hlt, rgs, Bool.and_eq_true]
    have e : gr c (k + 1) = max (gr c k) (c.getD k 0) := rfl
    by_cases hk0 : k = 0
    · subst hk0
      rw [hz] at e ⊢
      refine ⟨by rfl, ?_⟩
      have : (if (0 : Int) = (if (0 : Nat) = 0 then 0 else gr c 0 + 1) then (if (0 : Nat) = 0 then 0 else gr c 0 + 1) + 1 else if (0 : Nat) = 0 then 0 else gr c 0 + 1) = gr c (0 + 1) + 1 := by rw [e]; rfl
      rw [this]; exact hr
    · rw [if_neg hk0]
      have hle := h1 (by omega)
      refine ⟨belowB_iff.2 ⟨h0, by omega⟩, ?_⟩
      by_cases he : c.getD k 0 = gr c k + 1
      · rw [if_pos he]
        rw [show gr c (k + 1) = gr c k + 1 by omega] at hr
        exact hr
      · rw [if_neg he]
        rw [show gr c (k + 1) = gr c k by omega] at hr
        exact hr
theorem rgs_of {c : List Int} (h : Rg c) : rgs 0 c = true := by simpa using rgs_from h c.length 0 (by omega)
def zeros (n : Nat) : List Int := tab n (fun _ => 0)
theorem zeros_length (n : Nat) : (zeros n).length = n := tab_length _ _
theorem made_zeros (n : Nat) : madeCells #[.int .i64 0] n = ((zeros n).map (Value.int .i64)).toArray := by
  unfold madeCells zeros tab
  apply Array.ext
  · simp
  · intro i h1 h2
    simp [Nat.mod_one]
def apart (n : Nat) : List Int := tab n (fun t => (t : Int))
theorem apart_length (n : Nat) : (apart n).length = n := tab_length _ _
theorem gr_apart {n : Nat} : ∀ i, i ≤ n → gr (apart n) (i + 1) = i ∨ n ≤ i
  | 0, h => by
    by_cases hn : n = 0
    · exact .inr (by omega)
    · refine .inl ?_
      unfold gr apart gr
      rw [tab_getD _ _ (by omega)]; simp
  | i + 1, h => by
    by_cases hn : n ≤ i + 1
    · exact .inr hn
    · refine .inl ?_
      have e : gr (apart n) (i + 1 + 1) = max (gr (apart n) (i + 1)) ((apart n).getD (i + 1) 0) := rfl
      rw [e]
      rcases gr_apart (n := n) i (by omega) with h1 | h1
      · rw [h1]; unfold apart; rw [tab_getD _ _ (by omega)]; omega
      · omega
theorem Rg.apart {n : Nat} (h : n ≤ 9) : Rg (apart n) := by
  refine ⟨by rw [apart_length]; exact h, fun h0 => ?_, fun t ht => ?_⟩
  · rw [apart_length] at h0; exact tab_getD _ _ h0
  · rw [apart_length] at ht
    have e : (Go.Proofs.Ytiobmhfpnhjmcaa.apart n).getD t 0 = t := tab_getD _ _ ht
    rw [e]
    refine ⟨by omega, fun h1 => ?_⟩
    obtain ⟨p, rfl⟩ : ∃ p, t = p + 1 := ⟨t - 1, by omega⟩
    rcases gr_apart (n := n) p (by omega) with h2 | h2
    · rw [h2]; omega
    · omega
end Go.Proofs.Ytiobmhfpnhjmcaa
namespace Go.Proofs.Ytiobmhfpnhjmcaa
open Go.RowKit
theorem info_int : (Try.prog.info? 3).map (fun i => (i.zero, i.size, i.bytes)) = some (some (.int .i64 0), 1, 8) := by kernel_rfl
def upto (n i : Nat) : List Int := tab n (fun t => if t < i then (t : Int) else 0)
theorem upto_zero (n : Nat) : upto n 0 = zeros n := tab_congr (fun t _ => by rw [if_neg (by omega)])
theorem upto_all (n : Nat) : upto n n = apart n := tab_congr (fun t h => by rw [if_pos h])
theorem upto_set (n i : Nat) : (upto n i).set i (i : Int) = upto n (i + 1) := by
  unfold upto
  rw [tab_set]
  refine tab_congr (fun t _ => ?_)
  by_cases h : t = i
  · subst h; rw [if_pos rfl, if_pos (by omega)]
  · rw [if_neg h]
    by_cases h2 : t < i
    · rw [if_pos h2, if_pos (by omega)]
    · rw [if_neg h2, if_neg (by omega)]
end Go.Proofs.Ytiobmhfpnhjmcaa
