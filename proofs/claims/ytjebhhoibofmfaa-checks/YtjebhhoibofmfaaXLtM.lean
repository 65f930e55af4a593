import Derived.Test.YtjebhhoibofmfaaXLtH
import Derived.Test.YtjebhhoibofmfaaXLtC
import Derived.Test.YtjebhhoibofmfaaXLtE
namespace Go.Proofs.Ytjebhhoibofmfaa
open Go.RowKit

theorem keep2 {W W' : World} {a b c d : Nat} {x y : Value} (h : W.cell? ⟨a, b, none⟩ = some x ∧ W.cell? ⟨c, d, none⟩ = some y) (hb : Below W.heap.size W W') :
    W'.cell? ⟨a, b, none⟩ = some x ∧ W'.cell? ⟨c, d, none⟩ = some y := ⟨cell_below hb h.1, cell_below hb h.2⟩

/-- A slice of sets at address a reads as ss. -/
def SetsAt (w : World) (a : Option Addr) (ss : List (Nat × Nat)) : Prop :=
  ss = [] ∨ ∃ b o, a = some ⟨b, o, none⟩ ∧ ∀ i, i < ss.length → w.cell? ⟨b, o + i * 2, none⟩ = some (.int .u64 (ss.getD i (0, 0)).1) ∧ w.cell? ⟨b, o + i * 2 + 1, none⟩ = some (.int .u64 (ss.getD i (0, 0)).2)

theorem SetsAt.below {w w' : World} {a : Option Addr} {ss : List (Nat × Nat)} (h : SetsAt w a ss) (hb : Below w.heap.size w w') : SetsAt w' a ss := by
  rcases h with h | ⟨b, o, rfl, h⟩
  · exact .inl h
  · exact .inr ⟨b, o, rfl, fun i hi => ⟨cell_below hb (h i hi).1, cell_below hb (h i hi).2⟩⟩

theorem SetsAt.get {w : World} {a : Option Addr} {ss : List (Nat × Nat)} (h : SetsAt w a ss) {i : Nat} (hi : i < ss.length) :
    ∃ b o, a = some ⟨b, o, none⟩ ∧ ∀ i, i < ss.length → w.cell? ⟨b, o + i * 2, none⟩ = some (.int .u64 (ss.getD i (0, 0)).1) ∧ w.cell? ⟨b, o + i * 2 + 1, none⟩ = some (.int .u64 (ss.getD i (0, 0)).2) := by
  rcases h with h | h
  · subst h; simp at hi
  · exact h

theorem getD_memS {ls : List (Nat × Nat)} {k : Nat} (h : k < ls.length) : ls.getD k (0, 0) ∈ ls := by
  rw [List.getD_eq_getElem?_getD, List.getElem?_eq_getElem h, Option.getD_some]; exact List.getElem_mem h

theorem alloc_old {w : World} {o : Obj} {b i : Nat} {v : Value} (h : w.cell? ⟨b, i, none⟩ = some v) : (w.alloc o).cell? ⟨b, i, none⟩ = some v := cell_below (below_alloc w o) h
theorem drew_old {w : World} {a : Addr} {v : Value} (h : w.cell? a = some v) : w.drew.cell? a = some v := h
theorem alloc_new {w : World} {vs : Array Value} {t : TypeId} {g i : Nat} {v : Value} (hg : g = w.heap.size) (hv : vs[i]? = some v) : (w.alloc (.cells vs t)).cell? ⟨g, i, none⟩ = some v := by
  subst hg; simp [hv]

def okX (n : Int) (ss : List (Nat × Nat)) (s : St) : Bool := allLow (ss.length : Nat) [s.a, s.b] && allLow n [s.c, s.d] && hasS (ss.getD s.a.toNat (0, 0)).1 (ss.getD s.a.toNat (0, 0)).2 ⟨s.c, s.d, false⟩ && hasS (ss.getD s.b.toNat (0, 0)).1 (ss.getD s.b.toNat (0, 0)).2 ⟨s.c, s.d, true⟩
def setX (ss : List (Nat × Nat)) (s : St) : Nat × Nat :=
  (woutE (ss.getD s.a.toNat (0, 0)).1 ⟨s.c, s.d, false⟩ ||| woutE (ss.getD s.b.toNat (0, 0)).1 ⟨s.c, s.d, true⟩, woutA (ss.getD s.a.toNat (0, 0)).2 ⟨s.c, s.d, false⟩ ||| woutA (ss.getD s.b.toNat (0, 0)).2 ⟨s.c, s.d, true⟩)

set_option maxHeartbeats 400000 in
theorem equal_eq (x y : Int) (w : World) :
    Calls Try.prog 124 #[.int .i64 x, .int .i64 y] w fun e w' => e = .returned (.agg #[.int .i64 x, .int .i64 y, .bool false]) ∧ w' = w.alloc (.cells #[.int .i64 x, .int .i64 y, .bool false] 50) := by
  go_enter Try.func124, Try.ntmps124
  go_wp2_with fail
  exact bodyPost_ret (v := .agg #[.int .i64 x, .int .i64 y, .bool false]) (by simp [results, Try.results124, go_sem]) rfl ⟨rfl, rfl⟩

set_option maxHeartbeats 400000 in
theorem apart_eq (x y : Int) (w : World) :
    Calls Try.prog 125 #[.int .i64 x, .int .i64 y] w fun e w' => e = .returned (.agg #[.int .i64 x, .int .i64 y, .bool true]) ∧ w' = w.alloc (.cells #[.int .i64 x, .int .i64 y, .bool true] 50) := by
  go_enter Try.func125, Try.ntmps125
  go_wp2_with fail
  exact bodyPost_ret (v := .agg #[.int .i64 x, .int .i64 y, .bool true]) (by simp [results, Try.results125, go_sem]) rfl ⟨rfl, rfl⟩

theorem wout_lt {E A : Nat} {t : Lt} (hE : E < 18446744073709551616) (hA : A < 18446744073709551616) : woutE E t < 18446744073709551616 ∧ woutA A t < 18446744073709551616 := by
  unfold woutE woutA
  constructor
  · split
    · exact hE
    · exact butN_lt hE
  · split
    · exact butN_lt hA
    · exact hA

theorem keepX {W W' : World} {a b c d : Nat} {x0 x1 x2 x3 x4 x5 x6 x7 x8 x9 : Value} (h : W.cell? ⟨a, 0, none⟩ = some x0 ∧ W.cell? ⟨a, 1, none⟩ = some x1 ∧ W.cell? ⟨b, 0, none⟩ = some x2 ∧ W.cell? ⟨b, 1, none⟩ = some x3 ∧
      W.cell? ⟨c, 0, none⟩ = some x4 ∧ W.cell? ⟨c, 1, none⟩ = some x5 ∧ W.cell? ⟨c, 2, none⟩ = some x6 ∧ W.cell? ⟨d, 0, none⟩ = some x7 ∧ W.cell? ⟨d, 1, none⟩ = some x8 ∧ W.cell? ⟨d, 2, none⟩ = some x9) (hb : Below W.heap.size W W') :
    W'.cell? ⟨a, 0, none⟩ = some x0 ∧ W'.cell? ⟨a, 1, none⟩ = some x1 ∧ W'.cell? ⟨b, 0, none⟩ = some x2 ∧ W'.cell? ⟨b, 1, none⟩ = some x3 ∧
      W'.cell? ⟨c, 0, none⟩ = some x4 ∧ W'.cell? ⟨c, 1, none⟩ = some x5 ∧ W'.cell? ⟨c, 2, none⟩ = some x6 ∧ W'.cell? ⟨d, 0, none⟩ = some x7 ∧ W'.cell? ⟨d, 1, none⟩ = some x8 ∧ W'.cell? ⟨d, 2, none⟩ = some x9 := by
  obtain ⟨h0, h1, h2, h3, h4, h5, h6, h7, h8, h9⟩ := h
  exact ⟨cell_below hb h0, cell_below hb h1, cell_below hb h2, cell_below hb h3, cell_below hb h4, cell_below hb h5, cell_below hb h6, cell_below hb h7, cell_below hb h8, cell_below hb h9⟩
end Go.Proofs.Ytjebhhoibofmfaa
