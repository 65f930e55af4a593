import Derived.WalkKit
import Derived.BigQuiet
import Derived.Deep.QuietTactic
namespace Go.Proofs.Ytjebhhoibofmfaa
open Go.RowKit

theorem hide {p : Prop} (h : p) : Hid p := h

def allB (n : Nat) (p : Nat → Bool) : Bool := (List.range n).all p
def anyB (n : Nat) (p : Nat → Bool) : Bool := (List.range n).any p

theorem allB_iff {n : Nat} {p : Nat → Bool} : allB n p = true ↔ ∀ t, t < n → p t = true := by simp [allB, List.all_eq_true]
theorem anyB_iff {n : Nat} {p : Nat → Bool} : anyB n p = true ↔ ∃ t, t < n ∧ p t = true := by simp [anyB, List.any_eq_true]
theorem allB_yes {n : Nat} {p : Nat → Bool} (h : ∀ t, t < n → p t = true) : allB n p = true := allB_iff.2 h
theorem allB_no {n : Nat} {p : Nat → Bool} (t : Nat) (ht : t < n) (h : p t = false) : allB n p = false := by
  cases hh : allB n p
  · rfl
  · have := allB_iff.1 hh t ht; rw [h] at this; cases this
theorem anyB_yes {n : Nat} {p : Nat → Bool} (t : Nat) (ht : t < n) (h : p t = true) : anyB n p = true := anyB_iff.2 ⟨t, ht, h⟩
theorem anyB_no {n : Nat} {p : Nat → Bool} (h : ∀ t, t < n → p t = false) : anyB n p = false := by
  cases hh : anyB n p
  · rfl
  · obtain ⟨t, ht, h1⟩ := anyB_iff.1 hh; rw [h t ht] at h1; cases h1
/-- One round more. -/
theorem upto_succ {k : Nat} {p : Nat → Prop} (h : ∀ t, t < k → p t) (hk : p k) : ∀ t, t < k + 1 → p t := by
  intro t ht
  rcases Nat.lt_succ_iff_lt_or_eq.1 ht with h1 | h1
  · exact h t h1
  · rw [h1]; exact hk

/-- A term as it lies in memory: its symbol; where its args lie, their room, what they are. -/
structure Tm where
  sym : Int
  a : Option Addr
  cap : Nat
  args : List Int

def tm0 : Tm := ⟨0, none, 0, []⟩

/-- A slice of ints at address a reads as xs. -/
def IntsAt (w : World) (a : Option Addr) (xs : List Int) : Prop :=
  xs = [] ∨ ∃ b o, a = some ⟨b, o, none⟩ ∧ ∀ i, i < xs.length → w.cell? ⟨b, o + i, none⟩ = some (.int .i64 (xs.getD i 0))

/-- A slice of terms at address a reads as ts. -/
def TermsAt (w : World) (a : Option Addr) (ts : List Tm) : Prop :=
  ts = [] ∨ ∃ b o, a = some ⟨b, o, none⟩ ∧ ∀ i, i < ts.length →
    w.cell? ⟨b, o + i * 2, none⟩ = some (.int .i64 (ts.getD i tm0).sym) ∧
    w.cell? ⟨b, o + i * 2 + 1, none⟩ = some (.slice (ts.getD i tm0).a (ts.getD i tm0).args.length (ts.getD i tm0).cap) ∧
    IntsAt w (ts.getD i tm0).a (ts.getD i tm0).args

theorem block_lt {w : World} {b o : Nat} {v : Value} (h : w.cell? ⟨b, o, none⟩ = some v) : b < w.heap.size := World.block_lt_of_cell? w ⟨b, o, none⟩ h

theorem IntsAt.below {w w' : World} {a : Option Addr} {xs : List Int} (h : IntsAt w a xs) (hb : Below w.heap.size w w') : IntsAt w' a xs := by
  rcases h with h | ⟨b, o, rfl, h⟩
  · exact .inl h
  · refine .inr ⟨b, o, rfl, fun i hi => ?_⟩
    have hc := h i hi
    rw [hb.cell (p := ⟨b, o + i, none⟩) (block_lt hc)]
    exact hc

theorem TermsAt.below {w w' : World} {a : Option Addr} {ts : List Tm} (h : TermsAt w a ts) (hb : Below w.heap.size w w') : TermsAt w' a ts := by
  rcases h with h | ⟨b, o, rfl, h⟩
  · exact .inl h
  · refine .inr ⟨b, o, rfl, fun i hi => ?_⟩
    obtain ⟨h1, h2, h3⟩ := h i hi
    refine ⟨?_, ?_, h3.below hb⟩
    · rw [hb.cell (p := ⟨b, o + i * 2, none⟩) (block_lt h1)]; exact h1
    · rw [hb.cell (p := ⟨b, o + i * 2 + 1, none⟩) (block_lt h2)]; exact h2

/-- An element of ints that are there. -/
theorem IntsAt.get {w : World} {a : Option Addr} {xs : List Int} (h : IntsAt w a xs) {i : Nat} (hi : i < xs.length) :
    ∃ b o, a = some ⟨b, o, none⟩ ∧ ∀ i, i < xs.length → w.cell? ⟨b, o + i, none⟩ = some (.int .i64 (xs.getD i 0)) := by
  rcases h with h | h
  · subst h; simp at hi
  · exact h

theorem TermsAt.get {w : World} {a : Option Addr} {ts : List Tm} (h : TermsAt w a ts) {i : Nat} (hi : i < ts.length) :
    ∃ b o, a = some ⟨b, o, none⟩ ∧ ∀ i, i < ts.length →
    w.cell? ⟨b, o + i * 2, none⟩ = some (.int .i64 (ts.getD i tm0).sym) ∧
    w.cell? ⟨b, o + i * 2 + 1, none⟩ = some (.slice (ts.getD i tm0).a (ts.getD i tm0).args.length (ts.getD i tm0).cap) ∧
    IntsAt w (ts.getD i tm0).a (ts.getD i tm0).args := by
  rcases h with h | h
  · subst h; simp at hi
  · exact h

/-- A literal; a clause as it lies in memory. -/
structure Lt where
  x : Int
  y : Int
  n : Bool

def lt0 : Lt := ⟨0, 0, false⟩

structure Cl where
  a : Option Addr
  cap : Nat
  ls : List Lt

def cl0 : Cl := ⟨none, 0, []⟩

def LitsAt (w : World) (a : Option Addr) (ls : List Lt) : Prop :=
  ls = [] ∨ ∃ b o, a = some ⟨b, o, none⟩ ∧ ∀ i, i < ls.length →
    w.cell? ⟨b, o + i * 3, none⟩ = some (.int .i64 (ls.getD i lt0).x) ∧ w.cell? ⟨b, o + i * 3 + 1, none⟩ = some (.int .i64 (ls.getD i lt0).y) ∧ w.cell? ⟨b, o + i * 3 + 2, none⟩ = some (.bool (ls.getD i lt0).n)

def ClausesAt (w : World) (a : Option Addr) (cs : List Cl) : Prop :=
  cs = [] ∨ ∃ b o, a = some ⟨b, o, none⟩ ∧ ∀ i, i < cs.length →
    w.cell? ⟨b, o + i, none⟩ = some (.slice (cs.getD i cl0).a (cs.getD i cl0).ls.length (cs.getD i cl0).cap) ∧ LitsAt w (cs.getD i cl0).a (cs.getD i cl0).ls

theorem cell_below {w w' : World} {b o : Nat} {v : Value} (hb : Below w.heap.size w w') (h : w.cell? ⟨b, o, none⟩ = some v) : w'.cell? ⟨b, o, none⟩ = some v := by
  rw [hb.cell (p := ⟨b, o, none⟩) (block_lt h)]; exact h

theorem LitsAt.below {w w' : World} {a : Option Addr} {ls : List Lt} (h : LitsAt w a ls) (hb : Below w.heap.size w w') : LitsAt w' a ls := by
  rcases h with h | ⟨b, o, rfl, h⟩
  · exact .inl h
  · refine .inr ⟨b, o, rfl, fun i hi => ?_⟩
    obtain ⟨h1, h2, h3⟩ := h i hi
    exact ⟨cell_below hb h1, cell_below hb h2, cell_below hb h3⟩

theorem ClausesAt.below {w w' : World} {a : Option Addr} {cs : List Cl} (h : ClausesAt w a cs) (hb : Below w.heap.size w w') : ClausesAt w' a cs := by
  rcases h with h | ⟨b, o, rfl, h⟩
  · exact .inl h
  · refine .inr ⟨b, o, rfl, fun i hi => ?_⟩
    obtain ⟨h1, h2⟩ := h i hi
    exact ⟨cell_below hb h1, h2.below hb⟩

theorem LitsAt.get {w : World} {a : Option Addr} {ls : List Lt} (h : LitsAt w a ls) {i : Nat} (hi : i < ls.length) :
    ∃ b o, a = some ⟨b, o, none⟩ ∧ ∀ i, i < ls.length →
    w.cell? ⟨b, o + i * 3, none⟩ = some (.int .i64 (ls.getD i lt0).x) ∧ w.cell? ⟨b, o + i * 3 + 1, none⟩ = some (.int .i64 (ls.getD i lt0).y) ∧ w.cell? ⟨b, o + i * 3 + 2, none⟩ = some (.bool (ls.getD i lt0).n) := by
  rcases h with h | h
  · subst h; simp at hi
  · exact h

theorem ClausesAt.get {w : World} {a : Option Addr} {cs : List Cl} (h : ClausesAt w a cs) {i : Nat} (hi : i < cs.length) :
    ∃ b o, a = some ⟨b, o, none⟩ ∧ ∀ i, i < cs.length →
    w.cell? ⟨b, o + i, none⟩ = some (.slice (cs.getD i cl0).a (cs.getD i cl0).ls.length (cs.getD i cl0).cap) ∧ LitsAt w (cs.getD i cl0).a (cs.getD i cl0).ls := by
  rcases h with h | h
  · subst h; simp at hi
  · exact h

/-- A world in which nothing that was there has turned. -/
structure Up (w : World) where
  world : World
  above : Below w.heap.size w world

theorem Up.cell {w : World} (u : Up w) {b o : Nat} {v : Value} (h : w.cell? ⟨b, o, none⟩ = some v) : u.world.cell? ⟨b, o, none⟩ = some v := by
  rw [u.above.cell (p := ⟨b, o, none⟩) (block_lt h)]; exact h

/-- A region that draws its order, whose operations only read what was there and whose callees turn nothing that was there: one walk. -/
theorem wp_region_up {P : Program} {id : Nat} {Q : Exit → Act → World → Prop} {a : Act} {w : World} {l : List Oper} (hm : P.follows .mixedOrders = true) (hB : Region.lexB .any l.toArray = true)
    (h : wpQuiet P l.toArray (fun w' => ∃ u : Up w, w' = u.world) (fun a' => ∀ w', (∃ u : Up w, w' = u.world) → Q .normal a' w') l a) : (Code.region id l.toArray true).wp P Q a w :=
  wp_region_quiet (C := fun w' => ∃ u : Up w, w' = u.world) hm hB ⟨⟨w.drew, (Below.refl _ _).drew⟩, rfl⟩ (by simpa using h)

theorem calls_up {P : Program} {f : FuncId} {args : Array Value} {w : World} {u : Up w} {v : Value}
    (h : Calls P f args u.world fun e w' => e = .returned v ∧ Below u.world.heap.size u.world w') : Calls P f args u.world fun e w'' => e = .returned v ∧ ∃ u' : Up w, w'' = u'.world :=
  h.mono fun _ w' ⟨he, hb⟩ => ⟨he, ⟨w', u.above.trans (hb.mono u.above.size)⟩, rfl⟩

end Go.Proofs.Ytjebhhoibofmfaa
