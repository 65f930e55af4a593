import Derived.Test.YtjebhhoibofmfaaEqB
namespace Go.Proofs.Ytjebhhoibofmfaa
open Go.RowKit

/-! A set of literals: two numbers of 64 bits. -/

theorem wrap_u64 {n : Nat} (h : n < 18446744073709551616) : IntKind.u64.wrap (n : Int) = (n : Int) := by
  simp [IntKind.wrap, IntKind.signed, IntKind.bits]
  omega

theorem bv_u64 {n : Nat} (h : n < 18446744073709551616) : (BitVec.ofInt 64 (n : Int)).toNat = n := by
  simp
  omega

theorem bits_or {x y : Nat} (hx : x < 18446744073709551616) (hy : y < 18446744073709551616) : bits .or .u64 (x : Int) (y : Int) = ((x ||| y : Nat) : Int) := by
  show IntKind.u64.wrap ((BitVec.ofInt 64 (x : Int) ||| BitVec.ofInt 64 (y : Int) : BitVec 64).toNat : Int) = _
  rw [BitVec.toNat_or, bv_u64 hx, bv_u64 hy]
  exact wrap_u64 (Nat.or_lt_two_pow (n := 64) hx hy)

theorem bits_and {x y : Nat} (hx : x < 18446744073709551616) (hy : y < 18446744073709551616) : bits .and .u64 (x : Int) (y : Int) = ((x &&& y : Nat) : Int) := by
  show IntKind.u64.wrap ((BitVec.ofInt 64 (x : Int) &&& BitVec.ofInt 64 (y : Int) : BitVec 64).toNat : Int) = _
  rw [BitVec.toNat_and, bv_u64 hx, bv_u64 hy]
  exact wrap_u64 (Nat.lt_of_le_of_lt Nat.and_le_left hx)

/-- x but for what stands in y. -/
def butN (x y : Nat) : Nat := x ^^^ (x &&& y)

theorem butN_bit (x y p : Nat) : (butN x y).testBit p = (x.testBit p && !y.testBit p) := by
  unfold butN
  rw [Nat.testBit_xor, Nat.testBit_and]
  cases x.testBit p <;> cases y.testBit p <;> rfl

theorem butN_lt {x y : Nat} (hx : x < 18446744073709551616) : butN x y < 18446744073709551616 := by
  unfold butN
  exact Nat.xor_lt_two_pow (n := 64) hx (Nat.lt_of_le_of_lt Nat.and_le_left hx)

theorem bits_but {x y : Nat} (hx : x < 18446744073709551616) (hy : y < 18446744073709551616) : bits .andNot .u64 (x : Int) (y : Int) = ((butN x y : Nat) : Int) := by
  have h : (BitVec.ofInt 64 (x : Int) &&& ~~~(BitVec.ofInt 64 (y : Int))).toNat = butN x y := by
    apply Nat.eq_of_testBit_eq
    intro p
    rw [butN_bit, BitVec.toNat_and, Nat.testBit_and, bv_u64 hx]
    by_cases hp : p < 64
    · have : (~~~(BitVec.ofInt 64 (y : Int))).toNat.testBit p = !(y.testBit p) := by
        rw [BitVec.testBit_toNat, BitVec.getLsbD_not, ← BitVec.testBit_toNat, bv_u64 hy]
        simp [hp]
      rw [this]
    · have hx0 : x.testBit p = false := Nat.testBit_lt_two_pow (Nat.lt_of_lt_of_le hx (Nat.pow_le_pow_right (n := 2) (i := 64) (by omega) (by omega)))
      rw [hx0]; rfl
  show IntKind.u64.wrap ((BitVec.ofInt 64 (x : Int) &&& ~~~(BitVec.ofInt 64 (y : Int)) : BitVec 64).toNat : Int) = _
  rw [h]
  exact wrap_u64 (butN_lt hx)

/-- The place of a pair in a set. -/
def tri (l g : Nat) : Nat := g * (g + 1) / 2 + l
def ixN (x y : Int) : Nat := tri (min x.toNat y.toNat) (max x.toNat y.toNat)

theorem tri_le {l g : Nat} (h : l ≤ g) (hg : g ≤ 8) : tri l g ≤ 44 := by
  unfold tri
  have : g = 0 ∨ g = 1 ∨ g = 2 ∨ g = 3 ∨ g = 4 ∨ g = 5 ∨ g = 6 ∨ g = 7 ∨ g = 8 := by omega
  rcases this with rfl | rfl | rfl | rfl | rfl | rfl | rfl | rfl | rfl <;> omega

theorem tri_inj {l g l' g' : Nat} (h : l ≤ g) (hg : g ≤ 8) (h' : l' ≤ g') (hg' : g' ≤ 8) (e : tri l g = tri l' g') : l = l' ∧ g = g' := by
  unfold tri at e
  have : g = 0 ∨ g = 1 ∨ g = 2 ∨ g = 3 ∨ g = 4 ∨ g = 5 ∨ g = 6 ∨ g = 7 ∨ g = 8 := by omega
  have h2 : g' = 0 ∨ g' = 1 ∨ g' = 2 ∨ g' = 3 ∨ g' = 4 ∨ g' = 5 ∨ g' = 6 ∨ g' = 7 ∨ g' = 8 := by omega
  rcases this with rfl | rfl | rfl | rfl | rfl | rfl | rfl | rfl | rfl <;> rcases h2 with rfl | rfl | rfl | rfl | rfl | rfl | rfl | rfl | rfl <;> omega

/-- A literal whose terms are below n. -/
def LowL (n : Int) (t : Lt) : Prop := 0 ≤ t.x ∧ t.x < n ∧ 0 ≤ t.y ∧ t.y < n

theorem ixN_le {x y : Int} (hx : 0 ≤ x) (hx9 : x < 9) (hy : 0 ≤ y) (hy9 : y < 9) : ixN x y ≤ 44 := tri_le (by omega) (by omega)

theorem ixN_comm (x y : Int) : ixN x y = ixN y x := by unfold ixN; rw [Nat.min_comm, Nat.max_comm]

theorem two_lt {k : Nat} (h : k ≤ 44) : 2 ^ k < 18446744073709551616 := Nat.lt_of_le_of_lt (Nat.pow_le_pow_right (by omega) h) (by decide)

theorem two_bit (k p : Nat) : (2 ^ k).testBit p = decide (k = p) := Nat.testBit_two_pow

/-- The literal t stands in the set (e, a). -/
def hasS (e a : Nat) (t : Lt) : Bool := if t.n then a.testBit (ixN t.x t.y) else e.testBit (ixN t.x t.y)

theorem and_two (x k : Nat) : ((x &&& 2 ^ k : Nat) : Int) ≠ 0 ↔ x.testBit k = true := by
  constructor
  · intro h
    cases hb : x.testBit k with
    | true => rfl
    | false =>
      exfalso; apply h
      have : x &&& 2 ^ k = 0 := by
        apply Nat.eq_of_testBit_eq
        intro p
        rw [Nat.testBit_and, two_bit]
        by_cases hp : k = p
        · subst hp; simp [hb]
        · simp [hp]
      rw [this]; rfl
  · intro h h0
    have h1 : x &&& 2 ^ k = 0 := by omega
    have : (x &&& 2 ^ k).testBit k = true := by rw [Nat.testBit_and, two_bit, h]; simp
    rw [h1] at this
    simp at this

theorem and_two_b (x k : Nat) : (((x &&& 2 ^ k : Nat) : Int) != 0) = x.testBit k := by
  rw [Bool.eq_iff_iff, ← and_two]; simp

/-- The bit of a pair. -/
def bitN (x y : Int) : Nat := 2 ^ ixN x y

theorem bitN_lt {x y : Int} (hx : 0 ≤ x) (hx9 : x < 9) (hy : 0 ≤ y) (hy9 : y < 9) : bitN x y < 18446744073709551616 := two_lt (ixN_le hx hx9 hy hy9)

def withE (E : Nat) (t : Lt) : Nat := if t.n then E else E ||| bitN t.x t.y
def withA (A : Nat) (t : Lt) : Nat := if t.n then A ||| bitN t.x t.y else A
def woutE (E : Nat) (t : Lt) : Nat := if t.n then E else butN E (bitN t.x t.y)
def woutA (A : Nat) (t : Lt) : Nat := if t.n then butN A (bitN t.x t.y) else A

theorem frozen_below {w w' : World} {b o : Nat} (hb : Below w.heap.size w w') (hl : b < w.heap.size) (h : w.frozen? ⟨b, o, none⟩ = false) : w'.frozen? ⟨b, o, none⟩ = false := by
  rw [hb.frozen (p := ⟨b, o, none⟩) hl]; exact h

theorem set_same {w : World} {b o : Nat} {v u : Value} (h : w.cell? ⟨b, o, none⟩ = some u) : (w.setCell ⟨b, o, none⟩ v).cell? ⟨b, o, none⟩ = some v := World.cell?_setCell_same _ _ _ h
theorem set_other {w : World} {b o b' o' : Nat} {v u : Value} (hn : b' ≠ b ∨ o' ≠ o) (h : w.cell? ⟨b', o', none⟩ = some u) : (w.setCell ⟨b, o, none⟩ v).cell? ⟨b', o', none⟩ = some u := by
  rw [World.cell?_setCell_other _ _ _ _ (by intro e; injection e with e1 e2; omega)]; exact h
theorem set_frozen {w : World} {b o b' o' : Nat} {v : Value} (h : w.frozen? ⟨b', o', none⟩ = false) : (w.setCell ⟨b, o, none⟩ v).frozen? ⟨b', o', none⟩ = false := by
  rw [World.frozen?_setCell]; exact h

theorem ret_set {e a e' a' : Nat} (h : e = e') (h' : a = a') : Ending.returned (.agg #[.int .u64 e, .int .u64 a]) = .returned (.agg #[.int .u64 e', .int .u64 a']) := by rw [h, h']
end Go.Proofs.Ytjebhhoibofmfaa
