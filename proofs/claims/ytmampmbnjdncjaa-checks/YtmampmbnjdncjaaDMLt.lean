import Derived.Test.YtmampmbnjdncjaaDMEq
import Derived.Deep.RegionHeld3
namespace Go.Proofs.Ytmampmbnjdncjaa
open Go.RowKit
theorem wrap_u64 {n : Nat} (h : n < 18446744073709551616) : IntKind.u64.wrap (n : Int) = (n : Int) := by
  simp [IntKind.wrap, IntKind.signed, IntKind.bits]
  omega
theorem bv_u64 {n : Nat} (h : n < 18446744073709551616) : (BitVec.ofInt 64 (n : Int)).toNat = n := by
  simp
  omega
theorem bits_or {x y : Nat} (hx : x < 18446744073709551616) (hy : y < 18446744073709551616) : bits .or .u64 (x : Int) (y : Int) = ((x ||| y : Nat) : Int) := by
  show IntKind.u64.wrap ((BitVec.ofInt 64 (x : Int) ||| BitVec.ofInt 64 (y : Int) : BitVec 64).toNat : Int) = _
  rw [BitVec.toNat_or, bv_u64 hx, bv_u64 hy]
  exact wrap_u64 (Nat.or_lt_two_pow (n := 64) hx hy)
theorem bits_and {x y : Nat} (hx : x < 18446744073709551616) (hy : y < 18446744073709551616) : bits .and .u64 (x : Int) (y : Int) = ((x &&& y : Nat) : Int) := by
  show IntKind.u64.wrap ((BitVec.ofInt 64 (x : Int) &&& BitVec.ofInt 64 (y : Int) : BitVec 64).toNat : Int) = _
  rw [BitVec.toNat_and, bv_u64 hx, bv_u64 hy]
  exact wrap_u64 (Nat.lt_of_le_of_lt Nat.and_le_left hx)
def butN (x y : Nat) : Nat := x ^^^ (x &&& y)
theorem butN_bit (x y p : Nat) : (butN x y).testBit p = (x.testBit p && !y.testBit p) := by
  unfold butN
  rw [Nat.testBit_xor, Nat.testBit_and]
  cases x.testBit p <;> cases y.testBit p <;> rfl
theorem butN_lt {x y : Nat} (hx : x < 18446744073709551616) : butN x y < 18446744073709551616 := by
  unfold butN
  exact Nat.xor_lt_two_pow (n := 64) hx (Nat.lt_of_le_of_lt Nat.and_le_left hx)
theorem bits_but {x y : Nat} (hx : x < 18446744073709551616) (hy : y < 18446744073709551616) : bits .andNot .u64 (x : Int) (y : Int) = ((butN x y : Nat) : Int) := by
  have h : (BitVec.ofInt 64 (x : Int) &&& ~~~(BitVec.ofInt 64 (y : Int))).toNat = butN x y := by
    apply Nat.eq_of_testBit_eq
    intro p
    rw [butN_bit, BitVec.toNat_and, Nat.testBit_and, bv_u64 hx]
    by_cases hp : p < 64
    · have : (~~~(BitVec.ofInt 64 (y : Int))).toNat.testBit p = !(y.testBit p) := by
        rw [BitVec.testBit_toNat, BitVec.getLsbD_not, ← BitVec.testBit_toNat, bv_u64 hy]
        simp [hp]
      rw [this]
    · have hx0 : x.testBit p = false := Nat.testBit_lt_two_pow (Nat.lt_of_lt_of_le hx (Nat.pow_le_pow_right (n := 2) (i := 64) (by omega) (by omega)))
      rw [hx0]; rfl
  show IntKind.u64.wrap ((BitVec.ofInt 64 (x : Int) &&& ~~~(BitVec.ofInt 64 (y : Int)) : BitVec 64).toNat : Int) = _
  rw [h]
  exact wrap_u64 (butN_lt hx)
def tri (l g : Nat) : Nat := g * (g + 1) / 2 + l
def ixN (x y : Int) : Nat := tri (min x.toNat y.toNat) (max x.toNat y.toNat)
theorem tri_le {l g : Nat} (h : l ≤ g) (hg : g ≤ 8) : tri l g ≤ 44 := by
  unfold tri
  have : g = 0 ∨ g = 1 ∨ g = 2 ∨ g = 3 ∨ g = 4 ∨ g = 5 ∨ g = 6 ∨ g = 7 ∨ g = 8 := by omega
  rcases this with rfl | rfl | rfl | rfl | rfl | rfl | rfl | rfl | rfl <;> omega
theorem tri_inj {l g l' g' : Nat} (h : l ≤ g) (hg : g ≤ 8) (h' : l' ≤ g') (hg' : g' ≤ 8) (e : tri l g = tri l' g') : l = l' ∧ g = g' := by
  unfold tri at e
  have : g = 0 ∨ g = 1 ∨ g = 2 ∨ g = 3 ∨ g = 4 ∨ g = 5 ∨ g = 6 ∨ g = 7 ∨ g = 8 := by omega
  have h2 : g' = 0 ∨ g' = 1 ∨ g' = 2 ∨ g' = 3 ∨ g' = 4 ∨ g' = 5 ∨ g' = 6 ∨ g' = 7 ∨ g' = 8 := by omega
  rcases this with rfl | rfl | rfl | rfl | rfl | rfl | rfl | rfl | rfl <;> rcases h2 with rfl | rfl | rfl | rfl | rfl | rfl | rfl | rfl | rfl <;> omega
def LowL (n : Int) (t : Lt) : Prop := 0 ≤ t.x ∧ t.x < n ∧ 0 ≤ t.y ∧ t.y < n
theorem ixN_le {x y : Int} (hx : 0 ≤ x) (hx9 : x < 9) (hy : 0 ≤ y) (hy9 : y < 9) : ixN x y ≤ 44 := tri_le (by omega) (by omega)
theorem two_lt {k : Nat} (h : k ≤ 44) : 2 ^ k < 18446744073709551616 := Nat.lt_of_le_of_lt (Nat.pow_le_pow_right (by omega) h) (by decide)
theorem two_bit (k p : Nat) : (2 ^ k).testBit p = decide (k = p) := Nat.testBit_two_pow
def hasS (e a : Nat) (t : Lt) : Bool := if t.n then a.testBit (ixN t.x t.y) else e.testBit (ixN t.x t.y)
theorem and_two (x k : Nat) : ((x &&& 2 ^ k : Nat) : Int) ≠ 0 ↔ x.testBit k = true := by
  constructor
  · intro h
    cases hb : x.testBit k with
    | true => rfl
    | false =>
      exfalso; apply h
      have : x &&& 2 ^ k = 0 := by
        apply Nat.eq_of_testBit_eq
        intro p
        rw [Nat.testBit_and, two_bit]
        by_cases hp : k = p
        · subst hp; simp [hb]
        · simp [hp]
      rw [this]; rfl
  · intro h h0
    have h1 : x &&& 2 ^ k = 0 := by omega
    have : (x &&& 2 ^ k).testBit k = true := by rw [Nat.testBit_and, two_bit, h]; simp
    rw [h1] at this
    simp at this
theorem and_two_b (x k : Nat) : (((x &&& 2 ^ k : Nat) : Int) != 0) = x.testBit k := by
  rw [Bool.eq_iff_iff, ← and_two]; simp
def bitN (x y : Int) : Nat := 2 ^ ixN x y
theorem bitN_lt {x y : Int} (hx : 0 ≤ x) (hx9 : x < 9) (hy : 0 ≤ y) (hy9 : y < 9) : bitN x y < 18446744073709551616 := two_lt (ixN_le hx hx9 hy hy9)
def withE (E : Nat) (t : Lt) : Nat := if t.n then E else E ||| bitN t.x t.y
def withA (A : Nat) (t : Lt) : Nat := if t.n then A ||| bitN t.x t.y else A
def woutE (E : Nat) (t : Lt) : Nat := if t.n then E else butN E (bitN t.x t.y)
def woutA (A : Nat) (t : Lt) : Nat := if t.n then butN A (bitN t.x t.y) else A
theorem frozen_below {w w' : World} {b o : Nat} (hb : Below w.heap.size w w') (hl : b < w.heap.size) (h : w.frozen? ⟨b, o, none⟩ = false) : w'.frozen? ⟨b, o, none⟩ = false := by
  rw [hb.frozen (p := ⟨b, o, none⟩) hl]; exact h
theorem set_same {w : World} {b o : Nat} {v u : Value} (h : w.cell? ⟨b, o, none⟩ = some u) : (w.setCell ⟨b, o, none⟩ v).cell? ⟨b, o, none⟩ = some v := World.cell?_setCell_same _ _ _ h
theorem set_other {w : World} {b o b' o' : Nat} {v u : Value} (hn : b' ≠ b ∨ o' ≠ o) (h : w.cell? ⟨b', o', none⟩ = some u) : (w.setCell ⟨b, o, none⟩ v).cell? ⟨b', o', none⟩ = some u := by
  rw [World.cell?_setCell_other _ _ _ _ (by intro e; injection e with e1 e2; omega)]; exact h
theorem set_frozen {w : World} {b o b' o' : Nat} {v : Value} (h : w.frozen? ⟨b', o', none⟩ = false) : (w.setCell ⟨b, o, none⟩ v).frozen? ⟨b', o', none⟩ = false := by
  rw [World.frozen?_setCell]; exact h
theorem ret_set {e a e' a' : Nat} (h : e = e') (h' : a = a') : Ending.returned (.agg #[.int .u64 e, .int .u64 a]) = .returned (.agg #[.int .u64 e', .int .u64 a']) := by rw [h, h']
end Go.Proofs.Ytmampmbnjdncjaa
namespace Go.Proofs.Ytmampmbnjdncjaa
open Go.RowKit
theorem ret_two {k : Nat} {x y : Int} (h : k ≤ 44) (e : ixN x y = k) : Ending.returned (.int .u64 (IntKind.u64.wrap (2 ^ k))) = .returned (.int .u64 ((bitN x y : Nat) : Int)) := by
  unfold bitN
  rw [e]
  have := wrap_u64 (two_lt h)
  rw [show ((2 ^ k : Nat) : Int) = (2 : Int) ^ k from by norm_cast] at this
  rw [this]; norm_cast
set_option maxHeartbeats 1000000 in
theorem bit_any (x y : Int) (n : Bool) (w : World) (hx : 0 ≤ x) (hx9 : x < 9) (hy : 0 ≤ y) (hy9 : y < 9) :
    Calls Try.prog 77 #[.agg #[.int .i64 x, .int .i64 y, .bool n]] w fun e w' => e = .returned (.int .u64 (bitN x y : Nat)) ∧ Below w.heap.size w w' := by
  have hb0 : Below w.heap.size w (w.alloc (.cells #[.int .i64 x, .int .i64 y, .bool n] 50)) := (Below.refl _ _).alloc (Nat.le_refl _) _
  go_enter Try.func77, Try.ntmps77
  go_upto_region 1 with fail
  go_cut [3, 4] (fun s3 s4 wx => s3 = .int .i64 (min x y) ∧ s4 = .int .i64 (max x y) ∧ ∃ n', wx = (w.alloc (.cells #[.int .i64 x, .int .i64 y, .bool n] 50)).drewN n')
  case first =>
    by_cases hxy : x < y
    · have h2 : ¬ y < x := by omega
      go_region
      all_goals (go_wp2_with fail; go_meet; exact ⟨by congr 1; omega, by congr 1; omega, 1, rfl⟩)
    · by_cases h2 : y < x
      · go_region
        all_goals (go_wp2_with fail; go_meet; exact ⟨by congr 1; omega, by congr 1; omega, 1, rfl⟩)
      · go_region
        all_goals (go_wp2_with fail; go_meet; exact ⟨by congr 1; omega, by congr 1; omega, 1, rfl⟩)
  case rest =>
    obtain ⟨rfl, rfl, n', rfl⟩ := hcut
    have h1 : 0 ≤ min x y := by omega
    have h2 : max x y ≤ 8 := by omega
    have h3 : min x y ≤ max x y := by omega
    have Hix : Hid (ixN x y = tri (min x y).toNat (max x y).toNat) := by show ixN x y = _; unfold ixN; congr 1 <;> omega
    have hb1 := below_drewN hb0 n'
    generalize min x y = l at *
    generalize max x y = g at *
    clear hb0
    obtain ⟨l, rfl⟩ := Int.eq_ofNat_of_zero_le h1
    obtain ⟨g, rfl⟩ := Int.eq_ofNat_of_zero_le (show 0 ≤ g by omega)
    have hg : g = 0 ∨ g = 1 ∨ g = 2 ∨ g = 3 ∨ g = 4 ∨ g = 5 ∨ g = 6 ∨ g = 7 ∨ g = 8 := by omega
    rcases hg with rfl | rfl | rfl | rfl | rfl | rfl | rfl | rfl | rfl
    all_goals
      go_wp2_with fail
      go_ret
      exact ⟨ret_two (by omega) (by rw [Hix.out]; simp [tri]), hb1⟩
end Go.Proofs.Ytmampmbnjdncjaa
namespace Go.Proofs.Ytmampmbnjdncjaa
open Go.RowKit
set_option maxHeartbeats 1000000 in
theorem with_any (x y : Int) (n : Bool) (E A : Nat) (w : World) (hx : 0 ≤ x) (hx9 : x < 9) (hy : 0 ≤ y) (hy9 : y < 9) (hE : E < 18446744073709551616) (hA : A < 18446744073709551616) :
    Calls Try.prog 91 #[.agg #[.int .u64 E, .int .u64 A], .agg #[.int .i64 x, .int .i64 y, .bool n]] w fun e w' => e = .returned (.agg #[.int .u64 (withE E ⟨x, y, n⟩ : Nat), .int .u64 (withA A ⟨x, y, n⟩ : Nat)]) ∧ Below w.heap.size w w' := by
  have e1 := bits_or hE (bitN_lt hx hx9 hy hy9)
  have e2 := bits_or hA (bitN_lt hx hx9 hy hy9)
  have HE0 : Hid (withE E ⟨x, y, false⟩ = (E ||| bitN x y)) := rfl
  have HA0 : Hid (withA A ⟨x, y, false⟩ = A) := rfl
  have HE1 : Hid (withE E ⟨x, y, true⟩ = E) := rfl
  have HA1 : Hid (withA A ⟨x, y, true⟩ = (A ||| bitN x y)) := rfl
  generalize (E ||| bitN x y) = P at *
  generalize (A ||| bitN x y) = Q at *
  obtain ⟨W2, hW2⟩ : ∃ W2, W2 = (w.alloc (.cells #[.int .u64 E, .int .u64 A] 80)).alloc (.cells #[.int .i64 x, .int .i64 y, .bool n] 50) := ⟨_, rfl⟩
  have hs2 : W2.heap.size = w.heap.size + 1 + 1 := by rw [hW2]; simp
  have c0 : W2.cell? ⟨w.heap.size, 0, none⟩ = some (.int .u64 E) := by rw [hW2]; simp
  have c1 : W2.cell? ⟨w.heap.size, 1, none⟩ = some (.int .u64 A) := by rw [hW2]; simp
  have f0 : W2.frozen? ⟨w.heap.size, 0, none⟩ = false := by rw [hW2]; simp
  have f1 : W2.frozen? ⟨w.heap.size, 1, none⟩ = false := by rw [hW2]; simp
  have l0 : W2.cell? ⟨w.heap.size + 1, 0, none⟩ = some (.int .i64 x) := by rw [hW2]; simp
  have l1 : W2.cell? ⟨w.heap.size + 1, 1, none⟩ = some (.int .i64 y) := by rw [hW2]; simp
  have l2 : W2.cell? ⟨w.heap.size + 1, 2, none⟩ = some (.bool n) := by rw [hW2]; simp
  have hb2 : Below w.heap.size w W2 := by rw [hW2]; exact ((Below.refl _ _).alloc (Nat.le_refl _) _).alloc (by simp) _
  obtain ⟨W, hW⟩ : ∃ W, W = W2.alloc (.cells #[.int .u64 0, .int .u64 0] 80) := ⟨_, rfl⟩
  have hbW : Below W2.heap.size W2 W := by rw [hW]; exact (Below.refl _ _).alloc (Nat.le_refl _) _
  have hs : W.heap.size = w.heap.size + 3 := by rw [hW]; simp [hs2]
  replace c0 := cell_below hbW c0
  replace c1 := cell_below hbW c1
  replace l0 := cell_below hbW l0
  replace l1 := cell_below hbW l1
  replace l2 := cell_below hbW l2
  replace f0 := frozen_below hbW (by omega) f0
  replace f1 := frozen_below hbW (by omega) f1
  have r0 : W.cell? ⟨w.heap.size + 1 + 1, 0, none⟩ = some (.int .u64 0) := by rw [hW, ← hs2]; simp
  have r1 : W.cell? ⟨w.heap.size + 1 + 1, 1, none⟩ = some (.int .u64 0) := by rw [hW, ← hs2]; simp
  have g0 : W.frozen? ⟨w.heap.size + 1 + 1, 0, none⟩ = false := by rw [hW, ← hs2]; simp
  have g1 : W.frozen? ⟨w.heap.size + 1 + 1, 1, none⟩ = false := by rw [hW, ← hs2]; simp
  have hb0 : Below w.heap.size w W := hb2.trans (hbW.mono (by omega))
  have hw3 : W = ((w.alloc (.cells #[.int .u64 E, .int .u64 A] 80)).alloc (.cells #[.int .i64 x, .int .i64 y, .bool n] 50)).alloc (.cells #[.int .u64 0, .int .u64 0] 80) := by rw [hW, hW2]
  clear hW hW2 hbW hb2 hs2
  cases n
  · go_enter Try.func91, Try.ntmps91
    go_upto_region 3 with fail
    rw [← hw3]
    clear hw3
    go_cut [4] (fun s wx => s = .pointer (some ⟨w.heap.size + 1 + 1, 0, none⟩) ∧ wx.cell? ⟨w.heap.size, 0, none⟩ = some (.int .u64 P) ∧ wx.cell? ⟨w.heap.size, 1, none⟩ = some (.int .u64 A) ∧
      wx.cell? ⟨w.heap.size + 1 + 1, 0, none⟩ = some (.int .u64 0) ∧ wx.cell? ⟨w.heap.size + 1 + 1, 1, none⟩ = some (.int .u64 0) ∧
      wx.frozen? ⟨w.heap.size + 1 + 1, 0, none⟩ = false ∧ wx.frozen? ⟨w.heap.size + 1 + 1, 1, none⟩ = false ∧ Below w.heap.size w wx)
    case first =>
      go_region_with (go_at_call 77; refine (bit_any _ _ _ _ hx hx9 hy hy9).mono ?_; rintro e w' ⟨rfl, hb⟩; have q0 := cell_below hb c0; have q1 := cell_below hb c1; have q2 := frozen_below hb (Nat.lt_of_lt_of_le (by omega) (Nat.le_of_eq hs.symm)) f0; have q3 := frozen_below hb (Nat.lt_of_lt_of_le (by omega) (Nat.le_of_eq hs.symm)) f1)
      all_goals
        go_wp2_with fail
        go_meet
        have z0 := cell_below hb r0
        have z1 := cell_below hb r1
        have z2 := frozen_below hb (Nat.lt_of_lt_of_le (by omega) (Nat.le_of_eq hs.symm)) g0
        have z3 := frozen_below hb (Nat.lt_of_lt_of_le (by omega) (Nat.le_of_eq hs.symm)) g1
        exact ⟨rfl, set_same q0, set_other (by omega) q1, set_other (by omega) z0, set_other (by omega) z1, set_frozen z2, set_frozen z3, ((hb0.trans ((Below.refl W.heap.size W).drew.mono hb0.size)).trans (hb.mono hb0.size)).setCell (Nat.le_refl _) _⟩
    case rest =>
      obtain ⟨rfl, k0, k1, k2, k3, k4, k5, hbc⟩ := hcut
      go_wp2_with fail
      exact bodyPost_ret (v := .agg #[.int .u64 P, .int .u64 A]) (by simp [results, Try.results91, go_sem, k2, k3]) rfl ⟨ret_set HE0.out.symm HA0.out.symm, (hbc.setCell (p := ⟨w.heap.size + 1 + 1, 0, none⟩) (by show _ ≤ _ + 1 + 1; omega) _).setCell (p := ⟨w.heap.size + 1 + 1, 1, none⟩) (by show _ ≤ _ + 1 + 1; omega) _⟩
  · go_enter Try.func91, Try.ntmps91
    go_upto_region 2 with fail
    rw [← hw3]
    clear hw3
    go_cut [4] (fun s wx => s = .pointer (some ⟨w.heap.size + 1 + 1, 0, none⟩) ∧ wx.cell? ⟨w.heap.size, 0, none⟩ = some (.int .u64 E) ∧ wx.cell? ⟨w.heap.size, 1, none⟩ = some (.int .u64 Q) ∧
      wx.cell? ⟨w.heap.size + 1 + 1, 0, none⟩ = some (.int .u64 0) ∧ wx.cell? ⟨w.heap.size + 1 + 1, 1, none⟩ = some (.int .u64 0) ∧
      wx.frozen? ⟨w.heap.size + 1 + 1, 0, none⟩ = false ∧ wx.frozen? ⟨w.heap.size + 1 + 1, 1, none⟩ = false ∧ Below w.heap.size w wx)
    case first =>
      go_region_with (go_at_call 77; refine (bit_any _ _ _ _ hx hx9 hy hy9).mono ?_; rintro e w' ⟨rfl, hb⟩; have q0 := cell_below hb c0; have q1 := cell_below hb c1; have q2 := frozen_below hb (Nat.lt_of_lt_of_le (by omega) (Nat.le_of_eq hs.symm)) f0; have q3 := frozen_below hb (Nat.lt_of_lt_of_le (by omega) (Nat.le_of_eq hs.symm)) f1)
      all_goals
        go_wp2_with fail
        go_meet
        have z0 := cell_below hb r0
        have z1 := cell_below hb r1
        have z2 := frozen_below hb (Nat.lt_of_lt_of_le (by omega) (Nat.le_of_eq hs.symm)) g0
        have z3 := frozen_below hb (Nat.lt_of_lt_of_le (by omega) (Nat.le_of_eq hs.symm)) g1
        exact ⟨rfl, set_other (by omega) q0, set_same q1, set_other (by omega) z0, set_other (by omega) z1, set_frozen z2, set_frozen z3, ((hb0.trans ((Below.refl W.heap.size W).drew.mono hb0.size)).trans (hb.mono hb0.size)).setCell (Nat.le_refl _) _⟩
    case rest =>
      obtain ⟨rfl, k0, k1, k2, k3, k4, k5, hbc⟩ := hcut
      go_wp2_with fail
      exact bodyPost_ret (v := .agg #[.int .u64 E, .int .u64 Q]) (by simp [results, Try.results91, go_sem, k2, k3]) rfl ⟨ret_set HE1.out.symm HA1.out.symm, (hbc.setCell (p := ⟨w.heap.size + 1 + 1, 0, none⟩) (by show _ ≤ _ + 1 + 1; omega) _).setCell (p := ⟨w.heap.size + 1 + 1, 1, none⟩) (by show _ ≤ _ + 1 + 1; omega) _⟩
end Go.Proofs.Ytmampmbnjdncjaa
namespace Go.Proofs.Ytmampmbnjdncjaa
open Go.RowKit
set_option maxHeartbeats 400000 in
theorem union_any (E A F B : Nat) (w : World) (hE : E < 18446744073709551616) (hA : A < 18446744073709551616) (hF : F < 18446744073709551616) (hB : B < 18446744073709551616) :
    Calls Try.prog 93 #[.agg #[.int .u64 E, .int .u64 A], .agg #[.int .u64 F, .int .u64 B]] w fun e w' => e = .returned (.agg #[.int .u64 (E ||| F : Nat), .int .u64 (A ||| B : Nat)]) ∧ Below w.heap.size w w' := by
  have e1 := bits_or hE hF
  have e2 := bits_or hA hB
  generalize E ||| F = P at *
  generalize A ||| B = Q at *
  go_enter Try.func93, Try.ntmps93
  go_wp2_with fail
  refine bodyPost_ret (v := .agg #[.int .u64 P, .int .u64 Q]) (by simp [results, Try.results93, go_sem]) rfl ⟨rfl, ?_⟩
  refine Below.alloc (Below.alloc (Below.alloc (Below.refl _ _) (Nat.le_refl _) _) ?_ _) ?_ _
  · simp
  · simp; omega
def emptyB (E A : Nat) : Bool := decide (E = 0) && decide (A = 0)
set_option maxHeartbeats 400000 in
theorem isEmpty_any (E A : Nat) (w : World) :
    Calls Try.prog 41 #[.agg #[.int .u64 E, .int .u64 A]] w fun e w' => e = .returned (.bool (emptyB E A)) ∧ Below w.heap.size w w' := by
  have hb0 : Below w.heap.size w (w.alloc (.cells #[.int .u64 E, .int .u64 A] 80)) := (Below.refl _ _).alloc (Nat.le_refl _) _
  by_cases h : E = 0
  · by_cases h' : A = 0
    · subst h; subst h'
      go_enter Try.func41, Try.ntmps41
      go_wp2_with fail
      go_ret
      exact ⟨ret_bool (by simp [emptyB]), hb0⟩
    · subst h
      go_enter Try.func41, Try.ntmps41
      go_wp2_with fail
      go_ret
      exact ⟨ret_bool (by simp [emptyB, h']), hb0⟩
  · go_enter Try.func41, Try.ntmps41
    go_wp2_with fail
    go_ret
    exact ⟨ret_bool (by simp [emptyB, h]), hb0⟩
set_option maxHeartbeats 400000 in
theorem equal_any (x y : Int) (w : World) :
    Calls Try.prog 89 #[.int .i64 x, .int .i64 y] w fun e w' => e = .returned (.agg #[.int .i64 x, .int .i64 y, .bool false]) ∧ Below w.heap.size w w' := by
  go_enter Try.func89, Try.ntmps89
  go_wp2_with fail
  refine bodyPost_ret (v := .agg #[.int .i64 x, .int .i64 y, .bool false]) (by simp [results, Try.results89, go_sem]) rfl ⟨rfl, ?_⟩
  exact (Below.refl _ _).alloc (Nat.le_refl _) _
set_option maxHeartbeats 400000 in
theorem apart_any (x y : Int) (w : World) :
    Calls Try.prog 90 #[.int .i64 x, .int .i64 y] w fun e w' => e = .returned (.agg #[.int .i64 x, .int .i64 y, .bool true]) ∧ Below w.heap.size w w' := by
  go_enter Try.func90, Try.ntmps90
  go_wp2_with fail
  refine bodyPost_ret (v := .agg #[.int .i64 x, .int .i64 y, .bool true]) (by simp [results, Try.results90, go_sem]) rfl ⟨rfl, ?_⟩
  exact (Below.refl _ _).alloc (Nat.le_refl _) _
def allLow (n : Int) (xs : List Int) : Bool := allB xs.length fun k => belowB (xs.getD k 0) n
def allNil (xs : List Int) : Bool := allB xs.length fun k => decide (xs.getD k 0 = 0)
set_option maxHeartbeats 400000 in
theorem allBelow_any (n : Int) (a : Option Addr) (cap : Nat) (xs : List Int) (w : World) (hx : IntsAt w a xs) (h9 : xs.length ≤ 100) :
    Calls Try.prog 86 #[.int .i64 n, .slice a xs.length cap] w fun e w' => e = .returned (.bool (allLow n xs)) ∧ w' = w := by
  go_enter Try.func86, Try.ntmps86
  go_wp2_with fail
  go_loopg [9] xs.length (fun g v wr => ∃ k : Nat, g = xs.length - k ∧ k ≤ xs.length ∧ v = .int .i64 k ∧ Hid (∀ t, t < k → belowB (xs.getD t 0) n = true) ∧ wr = w)
  case atStart => exact ⟨0, by omega, Nat.zero_le _, rfl, (fun t h => by omega), rfl⟩
  case round =>
    obtain ⟨k, rfl, hk, rfl, Hk, rfl⟩ := hrel
    by_cases hlt : k < xs.length
    · obtain ⟨xb, xo, rfl, xcell⟩ := hx.get hlt
      have x1 := xcell k hlt
      generalize hv : xs.getD k 0 = v at *
      have Hv := hide hv
      clear xcell hv
      go_wp2_with (go_at_call 57; refine (isBelow_any _ _ _).mono ?_; rintro e w' ⟨rfl, rfl⟩)
      · rename_i _ hh
        go_ret
        exact ⟨ret_bool (by rw [allLow, allB_no k hlt (by rw [Hv.out]; simpa using hh)]), rfl⟩
      · rename_i _ hh
        go_roundg (xs.length - (k + 1))
        case measure => omega
        case rel => exact ⟨k + 1, rfl, by omega, by go_num, upto_succ Hk.out (by rw [Hv.out]; simpa using hh), rfl⟩
    · go_wp2_with fail
      go_ret
      exact ⟨ret_bool (by rw [allLow, allB_yes (fun t ht => Hk.out t (by omega))]), rfl⟩
set_option maxHeartbeats 400000 in
theorem allZero_any (a : Option Addr) (cap : Nat) (xs : List Int) (w : World) (hx : IntsAt w a xs) (h9 : xs.length ≤ 100) :
    Calls Try.prog 87 #[.slice a xs.length cap] w fun e w' => e = .returned (.bool (allNil xs)) ∧ w' = w := by
  go_enter Try.func87, Try.ntmps87
  go_wp2_with fail
  go_loopg [7] xs.length (fun g v wr => ∃ k : Nat, g = xs.length - k ∧ k ≤ xs.length ∧ v = .int .i64 k ∧ Hid (∀ t, t < k → decide (xs.getD t 0 = 0) = true) ∧ wr = w)
  case atStart => exact ⟨0, by omega, Nat.zero_le _, rfl, (fun t h => by omega), rfl⟩
  case round =>
    obtain ⟨k, rfl, hk, rfl, Hk, rfl⟩ := hrel
    by_cases hlt : k < xs.length
    · obtain ⟨xb, xo, rfl, xcell⟩ := hx.get hlt
      have x1 := xcell k hlt
      generalize hv : xs.getD k 0 = v at *
      have Hv := hide hv
      clear xcell hv
      by_cases h0 : v = 0
      · subst h0
        go_wp2_with fail
        go_roundg (xs.length - (k + 1))
        case measure => omega
        case rel => exact ⟨k + 1, rfl, by omega, by go_num, upto_succ Hk.out (by rw [Hv.out]; rfl), rfl⟩
      · have hb : (v != 0) = true := by simp [h0]
        have H0 := hide h0
        clear h0
        go_wp2_with fail
        go_ret
        exact ⟨ret_bool (by rw [allNil, allB_no k hlt (by rw [Hv.out]; simp [H0.out])]), rfl⟩
    · go_wp2_with fail
      go_ret
      exact ⟨ret_bool (by rw [allNil, allB_yes (fun t ht => Hk.out t (by omega))]), rfl⟩
end Go.Proofs.Ytmampmbnjdncjaa
namespace Go.Proofs.Ytmampmbnjdncjaa
open Go.RowKit
def ofL : List Lt → Nat × Nat → Nat × Nat
  | [], s => s
  | t :: ls, s => ofL ls (withE s.1 t, withA s.2 t)
theorem ofL_take (ls : List Lt) (s : Nat × Nat) : ∀ k, k < ls.length → ofL (ls.take (k + 1)) s = (withE (ofL (ls.take k) s).1 (ls.getD k lt0), withA (ofL (ls.take k) s).2 (ls.getD k lt0)) := by
  induction ls generalizing s with
  | nil => intro k hk; simp at hk
  | cons t ls ih =>
    intro k hk
    cases k with
    | zero => simp [ofL]
    | succ k =>
      have := ih (withE s.1 t, withA s.2 t) k (by simpa using hk)
      simpa [ofL] using this
theorem withE_lt {E : Nat} {t : Lt} (hE : E < 18446744073709551616) (h : LowL 9 t) : withE E t < 18446744073709551616 := by
  unfold withE
  split
  · exact hE
  · exact Nat.or_lt_two_pow (n := 64) hE (bitN_lt h.1 h.2.1 h.2.2.1 h.2.2.2)
theorem withA_lt {A : Nat} {t : Lt} (hA : A < 18446744073709551616) (h : LowL 9 t) : withA A t < 18446744073709551616 := by
  unfold withA
  split
  · exact Nat.or_lt_two_pow (n := 64) hA (bitN_lt h.1 h.2.1 h.2.2.1 h.2.2.2)
  · exact hA
theorem ofL_lt : ∀ (ls : List Lt) (s : Nat × Nat), (∀ t ∈ ls, LowL 9 t) → s.1 < 18446744073709551616 → s.2 < 18446744073709551616 → (ofL ls s).1 < 18446744073709551616 ∧ (ofL ls s).2 < 18446744073709551616
  | [], _, _, h1, h2 => ⟨h1, h2⟩
  | t :: ls, _, h, h1, h2 => ofL_lt ls _ (fun u hu => h u (List.mem_cons_of_mem _ hu)) (withE_lt h1 (h t (List.mem_cons_self ..))) (withA_lt h2 (h t (List.mem_cons_self ..)))
theorem getD_mem {ls : List Lt} {k : Nat} (h : k < ls.length) : ls.getD k lt0 ∈ ls := by
  rw [List.getD_eq_getElem?_getD, List.getElem?_eq_getElem h, Option.getD_some]; exact List.getElem_mem h
set_option maxHeartbeats 1000000 in
theorem of_any (a : Option Addr) (cap : Nat) (ls : List Lt) (w : World) (hx : LitsAt w a ls) (hl : ∀ t ∈ ls, LowL 9 t) (h9 : ls.length ≤ 100) :
    Calls Try.prog 88 #[.slice a ls.length cap] w fun e w' => e = .returned (.agg #[.int .u64 (ofL ls (0, 0)).1, .int .u64 (ofL ls (0, 0)).2]) ∧ Below w.heap.size w w' := by
  obtain ⟨W, hW⟩ : ∃ W, W = (w.alloc (.cells #[.int .u64 0, .int .u64 0] 80)).alloc (.cells #[.int .u64 0, .int .u64 0] 80) := ⟨_, rfl⟩
  have hb0 : Below w.heap.size w W := by rw [hW]; exact ((Below.refl _ _).alloc (Nat.le_refl _) _).alloc (by simp) _
  have hs : W.heap.size = w.heap.size + 1 + 1 := by rw [hW]; simp
  have c0 : W.cell? ⟨w.heap.size, 0, none⟩ = some (.int .u64 0) := by rw [hW]; simp
  have c1 : W.cell? ⟨w.heap.size, 1, none⟩ = some (.int .u64 0) := by rw [hW]; simp
  have f0 : W.frozen? ⟨w.heap.size, 0, none⟩ = false := by rw [hW]; simp
  have f1 : W.frozen? ⟨w.heap.size, 1, none⟩ = false := by rw [hW]; simp
  have d0 : W.cell? ⟨w.heap.size + 1, 0, none⟩ = some (.int .u64 0) := by rw [hW]; simp
  have d1 : W.cell? ⟨w.heap.size + 1, 1, none⟩ = some (.int .u64 0) := by rw [hW]; simp
  have g0 : W.frozen? ⟨w.heap.size + 1, 0, none⟩ = false := by rw [hW]; simp
  have g1 : W.frozen? ⟨w.heap.size + 1, 1, none⟩ = false := by rw [hW]; simp
  go_enter Try.func88, Try.ntmps88
  go_wp2_with fail
  rw [← hW]
  clear hW
  generalize hB : w.heap.size = B at *
  have HB := hide hB
  go_loopg [8] ls.length (fun g v wr => ∃ k : Nat, g = ls.length - k ∧ k ≤ ls.length ∧ v = .int .i64 k ∧
    (∃ E A : Nat, Hid (ofL (ls.take k) (0, 0) = (E, A)) ∧ wr.cell? ⟨B + 1, 0, none⟩ = some (.int .u64 E) ∧ wr.cell? ⟨B + 1, 1, none⟩ = some (.int .u64 A)) ∧
    wr.frozen? ⟨B + 1, 0, none⟩ = false ∧ wr.frozen? ⟨B + 1, 1, none⟩ = false ∧
    wr.cell? ⟨B, 0, none⟩ = some (.int .u64 0) ∧ wr.cell? ⟨B, 1, none⟩ = some (.int .u64 0) ∧ wr.frozen? ⟨B, 0, none⟩ = false ∧ wr.frozen? ⟨B, 1, none⟩ = false ∧ Below B w wr ∧ B + 1 + 1 ≤ wr.heap.size)
  case atStart => exact ⟨0, by omega, Nat.zero_le _, rfl, ⟨0, 0, rfl, d0, d1⟩, g0, g1, c0, c1, f0, f1, hb0, by omega⟩
  case round =>
    obtain ⟨k, rfl, hk, rfl, ⟨E, A, HEA, p0, p1⟩, q0, q1, r0, r1, s0, s1, hb, hsz⟩ := hrel
    by_cases hlt : k < ls.length
    · have hbw : Below w.heap.size w wr := by rw [hB]; exact hb
      obtain ⟨xb, xo, rfl, xcell⟩ := (hx.below hbw).get hlt
      obtain ⟨x1, x2, x3⟩ := xcell k hlt
      have hlow := hl _ (getD_mem hlt)
      have hEA := ofL_lt (ls.take k) (0, 0) (fun t ht => hl t (List.mem_of_mem_take ht)) (by decide) (by decide)
      rw [HEA.out] at hEA
      have Hst : Hid (ofL (ls.take (k + 1)) (0, 0) = (withE E (ls.getD k lt0), withA A (ls.getD k lt0))) := by
        show _ = _
        rw [ofL_take _ _ _ hlt, HEA.out]
      generalize hv : ls.getD k lt0 = v at *
      obtain ⟨vx, vy, vn⟩ := v
      simp only at x1 x2 x3
      obtain ⟨l1, l2, l3, l4⟩ := hlow
      simp only at l1 l2 l3 l4
      clear xcell hv hbw d0 d1 c0 c1 f0 f1 g0 g1
      have hc := with_any vx vy vn E A
      have Hc := hide hc
      clear hc
      have z1 : B + 1 < wr.heap.size := by omega
      have z0 : B < wr.heap.size := by omega
      have z2 : ¬ (B + 1 = wr.heap.size) := by omega
      have z3 : ¬ (B = wr.heap.size) := by omega
      have hb1 : Below wr.heap.size wr (wr.alloc (.cells #[.int .i64 vx, .int .i64 vy, .bool vn] 50)) := (Below.refl _ _).alloc (Nat.le_refl _) _
      go_wp2_with fail
      refine (Hc.out _ l1 l2 l3 l4 hEA.1 hEA.2).mono ?_
      rintro e w' ⟨rfl, hb2⟩
      have hb3 : Below wr.heap.size wr w' := hb1.trans (hb2.mono hb1.size)
      clear hb1 hb2 Hc x1 x2 x3
      replace p0 := cell_below hb3 p0
      replace p1 := cell_below hb3 p1
      replace r0 := cell_below hb3 r0
      replace r1 := cell_below hb3 r1
      replace q0 := frozen_below hb3 z1 q0
      replace q1 := frozen_below hb3 z1 q1
      replace s0 := frozen_below hb3 z0 s0
      replace s1 := frozen_below hb3 z0 s1
      have hb4 : Below B w w' := hb.trans (hb3.mono (by omega))
      have hsz2 : B + 1 + 1 ≤ w'.heap.size := by have := hb3.size; omega
      clear hb3 hb z0 z1 z2 z3
      generalize withE E ⟨vx, vy, vn⟩ = E' at *
      generalize withA A ⟨vx, vy, vn⟩ = A' at *
      go_wp2_with fail
      go_roundg (ls.length - (k + 1))
      case measure => omega
      case rel =>
        exact ⟨k + 1, rfl, by omega, by go_num, ⟨E', A', Hst, set_other (by omega) (set_same p0), set_same (set_other (by omega) p1)⟩, set_frozen (set_frozen q0), set_frozen (set_frozen q1),
          set_other (by omega) (set_other (by omega) r0), set_other (by omega) (set_other (by omega) r1), set_frozen (set_frozen s0), set_frozen (set_frozen s1),
          (hb4.setCell (p := ⟨B + 1, 0, none⟩) (Nat.le_succ B) _).setCell (p := ⟨B + 1, 1, none⟩) (Nat.le_succ B) _, by simp; exact hsz2⟩
    · have Hfin : Hid (ofL ls (0, 0) = (E, A)) := by
        show _ = _
        have := HEA.out
        rwa [List.take_of_length_le (by omega)] at this
      have z0 : ¬ (B + 1 = B) := by omega
      go_wp2_with fail
      exact bodyPost_ret (v := .agg #[.int .u64 E, .int .u64 A]) (by simp [results, Try.results88, go_sem, r0, r1]) rfl ⟨by rw [Hfin.out], by rw [HB.out]; exact (hb.setCell (p := ⟨B, 0, none⟩) (Nat.le_refl _) _).setCell (p := ⟨B, 1, none⟩) (Nat.le_refl _) _⟩
end Go.Proofs.Ytmampmbnjdncjaa
namespace Go.Proofs.Ytmampmbnjdncjaa
open Go.RowKit
structure St where
  r : Int
  a : Int
  b : Int
  c : Int
  d : Int
def Box (w : World) (B : Nat) (s : St) (W : World) : Prop :=
  W.cell? ⟨B, 0, none⟩ = some (.int .i64 s.r) ∧ W.cell? ⟨B, 1, none⟩ = some (.int .i64 s.a) ∧ W.cell? ⟨B, 2, none⟩ = some (.int .i64 s.b) ∧ W.cell? ⟨B, 3, none⟩ = some (.int .i64 s.c) ∧ W.cell? ⟨B, 4, none⟩ = some (.int .i64 s.d) ∧
  W.cell? ⟨B + 1, 0, none⟩ = some (.int .u64 0) ∧ W.cell? ⟨B + 1, 1, none⟩ = some (.int .u64 0) ∧ W.frozen? ⟨B + 1, 0, none⟩ = false ∧ W.frozen? ⟨B + 1, 1, none⟩ = false ∧ B + 1 + 1 ≤ W.heap.size ∧ Below B w W
theorem Box.new (w : World) (s : St) : Box w w.heap.size s ((w.alloc (.cells #[.int .i64 s.r, .int .i64 s.a, .int .i64 s.b, .int .i64 s.c, .int .i64 s.d] 62)).alloc (.cells #[.int .u64 0, .int .u64 0] 80)) := by
  refine ⟨?_, ?_, ?_, ?_, ?_, ?_, ?_, ?_, ?_, ?_, ((Below.refl _ _).alloc (Nat.le_refl _) _).alloc (by simp) _⟩ <;> simp
theorem Box.below {w W W' : World} {B : Nat} {s : St} (h : Box w B s W) (hb : Below W.heap.size W W') : Box w B s W' := by
  obtain ⟨h0, h1, h2, h3, h4, h5, h6, h7, h8, h9, h10⟩ := h
  exact ⟨cell_below hb h0, cell_below hb h1, cell_below hb h2, cell_below hb h3, cell_below hb h4, cell_below hb h5, cell_below hb h6, frozen_below hb (by omega) h7, frozen_below hb (by omega) h8, by have := hb.size; omega, h10.trans (hb.mono (by omega))⟩
theorem Box.drew {w W : World} {B : Nat} {s : St} (h : Box w B s W) : Box w B s W.drew := by
  obtain ⟨h0, h1, h2, h3, h4, h5, h6, h7, h8, h9, h10⟩ := h
  exact ⟨h0, h1, h2, h3, h4, h5, h6, h7, h8, h9, h10.drew⟩
theorem ints_one {w : World} {g : Nat} {x : Int} (h : w.cell? ⟨g, 0, none⟩ = some (.int .i64 x)) : IntsAt w (some ⟨g, 0, none⟩) [x] :=
  .inr ⟨g, 0, rfl, fun i hi => by
    have : i = 0 := by simp at hi; exact hi
    subst this; exact h⟩
theorem ints_two {w : World} {g : Nat} {x y : Int} (h : w.cell? ⟨g, 0, none⟩ = some (.int .i64 x)) (h' : w.cell? ⟨g, 1, none⟩ = some (.int .i64 y)) : IntsAt w (some ⟨g, 0, none⟩) [x, y] :=
  .inr ⟨g, 0, rfl, fun i hi => by
    have : i = 0 ∨ i = 1 := by simp at hi; omega
    rcases this with rfl | rfl
    · exact h
    · exact h'⟩
theorem ints_three {w : World} {g : Nat} {x y z : Int} (h : w.cell? ⟨g, 0, none⟩ = some (.int .i64 x)) (h' : w.cell? ⟨g, 1, none⟩ = some (.int .i64 y)) (h2 : w.cell? ⟨g, 2, none⟩ = some (.int .i64 z)) : IntsAt w (some ⟨g, 0, none⟩) [x, y, z] :=
  .inr ⟨g, 0, rfl, fun i hi => by
    have : i = 0 ∨ i = 1 ∨ i = 2 := by simp at hi; omega
    rcases this with rfl | rfl | rfl
    · exact h
    · exact h'
    · exact h2⟩
def yes (s : Nat × Nat) (ok : Bool) : Nat × Nat := if ok then s else (0, 0)
theorem yes_no (s : Nat × Nat) : yes s false = (0, 0) := rfl
theorem yes_yes (s : Nat × Nat) : yes s true = s := rfl
theorem below_alloc (w : World) (o : Obj) : Below w.heap.size w (w.alloc o) := (Below.refl _ _).alloc (Nat.le_refl _) _
theorem Box.end {w W : World} {B E A : Nat} {s : St} (h : Box w B s W) (hB : w.heap.size = B) : Below w.heap.size w ((W.setCell ⟨B + 1, 0, none⟩ (.int .u64 E)).setCell ⟨B + 1, 1, none⟩ (.int .u64 A)) := by
  obtain ⟨h0, h1, h2, h3, h4, h5, h6, h7, h8, h9, h10⟩ := h
  rw [hB]
  exact (h10.setCell (p := ⟨B + 1, 0, none⟩) (Nat.le_succ B) _).setCell (p := ⟨B + 1, 1, none⟩) (Nat.le_succ B) _
theorem lits_one {w : World} {g : Nat} {t : Lt} (h : w.cell? ⟨g, 0, none⟩ = some (.int .i64 t.x)) (h' : w.cell? ⟨g, 1, none⟩ = some (.int .i64 t.y)) (h2 : w.cell? ⟨g, 2, none⟩ = some (.bool t.n)) : LitsAt w (some ⟨g, 0, none⟩) [t] :=
  .inr ⟨g, 0, rfl, fun i hi => by
    have : i = 0 := by simp at hi; exact hi
    subst this; exact ⟨h, h', h2⟩⟩
def okR (n : Int) (s : St) : Bool := allLow n [s.a] && allNil [s.b, s.c, s.d]
def setR (s : St) : Nat × Nat := ofL [⟨s.a, s.a, false⟩] (0, 0)
set_option maxHeartbeats 1000000 in
theorem refl_any (n : Int) (s : St) (w : World) (hn : n ≤ 9) :
    Calls Try.prog 80 #[.int .i64 n, .agg #[.int .i64 s.r, .int .i64 s.a, .int .i64 s.b, .int .i64 s.c, .int .i64 s.d]] w fun e w' =>
      e = .returned (.tuple #[.agg #[.int .u64 (yes (setR s) (okR n s)).1, .int .u64 (yes (setR s) (okR n s)).2], .bool (okR n s)]) ∧ Below w.heap.size w w' := by
  have hbox := Box.new w s
  go_enter Try.func80, Try.ntmps80
  go_upto_region 1 with fail
  generalize hW : (w.alloc (.cells #[.int .i64 s.r, .int .i64 s.a, .int .i64 s.b, .int .i64 s.c, .int .i64 s.d] 62)).alloc (.cells #[.int .u64 0, .int .u64 0] 80) = W at *
  clear hW
  generalize hB : w.heap.size = B at *
  have hb1 := hbox.below (below_alloc W (.cells #[.int .i64 s.a] 3))
  have hs1 := ints_one (w := W.alloc (.cells #[.int .i64 s.a] 3)) (g := W.heap.size) (x := s.a) (by simp)
  obtain ⟨c0, c1, c2, c3, c4, r0, r1, f0, f1, hsz, hb0⟩ := id hbox
  have HB := hide hB
  clear hB
  go_wp2_with fail
  refine (allBelow_any n _ 1 [s.a] _ hs1 (by simp)).mono ?_
  rintro e w' ⟨rfl, rfl⟩
  clear c0 c1 c2 c3 c4 r0 r1 f0 f1 hsz hb0 hbox hs1
  generalize W.alloc (.cells #[.int .i64 s.a] 3) = W1 at *
  obtain ⟨c0, c1, c2, c3, c4, r0, r1, f0, f1, hsz, hb0⟩ := id hb1
  cases hA : allLow n [s.a]
  · have ho : Hid (okR n s = false) := by show okR n s = false; simp [okR, hA]
    go_wp2_with fail
    exact bodyPost_ret (v := .tuple #[.agg #[.int .u64 0, .int .u64 0], .bool false]) (by simp [results, Try.results80, go_sem, r0, r1]) rfl ⟨by rw [ho.out, yes_no]; rfl, hb1.end HB.out⟩
  · have hlow : belowB s.a n = true := allB_iff.1 hA 0 (by simp)
    have z0 : B < W1.heap.size := by omega
    have z1 : B + 1 < W1.heap.size := by omega
    have hb2 := hb1.below (below_alloc W1 (.cells #[.int .i64 s.b, .int .i64 s.c, .int .i64 s.d] 3))
    have hs2 := ints_three (w := W1.alloc (.cells #[.int .i64 s.b, .int .i64 s.c, .int .i64 s.d] 3)) (g := W1.heap.size) (x := s.b) (y := s.c) (z := s.d) (by simp) (by simp) (by simp)
    have Hlow := hide hlow
    have HA := hide hA
    clear hlow hA
    go_wp2_with fail
    refine (allZero_any _ 3 [s.b, s.c, s.d] _ hs2 (by simp)).mono ?_
    rintro e w' ⟨rfl, rfl⟩
    clear c0 c1 c2 c3 c4 r0 r1 f0 f1 hsz hb0 hb1 hs2 z0 z1
    generalize W1.alloc (.cells #[.int .i64 s.b, .int .i64 s.c, .int .i64 s.d] 3) = W2 at *
    obtain ⟨c0, c1, c2, c3, c4, r0, r1, f0, f1, hsz, hb0⟩ := id hb2
    cases hZ : allNil [s.b, s.c, s.d]
    · have ho : Hid (okR n s = false) := by show okR n s = false; simp [okR, hZ]
      go_wp2_with fail
      exact bodyPost_ret (v := .tuple #[.agg #[.int .u64 0, .int .u64 0], .bool false]) (by simp [results, Try.results80, go_sem, r0, r1]) rfl ⟨by rw [ho.out, yes_no]; rfl, hb2.end HB.out⟩
    · have ho : Hid (okR n s = true) := by show okR n s = true; simp [okR, hZ, HA.out]
      go_wp2_with fail
      refine (equal_any s.a s.a _).mono ?_
      rintro e w3 ⟨rfl, hb⟩
      have hb3 := hb2.below hb
      clear c0 c1 c2 c3 c4 r0 r1 f0 f1 hsz hb0 hb2 hb
      have hb4 := hb3.below (below_alloc w3 (.cells #[.int .i64 s.a, .int .i64 s.a, .bool false] 50))
      have hs3 := lits_one (w := w3.alloc (.cells #[.int .i64 s.a, .int .i64 s.a, .bool false] 50)) (g := w3.heap.size) (t := ⟨s.a, s.a, false⟩) (by simp) (by simp) (by simp)
      have hlw : LowL 9 ⟨s.a, s.a, false⟩ := by
        have := Hlow.out
        simp [belowB] at this
        exact ⟨this.1, by show s.a < 9; omega, this.1, by show s.a < 9; omega⟩
      go_wp2_with fail
      refine (of_any _ 1 [⟨s.a, s.a, false⟩] _ hs3 (by intro t ht; simp at ht; rw [ht]; exact hlw) (by simp)).mono ?_
      rintro e w4 ⟨rfl, hb⟩
      have hb5 := hb4.below hb
      clear hb3 hb hb4 hs3 hlw
      obtain ⟨c0, c1, c2, c3, c4, r0, r1, f0, f1, hsz, hb0⟩ := id hb5
      have Hs : Hid (ofL [⟨s.a, s.a, false⟩] (0, 0) = setR s) := rfl
      generalize ofL [⟨s.a, s.a, false⟩] (0, 0) = q at *
      obtain ⟨q1, q2⟩ := q
      go_wp2_with fail
      exact bodyPost_ret (v := .tuple #[.agg #[.int .u64 q1, .int .u64 q2], .bool true]) (by simp [results, Try.results80, go_sem, set_same r0, set_other, r1]) rfl ⟨by rw [ho.out, yes_yes, ← Hs.out], hb5.end HB.out⟩
end Go.Proofs.Ytmampmbnjdncjaa
namespace Go.Proofs.Ytmampmbnjdncjaa
open Go.RowKit
set_option maxHeartbeats 400000 in
theorem has_any (x y : Int) (n : Bool) (E A : Nat) (w : World) (hx : 0 ≤ x) (hx9 : x < 9) (hy : 0 ≤ y) (hy9 : y < 9) (hE : E < 18446744073709551616) (hA : A < 18446744073709551616) :
    Calls Try.prog 70 #[.agg #[.int .u64 E, .int .u64 A], .agg #[.int .i64 x, .int .i64 y, .bool n]] w fun e w' => e = .returned (.bool (hasS E A ⟨x, y, n⟩)) ∧ Below w.heap.size w w' := by
  obtain ⟨W, hW⟩ : ∃ W, W = (w.alloc (.cells #[.int .u64 E, .int .u64 A] 80)).alloc (.cells #[.int .i64 x, .int .i64 y, .bool n] 50) := ⟨_, rfl⟩
  have hb0 : Below w.heap.size w W := by rw [hW]; exact ((Below.refl _ _).alloc (Nat.le_refl _) _).alloc (by simp) _
  have e1 := bits_and hE (bitN_lt hx hx9 hy hy9)
  have e2 := bits_and hA (bitN_lt hx hx9 hy hy9)
  have c0 : W.cell? ⟨w.heap.size, 0, none⟩ = some (.int .u64 E) := by rw [hW]; simp
  have c1 : W.cell? ⟨w.heap.size, 1, none⟩ = some (.int .u64 A) := by rw [hW]; simp
  have l0 : W.cell? ⟨w.heap.size + 1, 0, none⟩ = some (.int .i64 x) := by rw [hW]; simp
  have l1 : W.cell? ⟨w.heap.size + 1, 1, none⟩ = some (.int .i64 y) := by rw [hW]; simp
  have l2 : W.cell? ⟨w.heap.size + 1, 2, none⟩ = some (.bool n) := by rw [hW]; simp
  have E1 : Hid ((((E &&& bitN x y : Nat) : Int) != 0) = E.testBit (ixN x y)) := and_two_b E (ixN x y)
  have A1 : Hid ((((A &&& bitN x y : Nat) : Int) != 0) = A.testBit (ixN x y)) := and_two_b A (ixN x y)
  generalize (E &&& bitN x y) = P at *
  generalize (A &&& bitN x y) = Q at *
  cases n
  · go_enter Try.func70, Try.ntmps70
    go_upto_region 3 with fail
    rw [← hW]
    clear hW
    go_region_with (go_at_call 77; refine (bit_any _ _ _ _ hx hx9 hy hy9).mono ?_; rintro e w' ⟨rfl, hb⟩; have q0 := cell_below hb c0; have q1 := cell_below hb c1)
    all_goals
      go_wp2_with fail
      go_ret
      exact ⟨ret_bool E1.out, hb0.trans (((Below.refl _ _).drew.trans hb).mono hb0.size)⟩
  · go_enter Try.func70, Try.ntmps70
    go_upto_region 2 with fail
    rw [← hW]
    clear hW
    go_region_with (go_at_call 77; refine (bit_any _ _ _ _ hx hx9 hy hy9).mono ?_; rintro e w' ⟨rfl, hb⟩; have q0 := cell_below hb c0; have q1 := cell_below hb c1)
    all_goals
      go_wp2_with fail
      go_ret
      exact ⟨ret_bool A1.out, hb0.trans (((Below.refl _ _).drew.trans hb).mono hb0.size)⟩
end Go.Proofs.Ytmampmbnjdncjaa
namespace Go.Proofs.Ytmampmbnjdncjaa
open Go.RowKit
set_option maxHeartbeats 1000000 in
theorem wout_any (x y : Int) (n : Bool) (E A : Nat) (w : World) (hx : 0 ≤ x) (hx9 : x < 9) (hy : 0 ≤ y) (hy9 : y < 9) (hE : E < 18446744073709551616) (hA : A < 18446744073709551616) :
    Calls Try.prog 92 #[.agg #[.int .u64 E, .int .u64 A], .agg #[.int .i64 x, .int .i64 y, .bool n]] w fun e w' => e = .returned (.agg #[.int .u64 (woutE E ⟨x, y, n⟩ : Nat), .int .u64 (woutA A ⟨x, y, n⟩ : Nat)]) ∧ Below w.heap.size w w' := by
  have e1 := bits_but hE (bitN_lt hx hx9 hy hy9)
  have e2 := bits_but hA (bitN_lt hx hx9 hy hy9)
  have HE0 : Hid (woutE E ⟨x, y, false⟩ = (butN E (bitN x y))) := rfl
  have HA0 : Hid (woutA A ⟨x, y, false⟩ = A) := rfl
  have HE1 : Hid (woutE E ⟨x, y, true⟩ = E) := rfl
  have HA1 : Hid (woutA A ⟨x, y, true⟩ = (butN A (bitN x y))) := rfl
  generalize (butN E (bitN x y)) = P at *
  generalize (butN A (bitN x y)) = Q at *
  obtain ⟨W2, hW2⟩ : ∃ W2, W2 = (w.alloc (.cells #[.int .u64 E, .int .u64 A] 80)).alloc (.cells #[.int .i64 x, .int .i64 y, .bool n] 50) := ⟨_, rfl⟩
  have hs2 : W2.heap.size = w.heap.size + 1 + 1 := by rw [hW2]; simp
  have c0 : W2.cell? ⟨w.heap.size, 0, none⟩ = some (.int .u64 E) := by rw [hW2]; simp
  have c1 : W2.cell? ⟨w.heap.size, 1, none⟩ = some (.int .u64 A) := by rw [hW2]; simp
  have f0 : W2.frozen? ⟨w.heap.size, 0, none⟩ = false := by rw [hW2]; simp
  have f1 : W2.frozen? ⟨w.heap.size, 1, none⟩ = false := by rw [hW2]; simp
  have l0 : W2.cell? ⟨w.heap.size + 1, 0, none⟩ = some (.int .i64 x) := by rw [hW2]; simp
  have l1 : W2.cell? ⟨w.heap.size + 1, 1, none⟩ = some (.int .i64 y) := by rw [hW2]; simp
  have l2 : W2.cell? ⟨w.heap.size + 1, 2, none⟩ = some (.bool n) := by rw [hW2]; simp
  have hb2 : Below w.heap.size w W2 := by rw [hW2]; exact ((Below.refl _ _).alloc (Nat.le_refl _) _).alloc (by simp) _
  obtain ⟨W, hW⟩ : ∃ W, W = W2.alloc (.cells #[.int .u64 0, .int .u64 0] 80) := ⟨_, rfl⟩
  have hbW : Below W2.heap.size W2 W := by rw [hW]; exact (Below.refl _ _).alloc (Nat.le_refl _) _
  have hs : W.heap.size = w.heap.size + 3 := by rw [hW]; simp [hs2]
  replace c0 := cell_below hbW c0
  replace c1 := cell_below hbW c1
  replace l0 := cell_below hbW l0
  replace l1 := cell_below hbW l1
  replace l2 := cell_below hbW l2
  replace f0 := frozen_below hbW (by omega) f0
  replace f1 := frozen_below hbW (by omega) f1
  have r0 : W.cell? ⟨w.heap.size + 1 + 1, 0, none⟩ = some (.int .u64 0) := by rw [hW, ← hs2]; simp
  have r1 : W.cell? ⟨w.heap.size + 1 + 1, 1, none⟩ = some (.int .u64 0) := by rw [hW, ← hs2]; simp
  have g0 : W.frozen? ⟨w.heap.size + 1 + 1, 0, none⟩ = false := by rw [hW, ← hs2]; simp
  have g1 : W.frozen? ⟨w.heap.size + 1 + 1, 1, none⟩ = false := by rw [hW, ← hs2]; simp
  have hb0 : Below w.heap.size w W := hb2.trans (hbW.mono (by omega))
  have hw3 : W = ((w.alloc (.cells #[.int .u64 E, .int .u64 A] 80)).alloc (.cells #[.int .i64 x, .int .i64 y, .bool n] 50)).alloc (.cells #[.int .u64 0, .int .u64 0] 80) := by rw [hW, hW2]
  clear hW hW2 hbW hb2 hs2
  cases n
  · go_enter Try.func92, Try.ntmps92
    go_upto_region 3 with fail
    rw [← hw3]
    clear hw3
    go_cut [4] (fun s wx => s = .pointer (some ⟨w.heap.size + 1 + 1, 0, none⟩) ∧ wx.cell? ⟨w.heap.size, 0, none⟩ = some (.int .u64 P) ∧ wx.cell? ⟨w.heap.size, 1, none⟩ = some (.int .u64 A) ∧
      wx.cell? ⟨w.heap.size + 1 + 1, 0, none⟩ = some (.int .u64 0) ∧ wx.cell? ⟨w.heap.size + 1 + 1, 1, none⟩ = some (.int .u64 0) ∧
      wx.frozen? ⟨w.heap.size + 1 + 1, 0, none⟩ = false ∧ wx.frozen? ⟨w.heap.size + 1 + 1, 1, none⟩ = false ∧ Below w.heap.size w wx)
    case first =>
      go_region_with (go_at_call 77; refine (bit_any _ _ _ _ hx hx9 hy hy9).mono ?_; rintro e w' ⟨rfl, hb⟩; have q0 := cell_below hb c0; have q1 := cell_below hb c1; have q2 := frozen_below hb (Nat.lt_of_lt_of_le (by omega) (Nat.le_of_eq hs.symm)) f0; have q3 := frozen_below hb (Nat.lt_of_lt_of_le (by omega) (Nat.le_of_eq hs.symm)) f1)
      all_goals
        go_wp2_with fail
        go_meet
        have z0 := cell_below hb r0
        have z1 := cell_below hb r1
        have z2 := frozen_below hb (Nat.lt_of_lt_of_le (by omega) (Nat.le_of_eq hs.symm)) g0
        have z3 := frozen_below hb (Nat.lt_of_lt_of_le (by omega) (Nat.le_of_eq hs.symm)) g1
        exact ⟨rfl, set_same q0, set_other (by omega) q1, set_other (by omega) z0, set_other (by omega) z1, set_frozen z2, set_frozen z3, ((hb0.trans ((Below.refl W.heap.size W).drew.mono hb0.size)).trans (hb.mono hb0.size)).setCell (Nat.le_refl _) _⟩
    case rest =>
      obtain ⟨rfl, k0, k1, k2, k3, k4, k5, hbc⟩ := hcut
      go_wp2_with fail
      exact bodyPost_ret (v := .agg #[.int .u64 P, .int .u64 A]) (by simp [results, Try.results92, go_sem, k2, k3]) rfl ⟨ret_set HE0.out.symm HA0.out.symm, (hbc.setCell (p := ⟨w.heap.size + 1 + 1, 0, none⟩) (by show _ ≤ _ + 1 + 1; omega) _).setCell (p := ⟨w.heap.size + 1 + 1, 1, none⟩) (by show _ ≤ _ + 1 + 1; omega) _⟩
  · go_enter Try.func92, Try.ntmps92
    go_upto_region 2 with fail
    rw [← hw3]
    clear hw3
    go_cut [4] (fun s wx => s = .pointer (some ⟨w.heap.size + 1 + 1, 0, none⟩) ∧ wx.cell? ⟨w.heap.size, 0, none⟩ = some (.int .u64 E) ∧ wx.cell? ⟨w.heap.size, 1, none⟩ = some (.int .u64 Q) ∧
      wx.cell? ⟨w.heap.size + 1 + 1, 0, none⟩ = some (.int .u64 0) ∧ wx.cell? ⟨w.heap.size + 1 + 1, 1, none⟩ = some (.int .u64 0) ∧
      wx.frozen? ⟨w.heap.size + 1 + 1, 0, none⟩ = false ∧ wx.frozen? ⟨w.heap.size + 1 + 1, 1, none⟩ = false ∧ Below w.heap.size w wx)
    case first =>
      go_region_with (go_at_call 77; refine (bit_any _ _ _ _ hx hx9 hy hy9).mono ?_; rintro e w' ⟨rfl, hb⟩; have q0 := cell_below hb c0; have q1 := cell_below hb c1; have q2 := frozen_below hb (Nat.lt_of_lt_of_le (by omega) (Nat.le_of_eq hs.symm)) f0; have q3 := frozen_below hb (Nat.lt_of_lt_of_le (by omega) (Nat.le_of_eq hs.symm)) f1)
      all_goals
        go_wp2_with fail
        go_meet
        have z0 := cell_below hb r0
        have z1 := cell_below hb r1
        have z2 := frozen_below hb (Nat.lt_of_lt_of_le (by omega) (Nat.le_of_eq hs.symm)) g0
        have z3 := frozen_below hb (Nat.lt_of_lt_of_le (by omega) (Nat.le_of_eq hs.symm)) g1
        exact ⟨rfl, set_other (by omega) q0, set_same q1, set_other (by omega) z0, set_other (by omega) z1, set_frozen z2, set_frozen z3, ((hb0.trans ((Below.refl W.heap.size W).drew.mono hb0.size)).trans (hb.mono hb0.size)).setCell (Nat.le_refl _) _⟩
    case rest =>
      obtain ⟨rfl, k0, k1, k2, k3, k4, k5, hbc⟩ := hcut
      go_wp2_with fail
      exact bodyPost_ret (v := .agg #[.int .u64 E, .int .u64 Q]) (by simp [results, Try.results92, go_sem, k2, k3]) rfl ⟨ret_set HE1.out.symm HA1.out.symm, (hbc.setCell (p := ⟨w.heap.size + 1 + 1, 0, none⟩) (by show _ ≤ _ + 1 + 1; omega) _).setCell (p := ⟨w.heap.size + 1 + 1, 1, none⟩) (by show _ ≤ _ + 1 + 1; omega) _⟩
end Go.Proofs.Ytmampmbnjdncjaa
namespace Go.Proofs.Ytmampmbnjdncjaa
open Go.RowKit
def SetsAt (w : World) (a : Option Addr) (ss : List (Nat × Nat)) : Prop :=
  ss = [] ∨ ∃ b o, a = some ⟨b, o, none⟩ ∧ ∀ i, i < ss.length → w.cell? ⟨b, o + i * 2, none⟩ = some (.int .u64 (ss.getD i (0, 0)).1) ∧ w.cell? ⟨b, o + i * 2 + 1, none⟩ = some (.int .u64 (ss.getD i (0, 0)).2)
theorem SetsAt.below {w w' : World} {a : Option Addr} {ss : List (Nat × Nat)} (h : SetsAt w a ss) (hb : Below w.heap.size w w') : SetsAt w' a ss := by
  rcases h with h | ⟨b, o, rfl, h⟩
  · exact .inl h
  · exact .inr ⟨b, o, rfl, fun i hi => ⟨cell_below hb (h i hi).1, cell_below hb (h i hi).2⟩⟩
theorem SetsAt.get {w : World} {a : Option Addr} {ss : List (Nat × Nat)} (h : SetsAt w a ss) {i : Nat} (hi : i < ss.length) :
    ∃ b o, a = some ⟨b, o, none⟩ ∧ ∀ i, i < ss.length → w.cell? ⟨b, o + i * 2, none⟩ = some (.int .u64 (ss.getD i (0, 0)).1) ∧ w.cell? ⟨b, o + i * 2 + 1, none⟩ = some (.int .u64 (ss.getD i (0, 0)).2) := by
  rcases h with h | h
  · subst h; simp at hi
  · exact h
theorem getD_memS {ls : List (Nat × Nat)} {k : Nat} (h : k < ls.length) : ls.getD k (0, 0) ∈ ls := by
  rw [List.getD_eq_getElem?_getD, List.getElem?_eq_getElem h, Option.getD_some]; exact List.getElem_mem h
theorem alloc_old {w : World} {o : Obj} {b i : Nat} {v : Value} (h : w.cell? ⟨b, i, none⟩ = some v) : (w.alloc o).cell? ⟨b, i, none⟩ = some v := cell_below (below_alloc w o) h
theorem drew_old {w : World} {a : Addr} {v : Value} (h : w.cell? a = some v) : w.drew.cell? a = some v := h
theorem alloc_new {w : World} {vs : Array Value} {t : TypeId} {g i : Nat} {v : Value} (hg : g = w.heap.size) (hv : vs[i]? = some v) : (w.alloc (.cells vs t)).cell? ⟨g, i, none⟩ = some v := by
  subst hg; simp [hv]
def okX (n : Int) (ss : List (Nat × Nat)) (s : St) : Bool := allLow (ss.length : Nat) [s.a, s.b] && allLow n [s.c, s.d] && hasS (ss.getD s.a.toNat (0, 0)).1 (ss.getD s.a.toNat (0, 0)).2 ⟨s.c, s.d, false⟩ && hasS (ss.getD s.b.toNat (0, 0)).1 (ss.getD s.b.toNat (0, 0)).2 ⟨s.c, s.d, true⟩
def setX (ss : List (Nat × Nat)) (s : St) : Nat × Nat :=
  (woutE (ss.getD s.a.toNat (0, 0)).1 ⟨s.c, s.d, false⟩ ||| woutE (ss.getD s.b.toNat (0, 0)).1 ⟨s.c, s.d, true⟩, woutA (ss.getD s.a.toNat (0, 0)).2 ⟨s.c, s.d, false⟩ ||| woutA (ss.getD s.b.toNat (0, 0)).2 ⟨s.c, s.d, true⟩)
set_option maxHeartbeats 400000 in
theorem equal_eq (x y : Int) (w : World) :
    Calls Try.prog 89 #[.int .i64 x, .int .i64 y] w fun e w' => e = .returned (.agg #[.int .i64 x, .int .i64 y, .bool false]) ∧ w' = w.alloc (.cells #[.int .i64 x, .int .i64 y, .bool false] 50) := by
  go_enter Try.func89, Try.ntmps89
  go_wp2_with fail
  exact bodyPost_ret (v := .agg #[.int .i64 x, .int .i64 y, .bool false]) (by simp [results, Try.results89, go_sem]) rfl ⟨rfl, rfl⟩
set_option maxHeartbeats 400000 in
theorem apart_eq (x y : Int) (w : World) :
    Calls Try.prog 90 #[.int .i64 x, .int .i64 y] w fun e w' => e = .returned (.agg #[.int .i64 x, .int .i64 y, .bool true]) ∧ w' = w.alloc (.cells #[.int .i64 x, .int .i64 y, .bool true] 50) := by
  go_enter Try.func90, Try.ntmps90
  go_wp2_with fail
  exact bodyPost_ret (v := .agg #[.int .i64 x, .int .i64 y, .bool true]) (by simp [results, Try.results90, go_sem]) rfl ⟨rfl, rfl⟩
theorem wout_lt {E A : Nat} {t : Lt} (hE : E < 18446744073709551616) (hA : A < 18446744073709551616) : woutE E t < 18446744073709551616 ∧ woutA A t < 18446744073709551616 := by
  unfold woutE woutA
  constructor
  · split
    · exact hE
    · exact butN_lt hE
  · split
    · exact butN_lt hA
    · exact hA
theorem keepX {W W' : World} {a b c d : Nat} {x0 x1 x2 x3 x4 x5 x6 x7 x8 x9 : Value} (h : W.cell? ⟨a, 0, none⟩ = some x0 ∧ W.cell? ⟨a, 1, none⟩ = some x1 ∧ W.cell? ⟨b, 0, none⟩ = some x2 ∧ W.cell? ⟨b, 1, none⟩ = some x3 ∧
      W.cell? ⟨c, 0, none⟩ = some x4 ∧ W.cell? ⟨c, 1, none⟩ = some x5 ∧ W.cell? ⟨c, 2, none⟩ = some x6 ∧ W.cell? ⟨d, 0, none⟩ = some x7 ∧ W.cell? ⟨d, 1, none⟩ = some x8 ∧ W.cell? ⟨d, 2, none⟩ = some x9) (hb : Below W.heap.size W W') :
    W'.cell? ⟨a, 0, none⟩ = some x0 ∧ W'.cell? ⟨a, 1, none⟩ = some x1 ∧ W'.cell? ⟨b, 0, none⟩ = some x2 ∧ W'.cell? ⟨b, 1, none⟩ = some x3 ∧
      W'.cell? ⟨c, 0, none⟩ = some x4 ∧ W'.cell? ⟨c, 1, none⟩ = some x5 ∧ W'.cell? ⟨c, 2, none⟩ = some x6 ∧ W'.cell? ⟨d, 0, none⟩ = some x7 ∧ W'.cell? ⟨d, 1, none⟩ = some x8 ∧ W'.cell? ⟨d, 2, none⟩ = some x9 := by
  obtain ⟨h0, h1, h2, h3, h4, h5, h6, h7, h8, h9⟩ := h
  exact ⟨cell_below hb h0, cell_below hb h1, cell_below hb h2, cell_below hb h3, cell_below hb h4, cell_below hb h5, cell_below hb h6, cell_below hb h7, cell_below hb h8, cell_below hb h9⟩
end Go.Proofs.Ytmampmbnjdncjaa
namespace Go.Proofs.Ytmampmbnjdncjaa
open Go.RowKit
def okG (m : Int) (s : St) : Bool := allLow m [s.a] && allNil [s.b, s.c, s.d]
def setG (cs : List Cl) (s : St) : Nat × Nat := ofL (cs.getD s.a.toNat cl0).ls (0, 0)
set_option maxHeartbeats 1000000 in
theorem given_step (sa : Option Addr) (sc : Nat) (cs : List Cl) (s : St) (w : World) (hcs : ClausesAt w sa cs) (hl : ∀ i, i < cs.length → (cs.getD i cl0).ls.length ≤ 6 ∧ ∀ t ∈ (cs.getD i cl0).ls, LowL 9 t) :
    Calls Try.prog 79 #[.slice sa cs.length sc, .agg #[.int .i64 s.r, .int .i64 s.a, .int .i64 s.b, .int .i64 s.c, .int .i64 s.d]] w fun e w' =>
      e = .returned (.tuple #[.agg #[.int .u64 (yes (setG cs s) (okG (cs.length : Nat) s)).1, .int .u64 (yes (setG cs s) (okG (cs.length : Nat) s)).2], .bool (okG (cs.length : Nat) s)]) ∧ Below w.heap.size w w' := by
  have hbox := Box.new w s
  go_enter Try.func79, Try.ntmps79
  go_upto_region 1 with fail
  generalize hW : (w.alloc (.cells #[.int .i64 s.r, .int .i64 s.a, .int .i64 s.b, .int .i64 s.c, .int .i64 s.d] 62)).alloc (.cells #[.int .u64 0, .int .u64 0] 80) = W at *
  clear hW
  generalize hB : w.heap.size = B at *
  have hb1 := hbox.below (below_alloc W (.cells #[.int .i64 s.a] 3))
  have hs1 := ints_one (w := W.alloc (.cells #[.int .i64 s.a] 3)) (g := W.heap.size) (x := s.a) (by simp)
  obtain ⟨c0, c1, c2, c3, c4, r0, r1, f0, f1, hsz, hb0⟩ := id hbox
  have HB := hide hB
  clear hB
  go_wp2_with fail
  refine (allBelow_any (cs.length : Nat) _ 1 [s.a] _ hs1 (by simp)).mono ?_
  rintro e w' ⟨rfl, rfl⟩
  clear c0 c1 c2 c3 c4 r0 r1 f0 f1 hsz hb0 hbox hs1
  generalize W.alloc (.cells #[.int .i64 s.a] 3) = W1 at *
  obtain ⟨c0, c1, c2, c3, c4, r0, r1, f0, f1, hsz, hb0⟩ := id hb1
  cases hA : allLow (cs.length : Nat) [s.a]
  · have ho : Hid (okG (cs.length : Nat) s = false) := by show okG (cs.length : Nat) s = false; simp [okG, hA]
    go_wp2_with fail
    exact bodyPost_ret (v := .tuple #[.agg #[.int .u64 0, .int .u64 0], .bool false]) (by simp [results, Try.results79, go_sem, r0, r1]) rfl ⟨by rw [ho.out, yes_no]; rfl, hb1.end HB.out⟩
  · have hlow : belowB s.a (cs.length : Nat) = true := allB_iff.1 hA 0 (by simp)
    have z0 : B < W1.heap.size := by omega
    have z1 : B + 1 < W1.heap.size := by omega
    have hb2 := hb1.below (below_alloc W1 (.cells #[.int .i64 s.b, .int .i64 s.c, .int .i64 s.d] 3))
    have hs2 := ints_three (w := W1.alloc (.cells #[.int .i64 s.b, .int .i64 s.c, .int .i64 s.d] 3)) (g := W1.heap.size) (x := s.b) (y := s.c) (z := s.d) (by simp) (by simp) (by simp)
    have Hlow := hide hlow
    have HA := hide hA
    clear hlow hA
    go_wp2_with fail
    refine (allZero_any _ 3 [s.b, s.c, s.d] _ hs2 (by simp)).mono ?_
    rintro e w' ⟨rfl, rfl⟩
    clear c0 c1 c2 c3 c4 r0 r1 f0 f1 hsz hb0 hb1 hs2 z0 z1
    generalize W1.alloc (.cells #[.int .i64 s.b, .int .i64 s.c, .int .i64 s.d] 3) = W2 at *
    obtain ⟨c0, c1, c2, c3, c4, r0, r1, f0, f1, hsz, hb0⟩ := id hb2
    cases hZ : allNil [s.b, s.c, s.d]
    · have ho : Hid (okG (cs.length : Nat) s = false) := by show okG (cs.length : Nat) s = false; simp [okG, hZ]
      go_wp2_with fail
      exact bodyPost_ret (v := .tuple #[.agg #[.int .u64 0, .int .u64 0], .bool false]) (by simp [results, Try.results79, go_sem, r0, r1]) rfl ⟨by rw [ho.out, yes_no]; rfl, hb2.end HB.out⟩
    · have ho : Hid (okG (cs.length : Nat) s = true) := by show okG (cs.length : Nat) s = true; simp [okG, hZ, HA.out]
      have hlow := Hlow.out
      simp [belowB] at hlow
      obtain ⟨m, hm⟩ := Int.eq_ofNat_of_zero_le hlow.1
      have hlt : m < cs.length := by omega
      have hbw : Below w.heap.size w W2 := by rw [HB.out]; exact hb0
      obtain ⟨sb, so, rfl, scell⟩ := (hcs.below hbw).get hlt
      obtain ⟨s1, s2⟩ := scell m hlt
      have hlm := hl m hlt
      have Hs : Hid (setG cs s = ofL (cs.getD m cl0).ls (0, 0)) := by show _ = _; unfold setG; rw [hm]; rfl
      generalize cs.getD m cl0 = y at *
      obtain ⟨ya, yc, yl⟩ := y
      simp only at s1 s2 hlm
      rw [hm] at c1
      clear scell hlow hbw
      have Hm := hide hm
      clear hm
      go_wp2_with fail
      refine (of_any _ _ yl _ s2 hlm.2 (by omega)).mono ?_
      rintro e w4 ⟨rfl, hb⟩
      have hb5 := hb2.below hb
      clear hb c0 c1 c2 c3 c4 r0 r1 f0 f1 hsz hb0 hb2 s1 s2
      obtain ⟨c0, c1, c2, c3, c4, r0, r1, f0, f1, hsz, hb0⟩ := id hb5
      generalize ofL yl (0, 0) = q at *
      obtain ⟨q1, q2⟩ := q
      go_wp2_with fail
      exact bodyPost_ret (v := .tuple #[.agg #[.int .u64 q1, .int .u64 q2], .bool true]) (by simp [results, Try.results79, go_sem, set_same r0, set_other, r1]) rfl ⟨by rw [ho.out, yes_yes, Hs.out], hb5.end HB.out⟩
end Go.Proofs.Ytmampmbnjdncjaa
namespace Go.Proofs.Ytmampmbnjdncjaa
open Go.RowKit
theorem keep3 {W W' : World} {B : Nat} {x y z : Value} (h : W.cell? ⟨B, 1, none⟩ = some x ∧ W.cell? ⟨B, 2, none⟩ = some y ∧ W.cell? ⟨B, 3, none⟩ = some z) (hb : Below W.heap.size W W') :
    W'.cell? ⟨B, 1, none⟩ = some x ∧ W'.cell? ⟨B, 2, none⟩ = some y ∧ W'.cell? ⟨B, 3, none⟩ = some z := ⟨cell_below hb h.1, cell_below hb h.2.1, cell_below hb h.2.2⟩
theorem lits_three {w : World} {g : Nat} {t u v : Lt} (h : w.cell? ⟨g, 0, none⟩ = some (.int .i64 t.x)) (h' : w.cell? ⟨g, 1, none⟩ = some (.int .i64 t.y)) (h2 : w.cell? ⟨g, 2, none⟩ = some (.bool t.n))
    (h3 : w.cell? ⟨g, 3, none⟩ = some (.int .i64 u.x)) (h4 : w.cell? ⟨g, 4, none⟩ = some (.int .i64 u.y)) (h5 : w.cell? ⟨g, 5, none⟩ = some (.bool u.n))
    (h6 : w.cell? ⟨g, 6, none⟩ = some (.int .i64 v.x)) (h7 : w.cell? ⟨g, 7, none⟩ = some (.int .i64 v.y)) (h8 : w.cell? ⟨g, 8, none⟩ = some (.bool v.n)) : LitsAt w (some ⟨g, 0, none⟩) [t, u, v] :=
  .inr ⟨g, 0, rfl, fun i hi => by
    have : i = 0 ∨ i = 1 ∨ i = 2 := by simp at hi; omega
    rcases this with rfl | rfl | rfl
    · exact ⟨h, h', h2⟩
    · exact ⟨h3, h4, h5⟩
    · exact ⟨h6, h7, h8⟩⟩
def okT (n : Int) (s : St) : Bool := allLow n [s.a, s.b, s.c] && allNil [s.d]
def setT (s : St) : Nat × Nat := ofL [⟨s.a, s.b, true⟩, ⟨s.b, s.c, true⟩, ⟨s.a, s.c, false⟩] (0, 0)
set_option maxHeartbeats 1000000 in
theorem trans_any (n : Int) (s : St) (w : World) (hn : n ≤ 9) :
    Calls Try.prog 81 #[.int .i64 n, .agg #[.int .i64 s.r, .int .i64 s.a, .int .i64 s.b, .int .i64 s.c, .int .i64 s.d]] w fun e w' =>
      e = .returned (.tuple #[.agg #[.int .u64 (yes (setT s) (okT n s)).1, .int .u64 (yes (setT s) (okT n s)).2], .bool (okT n s)]) ∧ Below w.heap.size w w' := by
  have hbox := Box.new w s
  go_enter Try.func81, Try.ntmps81
  go_upto_region 1 with fail
  generalize hW : (w.alloc (.cells #[.int .i64 s.r, .int .i64 s.a, .int .i64 s.b, .int .i64 s.c, .int .i64 s.d] 62)).alloc (.cells #[.int .u64 0, .int .u64 0] 80) = W at *
  clear hW
  generalize hB : w.heap.size = B at *
  have hb1 := hbox.below (below_alloc W (.cells #[.int .i64 s.a, .int .i64 s.b, .int .i64 s.c] 3))
  have hs1 := ints_three (w := W.alloc (.cells #[.int .i64 s.a, .int .i64 s.b, .int .i64 s.c] 3)) (g := W.heap.size) (x := s.a) (y := s.b) (z := s.c) (by simp) (by simp) (by simp)
  obtain ⟨c0, c1, c2, c3, c4, r0, r1, f0, f1, hsz, hb0⟩ := id hbox
  have HB := hide hB
  clear hB
  go_wp2_with fail
  refine (allBelow_any n _ 3 [s.a, s.b, s.c] _ hs1 (by simp)).mono ?_
  rintro e w' ⟨rfl, rfl⟩
  clear c0 c1 c2 c3 c4 r0 r1 f0 f1 hsz hb0 hbox hs1
  generalize W.alloc (.cells #[.int .i64 s.a, .int .i64 s.b, .int .i64 s.c] 3) = W1 at *
  obtain ⟨c0, c1, c2, c3, c4, r0, r1, f0, f1, hsz, hb0⟩ := id hb1
  cases hA : allLow n [s.a, s.b, s.c]
  · have ho : Hid (okT n s = false) := by show okT n s = false; simp [okT, hA]
    go_wp2_with fail
    exact bodyPost_ret (v := .tuple #[.agg #[.int .u64 0, .int .u64 0], .bool false]) (by simp [results, Try.results81, go_sem, r0, r1]) rfl ⟨by rw [ho.out, yes_no]; rfl, hb1.end HB.out⟩
  · have hlow : belowB s.a n = true ∧ belowB s.b n = true ∧ belowB s.c n = true := ⟨allB_iff.1 hA 0 (by simp), allB_iff.1 hA 1 (by simp), allB_iff.1 hA 2 (by simp)⟩
    have z0 : B < W1.heap.size := by omega
    have z1 : B + 1 < W1.heap.size := by omega
    have hb2 := hb1.below (below_alloc W1 (.cells #[.int .i64 s.d] 3))
    have hs2 := ints_one (w := W1.alloc (.cells #[.int .i64 s.d] 3)) (g := W1.heap.size) (x := s.d) (by simp)
    have Hlow := hide hlow
    have HA := hide hA
    clear hlow hA
    go_wp2_with fail
    refine (allZero_any _ 1 [s.d] _ hs2 (by simp)).mono ?_
    rintro e w' ⟨rfl, rfl⟩
    clear c0 c1 c2 c3 c4 r0 r1 f0 f1 hsz hb0 hb1 hs2 z0 z1
    generalize W1.alloc (.cells #[.int .i64 s.d] 3) = W2 at *
    obtain ⟨c0, c1, c2, c3, c4, r0, r1, f0, f1, hsz, hb0⟩ := id hb2
    cases hZ : allNil [s.d]
    · have ho : Hid (okT n s = false) := by show okT n s = false; simp [okT, hZ]
      go_wp2_with fail
      exact bodyPost_ret (v := .tuple #[.agg #[.int .u64 0, .int .u64 0], .bool false]) (by simp [results, Try.results81, go_sem, r0, r1]) rfl ⟨by rw [ho.out, yes_no]; rfl, hb2.end HB.out⟩
    · have ho : Hid (okT n s = true) := by show okT n s = true; simp [okT, hZ, HA.out]
      have hl2 : ∀ t ∈ [(⟨s.a, s.b, true⟩ : Lt), ⟨s.b, s.c, true⟩, ⟨s.a, s.c, false⟩], LowL 9 t := by
        have := Hlow.out
        simp [belowB] at this
        obtain ⟨⟨x1, x2⟩, ⟨y1, y2⟩, z1, z2⟩ := this
        intro t ht
        simp at ht
        rcases ht with rfl | rfl | rfl
        · exact ⟨x1, by show s.a < 9; omega, y1, by show s.b < 9; omega⟩
        · exact ⟨y1, by show s.b < 9; omega, z1, by show s.c < 9; omega⟩
        · exact ⟨x1, by show s.a < 9; omega, z1, by show s.c < 9; omega⟩
      have Hl2 := hide hl2
      have Hs : Hid (setT s = ofL [⟨s.a, s.b, true⟩, ⟨s.b, s.c, true⟩, ⟨s.a, s.c, false⟩] (0, 0)) := rfl
      clear hl2 c0 c4 r0 r1 f0 f1 hsz hb0
      go_upto_region 3 with fail
      have hbx := hb2.drew
      clear hb2
      go_region_held3 (fun w' => w'.cell? ⟨B, 1, none⟩ = some (.int .i64 s.a) ∧ w'.cell? ⟨B, 2, none⟩ = some (.int .i64 s.b) ∧ w'.cell? ⟨B, 3, none⟩ = some (.int .i64 s.c))
        (first | exact keep3 (by assumption) hb | exact keep3 (by assumption) (below_alloc _ _) | go_keep)
        (first
          | (go_at_call 90; refine (apart_any _ _ _).mono ?_; rintro e w' ⟨rfl, hb⟩; have hbx := hbx.below hb)
          | (go_at_call 89; refine (equal_any _ _ _).mono ?_; rintro e w' ⟨rfl, hb⟩; have hbx := hbx.below hb)
          | (go_at_call 88; refine (of_any _ _ [⟨s.a, s.b, true⟩, ⟨s.b, s.c, true⟩, ⟨s.a, s.c, false⟩] _ (lits_three (by simp) (by simp) (by simp) (by simp) (by simp) (by simp) (by simp) (by simp) (by simp)) Hl2.out (by simp)).mono ?_; rintro e w' ⟨rfl, hb⟩; have hbx := (hbx.below (below_alloc _ _)).below hb; obtain ⟨_, _, _, _, _, r0, r1, f0, f1, hsz, hb0⟩ := id hbx))
      all_goals
        generalize ofL [⟨s.a, s.b, true⟩, ⟨s.b, s.c, true⟩, ⟨s.a, s.c, false⟩] (0, 0) = q at *
        obtain ⟨q1, q2⟩ := q
        go_wp2_with fail
        exact bodyPost_ret (v := .tuple #[.agg #[.int .u64 q1, .int .u64 q2], .bool true]) (by simp [results, Try.results81, go_sem, set_same r0, set_other, r1]) rfl ⟨by rw [ho.out, yes_yes, Hs.out], hbx.end HB.out⟩
end Go.Proofs.Ytmampmbnjdncjaa
