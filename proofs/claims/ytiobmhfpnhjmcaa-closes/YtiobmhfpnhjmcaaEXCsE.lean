import Derived.Test.YtiobmhfpnhjmcaaEXCsD
namespace Go.Proofs.Ytiobmhfpnhjmcaa
open Go.RowKit
def tabB (n : Nat) (f : Nat → Bool) : List Bool := (List.range n).map f
theorem tabB_length (n : Nat) (f : Nat → Bool) : (tabB n f).length = n := by simp [tabB]
theorem tabB_getD (n : Nat) (f : Nat → Bool) {t : Nat} (h : t < n) : (tabB n f).getD t false = f t := by simp [tabB, h]
theorem tabB_congr {n : Nat} {f g : Nat → Bool} (h : ∀ t, t < n → f t = g t) : tabB n f = tabB n g := by
  unfold tabB
  refine List.map_congr_left (fun t ht => h t (List.mem_range.1 ht))
theorem tabB_set (n : Nat) (f : Nat → Bool) (k : Nat) (v : Bool) : (tabB n f).set k v = tabB n (fun t => if t = k then v else f t) := by
  refine List.ext_getElem (by simp [tabB]) (fun t h1 h2 => ?_)
  have ht : t < n := by simpa [tabB] using h2
  by_cases h : t = k
  · subst h; simp [tabB]
  · simp [tabB, h, Ne.symm h]
def BRow (w : World) (g : Nat) (bs : List Bool) : Prop := w.heap[g]? = some (.cells (bs.map Value.bool).toArray 4 (0, 0))
theorem BRow.cell {w : World} {g : Nat} {bs : List Bool} (h : BRow w g bs) {k : Nat} (hk : k < bs.length) : w.cell? ⟨g, k, none⟩ = some (.bool (bs.getD k false)) := by
  rw [cell_of_row _ _ _ _ _ _ h]
  simp [hk]
theorem BRow.frozen {w : World} {g : Nat} {bs : List Bool} (h : BRow w g bs) (k : Nat) : w.frozen? ⟨g, k, none⟩ = false := frozen_of_row _ _ _ _ _ h
theorem BRow.lt {w : World} {g : Nat} {bs : List Bool} (h : BRow w g bs) : g < w.heap.size := (Array.getElem?_eq_some_iff.1 h).1
theorem BRow.set {w : World} {g : Nat} {bs : List Bool} (h : BRow w g bs) (k : Nat) (v : Bool) : BRow (w.setCell ⟨g, k, none⟩ (.bool v)) g (bs.set k v) := by
  unfold BRow
  rw [heap_setCell_same _ _ _ _ _ _ h]
  simp [List.map_set]
theorem BRow.below {w w' : World} {g : Nat} {bs : List Bool} (h : BRow w g bs) {B : Nat} (hb : Below B w w') (hB : g < B) : BRow w' g bs := by
  unfold BRow
  rw [hb.block g hB]; exact h
theorem BRow.ne {w : World} {g b o : Nat} {bs : List Bool} {v : Value} (h : BRow w g bs) (hc : w.cell? ⟨b, o, none⟩ = some v) (hv : ∀ x, v ≠ .bool x) : b ≠ g := by
  intro e
  subst e
  rw [cell_of_row _ _ _ _ _ _ h] at hc
  simp at hc
  rcases hc with ⟨_, e⟩ | ⟨_, e⟩ <;> exact hv _ e.symm
theorem gb_trans {w w1 w2 : World} {r : Option Nat} (h : w.grownBy w1 r) (h' : w1.grownBy w2 r) : w.grownBy w2 r :=
  ⟨h'.os.trans h.os, h'.tape.trans h.tape, h'.output.trans h.output, Nat.le_trans h.size h'.size, fun k hk hr => (h'.block k (Nat.lt_of_lt_of_le hk h.size) hr).trans (h.block k hk hr)⟩
theorem gb_below {w w' : World} (h : Below w.heap.size w w') (r : Option Nat) : w.grownBy w' r := ⟨h.os, h.tape, h.output, h.size, fun k hk _ => h.block k hk⟩
theorem gb_set (w : World) (g o : Nat) (v : Value) : w.grownBy (w.setCell ⟨g, o, none⟩ v) (some g) := ⟨rfl, rfl, rfl, by simp, fun k _ hr => Below.heap_setCell w ⟨g, o, none⟩ v k (fun e => hr (by rw [e]))⟩
theorem ints_kept {w w' : World} {g : Nat} {bs : List Bool} {a : Option Addr} {xs : List Int} (h : IntsAt w a xs) (hr : BRow w g bs) (hg : w.grownBy w' (some g)) : IntsAt w' a xs := by
  rcases h with h | ⟨b, o, rfl, h⟩
  · exact .inl h
  · exact .inr ⟨b, o, rfl, fun i hi => hg.cell (h i hi) (fun e => hr.ne (h i hi) (fun x hx => by cases hx) (by injection e))⟩
theorem ways_kept {w w' : World} {g : Nat} {bs : List Bool} {a : Option Addr} {ys : List Wy} (h : WaysAt w a ys) (hr : BRow w g bs) (hg : w.grownBy w' (some g)) : WaysAt w' a ys := by
  rcases h with h | ⟨b, o, rfl, h⟩
  · exact .inl h
  · exact .inr ⟨b, o, rfl, fun i hi => ⟨hg.cell (h i hi).1 (fun e => hr.ne (h i hi).1 (fun x hx => by simp [wyVal] at hx) (by injection e)), ints_kept (h i hi).2 hr hg⟩⟩
theorem pairs_kept {w w' : World} {g : Nat} {bs : List Bool} {a : Option Addr} {ps : List Pr} (h : PairsAt w a ps) (hr : BRow w g bs) (hg : w.grownBy w' (some g)) : PairsAt w' a ps := by
  rcases h with h | ⟨b, o, rfl, h⟩
  · exact .inl h
  · exact .inr ⟨b, o, rfl, fun i hi => ⟨hg.cell (h i hi).1 (fun e => hr.ne (h i hi).1 (fun x hx => by cases hx) (by injection e)), hg.cell (h i hi).2 (fun e => hr.ne (h i hi).2 (fun x hx => by cases hx) (by injection e))⟩⟩
theorem info_bool : (Try.prog.info? 4).map (fun i => (i.zero, i.size, i.bytes)) = some (some (.bool false), 1, 1) := by kernel_rfl
theorem made_bools (n : Nat) : madeCells #[.bool false] n = ((tabB n (fun _ => false)).map Value.bool).toArray := by
  unfold madeCells tabB
  apply Array.ext
  · simp
  · intro i h1 h2
    simp [Nat.mod_one]
def apF (ws : List (List Int)) (ps : List Pr) (n k : Nat) : Bool := ws.any fun d => pairsHold d ps && !decide (d.getD (k / n) 0 = d.getD (k % n) 0)
theorem apF_snoc (ws : List (List Int)) (ps : List Pr) (n : Nat) {i : Nat} (hi : i < ws.length) (k : Nat) :
    apF (ws.take (i + 1)) ps n k = (apF (ws.take i) ps n k || (pairsHold (ws.getD i []) ps && !decide ((ws.getD i []).getD (k / n) 0 = (ws.getD i []).getD (k % n) 0))) := by
  have e : ws.take (i + 1) = ws.take i ++ [ws.getD i []] := by
    rw [List.getD_eq_getElem?_getD, List.getElem?_eq_getElem hi, Option.getD_some, List.take_succ_eq_append_getElem hi]
  unfold apF
  rw [e, List.any_append]
  simp
theorem ap_close {ts : List Tm} {ps : List Pr} {C : List Int} (hts : termsB ts = true) (hC : CloseOf ts ps C) {i j : Nat} (hi : i < ts.length) (hj : j < ts.length) :
    apF (eachL ts ts.length [] (-1)) ps ts.length (i * ts.length + j) = !decide (C.getD i 0 = C.getD j 0) := by
  obtain ⟨h1, h2, h3, h4, h5⟩ := hC
  have e1 : (i * ts.length + j) / ts.length = i := by
    rw [Nat.mul_comm, Nat.mul_add_div (by omega), Nat.div_eq_of_lt hj]; rfl
  have e2 : (i * ts.length + j) % ts.length = j := by
    rw [Nat.mul_comm, Nat.mul_add_mod, Nat.mod_eq_of_lt hj]
  unfold apF
  rw [e1, e2, Bool.eq_iff_iff, List.any_eq_true]
  constructor
  · rintro ⟨d, hd, h⟩
    simp only [Bool.and_eq_true, Bool.not_eq_true', decide_eq_false_iff_not] at h ⊢
    obtain ⟨g1, g2⟩ := eachL_only hts hd
    exact fun e => h.2 (h5 d g1 g2 h.1 i j hi hj e)
  · intro h
    exact ⟨C, eachL_all hts h1 h2 h3, by rw [h4]; simpa using h⟩
def nxt (C : List Int) : Nat → Int
  | 0 => 0
  | i + 1 => if C.getD i 0 = nxt C i then nxt C i + 1 else nxt C i
theorem nxt_rgs {C : List Int} (h : rgs 0 C = true) : ∀ i, i ≤ C.length → rgs (nxt C i) (C.drop i) = true
  | 0, _ => by simpa [nxt] using h
  | i + 1, hi => by
    have := nxt_rgs h i (by omega)
    rw [List.drop_eq_getElem_cons (by omega)] at this
    simp only [rgs, Bool.and_eq_true] at this
    have e : C.getD i 0 = C[i]'(by omega) := by rw [List.getD_eq_getElem?_getD, List.getElem?_eq_getElem (by omega), Option.getD_some]
    rw [nxt, e]
    exact this.2
theorem nxt_nonneg (C : List Int) : ∀ i, 0 ≤ nxt C i ∧ nxt C i ≤ i
  | 0 => by simp [nxt]
  | i + 1 => by
    have := nxt_nonneg C i
    unfold nxt
    split <;> omega
theorem nxt_le {C : List Int} (h : Rg C) {i : Nat} (hi : i < C.length) : 0 ≤ C.getD i 0 ∧ C.getD i 0 ≤ nxt C i := by
  have := nxt_rgs (rgs_of h) i (by omega)
  rw [List.drop_eq_getElem_cons hi] at this
  simp only [rgs, Bool.and_eq_true, belowB, decide_eq_true_eq] at this
  have e : C.getD i 0 = C[i]'hi := by rw [List.getD_eq_getElem?_getD, List.getElem?_eq_getElem hi, Option.getD_some]
  rw [e]
  omega
theorem nxt_all (C : List Int) : ∀ i v, 0 ≤ v → v < nxt C i → ∃ k, k < i ∧ C.getD k 0 = v
  | 0, v, h0, h => by simp [nxt] at h; omega
  | i + 1, v, h0, h => by
    unfold nxt at h
    split at h
    · rename_i he
      by_cases hv : v = nxt C i
      · exact ⟨i, by omega, by rw [he, hv]⟩
      · obtain ⟨k, hk, e⟩ := nxt_all C i v h0 (by omega)
        exact ⟨k, by omega, e⟩
    · obtain ⟨k, hk, e⟩ := nxt_all C i v h0 h
      exact ⟨k, by omega, e⟩
theorem class_end {C : List Int} (h : Rg C) {i : Nat} (hi : i < C.length) {cl : Int} (h1 : (∃ j, j < i ∧ C.getD j 0 = C.getD i 0) → cl = C.getD i 0) (h2 : (¬ ∃ j, j < i ∧ C.getD j 0 = C.getD i 0) → cl = nxt C i) : cl = C.getD i 0 := by
  by_cases he : ∃ j, j < i ∧ C.getD j 0 = C.getD i 0
  · exact h1 he
  · rw [h2 he]
    obtain ⟨a, b⟩ := nxt_le h hi
    by_cases hlt : C.getD i 0 < nxt C i
    · exact absurd (nxt_all C i _ a hlt) he
    · omega
end Go.Proofs.Ytiobmhfpnhjmcaa
