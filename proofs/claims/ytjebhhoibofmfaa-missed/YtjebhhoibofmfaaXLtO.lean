import Derived.Test.YtjebhhoibofmfaaXLtN
import Derived.Test.YtjebhhoibofmfaaMKp
namespace Go.Proofs.Ytjebhhoibofmfaa
open Go.RowKit

theorem info_set : (Try.prog.info? 84).map (fun i => (i.zero, i.size, i.bytes)) = some (some (.agg #[.int .u64 0, .int .u64 0]), 2, 16) := by kernel_rfl

def seCells (p : Nat × Nat) : List Value := [.int .u64 p.1, .int .u64 p.2]
def ssCells (ss : List (Nat × Nat)) : List Value := ss.flatMap seCells
theorem ssCells_snoc (ss : List (Nat × Nat)) (p : Nat × Nat) : ssCells (ss ++ [p]) = ssCells ss ++ seCells p := by simp [ssCells]

theorem ssCells_get (ss : List (Nat × Nat)) : ∀ i, i < ss.length → (ssCells ss)[i * 2]? = some (.int .u64 (ss.getD i (0, 0)).1) ∧ (ssCells ss)[i * 2 + 1]? = some (.int .u64 (ss.getD i (0, 0)).2) := by
  induction ss with
  | nil => intro i hi; simp at hi
  | cons t ts ih =>
    intro i hi
    cases i with
    | zero => exact ⟨rfl, rfl⟩
    | succ i =>
      have h := ih i (by simpa using hi)
      have hc : ssCells (t :: ts) = .int .u64 t.1 :: .int .u64 t.2 :: ssCells ts := rfl
      rw [hc, show (i + 1) * 2 = i * 2 + 1 + 1 by omega]
      simpa using h

theorem setsAt_of_own {w : World} {base : Nat} {a : Option Addr} {cap : Nat} {ss : List (Nat × Nat)} (h : w.ownsRow base 84 2 (.slice a ss.length cap) ss.length (ssCells ss)) : SetsAt w a ss := by
  obtain ⟨h1, h2 | ⟨g, cap', cur, hv, hb, hg, hn, hm, hc, hx⟩⟩ := h
  · exact .inl (List.eq_nil_of_length_eq_zero h2.2)
  · injection hv with hv
    refine .inr ⟨g, 0, hv, fun i hi => ?_⟩
    have hc := ssCells_get ss i hi
    rw [← hx] at hc
    simp only [List.getElem?_take] at hc
    rw [if_pos (by omega), if_pos (by omega)] at hc
    refine ⟨?_, ?_⟩
    · rw [Nat.zero_add, cell_of_row w g _ cur 84 (0, 0) hg]; simpa using hc.1
    · rw [Nat.zero_add, cell_of_row w g _ cur 84 (0, 0) hg]; simpa using hc.2

theorem new_se (w : World) (p : Nat × Nat) (t : TypeId) : ∀ j u, (seCells p)[j]? = some u → (w.alloc (.cells #[.int .u64 p.1, .int .u64 p.2] t)).cell? ((⟨w.heap.size, 0, none⟩ : Addr).add j) = some u := by
  intro j u hj
  match j, hj with
  | 0, hj => simp [seCells] at hj; subst hj; simp [Addr.add]
  | 1, hj => simp [seCells] at hj; subst hj; simp [Addr.add]
  | j + 2, hj => simp [seCells] at hj
theorem seCells_one (p : Nat × Nat) : ∀ u ∈ seCells p, u.oneCell' = true := by
  intro u hu
  simp [seCells] at hu
  rcases hu with rfl | rfl <;> rfl

def lastS (ss : List (Nat × Nat)) : Nat × Nat := ss.getLastD (0, 0)
theorem lastS_snoc (ss : List (Nat × Nat)) (p : Nat × Nat) : lastS (ss ++ [p]) = p := by simp [lastS, List.getLastD_eq_getLast?]

/-- steps.Follow -/
def followL (ts : List Tm) (cs : List Cl) : List St → List (Nat × Nat) → List (Nat × Nat)
  | [], ss => ss
  | s :: l, ss => if nextB ts cs ss s then followL ts cs l (ss ++ [nextS ts cs ss s]) else ss

def st0 : St := ⟨0, 0, 0, 0, 0⟩

/-- A slice of steps at address a reads as sts. -/
def StepsAt (w : World) (a : Option Addr) (sts : List St) : Prop :=
  sts = [] ∨ ∃ b o, a = some ⟨b, o, none⟩ ∧ ∀ i, i < sts.length → w.cell? ⟨b, o + i * 5, none⟩ = some (.int .i64 (sts.getD i st0).r) ∧ w.cell? ⟨b, o + i * 5 + 1, none⟩ = some (.int .i64 (sts.getD i st0).a) ∧
    w.cell? ⟨b, o + i * 5 + 2, none⟩ = some (.int .i64 (sts.getD i st0).b) ∧ w.cell? ⟨b, o + i * 5 + 3, none⟩ = some (.int .i64 (sts.getD i st0).c) ∧ w.cell? ⟨b, o + i * 5 + 4, none⟩ = some (.int .i64 (sts.getD i st0).d)

theorem StepsAt.below {w w' : World} {a : Option Addr} {sts : List St} (h : StepsAt w a sts) (hb : Below w.heap.size w w') : StepsAt w' a sts := by
  rcases h with h | ⟨b, o, rfl, h⟩
  · exact .inl h
  · exact .inr ⟨b, o, rfl, fun i hi => ⟨cell_below hb (h i hi).1, cell_below hb (h i hi).2.1, cell_below hb (h i hi).2.2.1, cell_below hb (h i hi).2.2.2.1, cell_below hb (h i hi).2.2.2.2⟩⟩

theorem StepsAt.get {w : World} {a : Option Addr} {sts : List St} (h : StepsAt w a sts) {i : Nat} (hi : i < sts.length) :
    ∃ b o, a = some ⟨b, o, none⟩ ∧ ∀ i, i < sts.length → w.cell? ⟨b, o + i * 5, none⟩ = some (.int .i64 (sts.getD i st0).r) ∧ w.cell? ⟨b, o + i * 5 + 1, none⟩ = some (.int .i64 (sts.getD i st0).a) ∧
    w.cell? ⟨b, o + i * 5 + 2, none⟩ = some (.int .i64 (sts.getD i st0).b) ∧ w.cell? ⟨b, o + i * 5 + 3, none⟩ = some (.int .i64 (sts.getD i st0).c) ∧ w.cell? ⟨b, o + i * 5 + 4, none⟩ = some (.int .i64 (sts.getD i st0).d) := by
  rcases h with h | h
  · subst h; simp at hi
  · exact h

/-- The worlds of Follow: the problem's box, the result's cell, the last clause's, the row of clauses. -/
def FW (w : World) (B : Nat) (p0 p1 v : Value) (ss : List (Nat × Nat)) (q : Nat × Nat) (W : World) : Prop :=
  W.cell? ⟨B, 0, none⟩ = some p0 ∧ W.cell? ⟨B, 1, none⟩ = some p1 ∧ W.cell? ⟨B + 1, 0, none⟩ = some (.int .u64 0) ∧ W.cell? ⟨B + 1, 1, none⟩ = some (.int .u64 0) ∧ W.frozen? ⟨B + 1, 0, none⟩ = false ∧ W.frozen? ⟨B + 1, 1, none⟩ = false ∧
  W.cell? ⟨B + 1 + 1, 0, none⟩ = some (.int .u64 q.1) ∧ W.cell? ⟨B + 1 + 1, 1, none⟩ = some (.int .u64 q.2) ∧ W.frozen? ⟨B + 1 + 1, 0, none⟩ = false ∧ W.frozen? ⟨B + 1 + 1, 1, none⟩ = false ∧
  W.ownsRow (B + 1 + 1 + 1) 84 2 v ss.length (ssCells ss) ∧ B + 1 + 1 + 1 ≤ W.heap.size ∧ Below B w W

theorem FW.below {w W W' : World} {B : Nat} {p0 p1 v : Value} {ss : List (Nat × Nat)} {q : Nat × Nat} (h : FW w B p0 p1 v ss q W) (hb : Below W.heap.size W W') : FW w B p0 p1 v ss q W' := by
  obtain ⟨h0, h1, h2, h3, h4, h5, h6, h7, h8, h9, h10, h11, h12⟩ := h
  exact ⟨cell_below hb h0, cell_below hb h1, cell_below hb h2, cell_below hb h3, frozen_below hb (by omega) h4, frozen_below hb (by omega) h5, cell_below hb h6, cell_below hb h7, frozen_below hb (by omega) h8, frozen_below hb (by omega) h9,
    own_below h10 hb, by have := hb.size; omega, h12.trans (hb.mono (by omega))⟩

theorem grown_frozen {w w' : World} {row : Option Nat} (hg : w.grownBy w' row) {b o : Nat} (hl : b < w.heap.size) (hne : some b ≠ row) (h : w.frozen? ⟨b, o, none⟩ = false) : w'.frozen? ⟨b, o, none⟩ = false := by
  rw [← h]; exact World.frozen?_of_block (w := w) (hg.block b hl hne)

theorem FW.append {w W W' : World} {B : Nat} {p0 p1 v v' : Value} {ss : List (Nat × Nat)} {q p : Nat × Nat} (h : FW w B p0 p1 v ss q W) (hg : W.grownBy W' v.ownBlock)
    (ho : W'.ownsRow (B + 1 + 1 + 1) 84 2 v' (ss.length + 1) (ssCells ss ++ seCells p)) : FW w B p0 p1 v' (ss ++ [p]) q W' := by
  obtain ⟨h0, h1, h2, h3, h4, h5, h6, h7, h8, h9, h10, h11, h12⟩ := h
  have hv : ∀ k, k < B + 1 + 1 + 1 → some k ≠ v.ownBlock := fun k hk e => by have := (h10.lt k e.symm).1; omega
  refine ⟨hg.cell h0 (hv B (by omega)), hg.cell h1 (hv B (by omega)), hg.cell h2 (hv (B + 1) (by omega)), hg.cell h3 (hv (B + 1) (by omega)), grown_frozen hg (by omega) (hv _ (by omega)) h4, grown_frozen hg (by omega) (hv _ (by omega)) h5,
    hg.cell h6 (hv (B + 1 + 1) (by omega)), hg.cell h7 (hv (B + 1 + 1) (by omega)), grown_frozen hg (by omega) (hv _ (by omega)) h8, grown_frozen hg (by omega) (hv _ (by omega)) h9, ?_, ?_, ?_⟩
  · rw [ssCells_snoc]; simpa using ho
  · have := hg.size; omega
  · exact h12.grown hg (by omega) (fun k hk => by have := (h10.lt k hk).1; omega)

theorem FW.store {w W : World} {B : Nat} {p0 p1 v : Value} {ss : List (Nat × Nat)} {q p : Nat × Nat} (h : FW w B p0 p1 v ss q W) :
    FW w B p0 p1 v ss p ((W.setCell ⟨B + 1 + 1, 0, none⟩ (.int .u64 p.1)).setCell ⟨B + 1 + 1, 1, none⟩ (.int .u64 p.2)) := by
  obtain ⟨h0, h1, h2, h3, h4, h5, h6, h7, h8, h9, h10, h11, h12⟩ := h
  exact ⟨set_other (by omega) (set_other (by omega) h0), set_other (by omega) (set_other (by omega) h1), set_other (by omega) (set_other (by omega) h2), set_other (by omega) (set_other (by omega) h3), set_frozen (set_frozen h4), set_frozen (set_frozen h5),
    set_other (by omega) (set_same h6), set_same (set_other (by omega) h7), set_frozen (set_frozen h8), set_frozen (set_frozen h9),
    own_setCell (own_setCell h10 (by show B + 1 + 1 < _; omega) _) (by show B + 1 + 1 < _; omega) _, by simpa using h11, (h12.setCell (p := ⟨B + 1 + 1, 0, none⟩) (by show B ≤ B + 1 + 1; omega) _).setCell (p := ⟨B + 1 + 1, 1, none⟩) (by show B ≤ B + 1 + 1; omega) _⟩

theorem lowL_of {n x y : Int} {b : Bool} (hn : n ≤ 9) (hx : belowB x n = true) (hy : belowB y n = true) : LowL 9 ⟨x, y, b⟩ := by
  simp [belowB] at hx hy
  exact ⟨hx.1, by show x < 9; omega, hy.1, by show y < 9; omega⟩

theorem congL_low {a b : Int} {xs ys : List Int} {k : Nat} (h : LowL 9 ⟨a, b, false⟩) (hx : ∀ i, i < k → 0 ≤ xs.getD i 0 ∧ xs.getD i 0 < 9) (hy : ∀ i, i < k → 0 ≤ ys.getD i 0 ∧ ys.getD i 0 < 9) : ∀ t ∈ congL a b xs ys k, LowL 9 t := by
  intro t ht
  simp only [congL, List.mem_cons, List.mem_map, List.mem_range] at ht
  rcases ht with rfl | ⟨i, hi, rfl⟩
  · exact h
  · exact ⟨(hx i hi).1, (hx i hi).2, (hy i hi).1, (hy i hi).2⟩

/-- All that a right step gives is of 64 bits. -/
theorem next_lt {ts : List Tm} {cs : List Cl} {ss : List (Nat × Nat)} {s : St} (hts : termsB ts = true) (hcl : clausesB ts.length cs = true) (h64 : ∀ p ∈ ss, p.1 < 18446744073709551616 ∧ p.2 < 18446744073709551616) (h : nextB ts cs ss s = true) :
    (nextS ts cs ss s).1 < 18446744073709551616 ∧ (nextS ts cs ss s).2 < 18446744073709551616 := by
  have h9 : (ts.length : Int) ≤ 9 := by have := (len_of hts).2; omega
  unfold nextB at h
  unfold nextS
  split at h
  · rename_i h0
    rw [if_pos h0]
    simp only [okG, Bool.and_eq_true] at h
    have ha := allB_iff.1 h.1 0 (by simp)
    have ha' : belowB s.a (cs.length : Nat) = true := ha
    simp [belowB] at ha'
    exact ofL_lt _ _ (clow_of hts hcl s.a.toNat (by omega)).2 (by decide) (by decide)
  · rename_i h0
    rw [if_neg h0]
    split at h
    · rename_i h1
      rw [if_pos h1]
      simp only [okR, Bool.and_eq_true] at h
      have ha : belowB s.a (ts.length : Nat) = true := allB_iff.1 h.1 0 (by simp)
      exact ofL_lt _ _ (by intro t ht; simp at ht; rw [ht]; exact lowL_of h9 ha ha) (by decide) (by decide)
    · rename_i h1
      rw [if_neg h1]
      split at h
      · rename_i h2
        rw [if_pos h2]
        simp only [okT, Bool.and_eq_true] at h
        have ha : belowB s.a (ts.length : Nat) = true := allB_iff.1 h.1 0 (by simp)
        have hb : belowB s.b (ts.length : Nat) = true := allB_iff.1 h.1 1 (by simp)
        have hc : belowB s.c (ts.length : Nat) = true := allB_iff.1 h.1 2 (by simp)
        refine ofL_lt _ _ ?_ (by decide) (by decide)
        intro t ht
        simp at ht
        rcases ht with rfl | rfl | rfl
        · exact lowL_of h9 ha hb
        · exact lowL_of h9 hb hc
        · exact lowL_of h9 ha hc
      · rename_i h2
        rw [if_neg h2]
        split at h
        · rename_i h3
          rw [if_pos h3]
          simp only [okC, Bool.and_eq_true] at h
          have ha : belowB s.a (ts.length : Nat) = true := allB_iff.1 h.1.1 0 (by simp)
          have hb : belowB s.b (ts.length : Nat) = true := allB_iff.1 h.1.1 1 (by simp)
          have hal := h.2
          simp only [alikeB, Bool.and_eq_true, decide_eq_true_eq] at hal
          have ha' := ha
          have hb' := hb
          simp [belowB] at ha' hb'
          have ai := argsIn_of hts (Nat.le_refl _) s.a.toNat (by omega)
          have aj := argsIn_of hts (Nat.le_refl _) s.b.toNat (by omega)
          refine ofL_lt _ _ (congL_low (lowL_of h9 ha hb) (fun i hi => ?_) (fun i hi => ?_)) (by decide) (by decide)
          · have := ai.2 i hi; omega
          · have := aj.2 i (by rw [← hal.2]; exact hi); omega
        · rename_i h3
          rw [if_neg h3]
          split at h
          · simp only [okX, Bool.and_eq_true] at h
            have ha : belowB s.a (ss.length : Nat) = true := allB_iff.1 h.1.1.1 0 (by simp)
            have hb : belowB s.b (ss.length : Nat) = true := allB_iff.1 h.1.1.1 1 (by simp)
            simp [belowB] at ha hb
            have x := h64 _ (getD_memS (ls := ss) (k := s.a.toNat) (by omega))
            have y := h64 _ (getD_memS (ls := ss) (k := s.b.toNat) (by omega))
            have x' := wout_lt x.1 x.2 (t := ⟨s.c, s.d, false⟩)
            have y' := wout_lt y.1 y.2 (t := ⟨s.c, s.d, true⟩)
            exact ⟨Nat.or_lt_two_pow (n := 64) x'.1 y'.1, Nat.or_lt_two_pow (n := 64) x'.2 y'.2⟩
          · cases h
end Go.Proofs.Ytjebhhoibofmfaa
