import Derived.Test.YtjebhhoibofmfaaClA
namespace Go.Proofs.Ytjebhhoibofmfaa
open Go.RowKit

theorem info_pair : (Try.prog.info? 29).map (fun i => (i.zero, i.size, i.bytes)) = some (some (.agg #[.int .i64 0, .int .i64 0]), 2, 16) := by kernel_rfl

def prCells (p : Pr) : List Value := [.int .i64 p.x, .int .i64 p.y]
def psCells (ps : List Pr) : List Value := ps.flatMap prCells
theorem psCells_snoc (ps : List Pr) (p : Pr) : psCells (ps ++ [p]) = psCells ps ++ prCells p := by simp [psCells]

theorem psCells_get (ps : List Pr) : ∀ i, i < ps.length → (psCells ps)[i * 2]? = some (.int .i64 (ps.getD i pr0).x) ∧ (psCells ps)[i * 2 + 1]? = some (.int .i64 (ps.getD i pr0).y) := by
  induction ps with
  | nil => intro i hi; simp at hi
  | cons t ts ih =>
    intro i hi
    cases i with
    | zero => exact ⟨rfl, rfl⟩
    | succ i =>
      have := ih i (by simpa using hi)
      have e1 : (i + 1) * 2 = i * 2 + 2 := by omega
      have hc : psCells (t :: ts) = .int .i64 t.x :: .int .i64 t.y :: psCells ts := rfl
      rw [e1, hc]
      simpa using this

theorem pairsAt_of_own {w : World} {base : Nat} {a : Option Addr} {cap : Nat} {ps : List Pr} (h : w.ownsRow base 29 2 (.slice a ps.length cap) ps.length (psCells ps)) : PairsAt w a ps := by
  rcases h.2 with ⟨_, hn⟩ | ⟨g, cap, cur, hv, hb, hg, h1, h2, h3, h4⟩
  · exact .inl (List.length_eq_zero_iff.1 hn)
  · injection hv with hv _ _
    subst hv
    refine .inr ⟨g, 0, rfl, fun i hi => ?_⟩
    have hc := psCells_get ps i hi
    rw [← h4, List.getElem?_take, List.getElem?_take] at hc
    rw [if_pos (by omega), if_pos (by omega)] at hc
    refine ⟨?_, ?_⟩
    · rw [Nat.zero_add, cell_of_row w g _ cur 29 (0, 0) hg]; simpa using hc.1
    · rw [Nat.zero_add, cell_of_row w g _ cur 29 (0, 0) hg]; simpa using hc.2

theorem new_pr (w : World) (p : Pr) (t : TypeId) : ∀ j u, (prCells p)[j]? = some u → (w.alloc (.cells #[.int .i64 p.x, .int .i64 p.y] t)).cell? ((⟨w.heap.size, 0, none⟩ : Addr).add j) = some u := by
  intro j u hj
  match j, hj with
  | 0, hj => simp [prCells] at hj; subst hj; simp [Addr.add]
  | 1, hj => simp [prCells] at hj; subst hj; simp [Addr.add]
  | j + 2, hj => simp [prCells] at hj
theorem prCells_one (p : Pr) : ∀ u ∈ prCells p, u.oneCell' = true := by
  intro u hu
  simp [prCells] at hu
  rcases hu with rfl | rfl <;> rfl

/-- The marks, one pair more joined. -/
def joinP (m : List Int) (p : Pr) : List Int := joinL m (m.getD p.x.toNat 0) (m.getD p.y.toNat 0)
/-- The marks when all links have been joined, one behind the other. -/
def mksOf (n : Nat) (L : List Pr) : List Int := L.foldl joinP (apart n)
theorem mksOf_nil (n : Nat) : mksOf n [] = apart n := rfl
theorem mksOf_snoc (n : Nat) (L : List Pr) (p : Pr) : mksOf n (L ++ [p]) = joinP (mksOf n L) p := by simp [mksOf]
/-- Links: each joins what those ahead have not joined, and is one of the pairs, or forced by those ahead. -/
def LinksOk (ts : List Tm) (ps L : List Pr) : Prop :=
  ∀ k, k < L.length → ∃ i j : Nat, L.getD k pr0 = ⟨i, j⟩ ∧ i < ts.length ∧ j < ts.length ∧ (mksOf ts.length (L.take k)).getD i 0 ≠ (mksOf ts.length (L.take k)).getD j 0 ∧
    ((∃ t, t < ps.length ∧ ps.getD t pr0 = ⟨i, j⟩) ∨ (j < i ∧ mustB ts (mksOf ts.length (L.take k)) i j = true))
theorem LinksOk.nil (ts : List Tm) (ps : List Pr) : LinksOk ts ps [] := fun k hk => absurd hk (by simp)
theorem LinksOk.snoc {ts : List Tm} {ps L : List Pr} (h : LinksOk ts ps L) {i j : Nat} (hi : i < ts.length) (hj : j < ts.length)
    (hn : (mksOf ts.length L).getD i 0 ≠ (mksOf ts.length L).getD j 0)
    (hw : (∃ t, t < ps.length ∧ ps.getD t pr0 = ⟨i, j⟩) ∨ (j < i ∧ mustB ts (mksOf ts.length L) i j = true)) : LinksOk ts ps (L ++ [⟨i, j⟩]) := by
  intro k hk
  rw [List.length_append, List.length_singleton] at hk
  by_cases hl : k < L.length
  · obtain ⟨i', j', h1, h2⟩ := h k hl
    refine ⟨i', j', ?_, ?_⟩
    · rw [List.getD_eq_getElem?_getD, List.getElem?_append_left hl, ← List.getD_eq_getElem?_getD]; exact h1
    · rw [List.take_append_of_le_length (by omega)]; exact h2
  · have e : k = L.length := by omega
    subst e
    refine ⟨i, j, ?_, ?_⟩
    · rw [List.getD_eq_getElem?_getD, List.getElem?_append_right (Nat.le_refl _), Nat.sub_self]; rfl
    · rw [List.take_left]; exact ⟨hi, hj, hn, hw⟩
theorem joinP_nat (m : List Int) (i j : Nat) : joinP m ⟨i, j⟩ = joinL m (m.getD i 0) (m.getD j 0) := rfl

end Go.Proofs.Ytjebhhoibofmfaa
