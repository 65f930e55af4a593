import Derived.Test.YtjebhhoibofmfaaXLtO
namespace Go.Proofs.Ytjebhhoibofmfaa
open Go.RowKit

theorem info_step : (Try.prog.info? 62).map (fun i => (i.zero, i.size, i.bytes)) = some (some (.agg #[.int .i64 0, .int .i64 0, .int .i64 0, .int .i64 0, .int .i64 0]), 5, 40) := by kernel_rfl

def siCells (s : St) : List Value := [.int .i64 s.r, .int .i64 s.a, .int .i64 s.b, .int .i64 s.c, .int .i64 s.d]
def stCells (sts : List St) : List Value := sts.flatMap siCells
theorem stCells_snoc (sts : List St) (s : St) : stCells (sts ++ [s]) = stCells sts ++ siCells s := by simp [stCells]
theorem stCells_length (sts : List St) : (stCells sts).length = sts.length * 5 := by
  induction sts with
  | nil => rfl
  | cons t ts ih => simp only [stCells, List.flatMap_cons, List.length_append, siCells, List.length_cons, List.length_nil] at *; omega

theorem stCells_get (sts : List St) : ∀ i, i < sts.length → (stCells sts)[i * 5]? = some (.int .i64 (sts.getD i st0).r) ∧ (stCells sts)[i * 5 + 1]? = some (.int .i64 (sts.getD i st0).a) ∧ (stCells sts)[i * 5 + 2]? = some (.int .i64 (sts.getD i st0).b) ∧
    (stCells sts)[i * 5 + 3]? = some (.int .i64 (sts.getD i st0).c) ∧ (stCells sts)[i * 5 + 4]? = some (.int .i64 (sts.getD i st0).d) := by
  induction sts with
  | nil => intro i hi; simp at hi
  | cons t ts ih =>
    intro i hi
    cases i with
    | zero => exact ⟨rfl, rfl, rfl, rfl, rfl⟩
    | succ i =>
      have h := ih i (by simpa using hi)
      have hc : stCells (t :: ts) = .int .i64 t.r :: .int .i64 t.a :: .int .i64 t.b :: .int .i64 t.c :: .int .i64 t.d :: stCells ts := rfl
      rw [hc, show (i + 1) * 5 = i * 5 + 1 + 1 + 1 + 1 + 1 by omega]
      simpa using h

theorem stepsAt_of_own {w : World} {base : Nat} {a : Option Addr} {cap : Nat} {sts : List St} (h : w.ownsRow base 62 5 (.slice a sts.length cap) sts.length (stCells sts)) : StepsAt w a sts := by
  obtain ⟨h1, h2 | ⟨g, cap', cur, hv, hb, hg, hn, hm, hc, hx⟩⟩ := h
  · exact .inl (List.eq_nil_of_length_eq_zero h2.2)
  · injection hv with hv
    refine .inr ⟨g, 0, hv, fun i hi => ?_⟩
    have hc := stCells_get sts i hi
    rw [← hx] at hc
    simp only [List.getElem?_take] at hc
    rw [if_pos (by omega), if_pos (by omega), if_pos (by omega), if_pos (by omega), if_pos (by omega)] at hc
    refine ⟨?_, ?_, ?_, ?_, ?_⟩ <;> rw [Nat.zero_add, cell_of_row w g _ cur 62 (0, 0) hg]
    · simpa using hc.1
    · simpa using hc.2.1
    · simpa using hc.2.2.1
    · simpa using hc.2.2.2.1
    · simpa using hc.2.2.2.2

theorem new_si (w : World) (s : St) (t : TypeId) : ∀ j u, (siCells s)[j]? = some u → (w.alloc (.cells #[.int .i64 s.r, .int .i64 s.a, .int .i64 s.b, .int .i64 s.c, .int .i64 s.d] t)).cell? ((⟨w.heap.size, 0, none⟩ : Addr).add j) = some u := by
  intro j u hj
  match j, hj with
  | 0, hj => simp [siCells] at hj; subst hj; simp [Addr.add]
  | 1, hj => simp [siCells] at hj; subst hj; simp [Addr.add]
  | 2, hj => simp [siCells] at hj; subst hj; simp [Addr.add]
  | 3, hj => simp [siCells] at hj; subst hj; simp [Addr.add]
  | 4, hj => simp [siCells] at hj; subst hj; simp [Addr.add]
  | j + 5, hj => simp [siCells] at hj
theorem siCells_one (s : St) : ∀ u ∈ siCells s, u.oneCell' = true := by
  intro u hu
  simp [siCells] at hu
  rcases hu with rfl | rfl | rfl | rfl | rfl <;> rfl
end Go.Proofs.Ytjebhhoibofmfaa
