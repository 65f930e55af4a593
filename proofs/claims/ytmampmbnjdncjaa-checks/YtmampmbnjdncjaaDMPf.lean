import Derived.Test.YtmampmbnjdncjaaDMLx
namespace Go.Proofs.Ytmampmbnjdncjaa
open Go.RowKit
theorem info_step : (Try.prog.info? 62).map (fun i => (i.zero, i.size, i.bytes)) = some (some (.agg #[.int .i64 0, .int .i64 0, .int .i64 0, .int .i64 0, .int .i64 0]), 5, 40) := by kernel_rfl
def siCells (s : St) : List Value := [.int .i64 s.r, .int .i64 s.a, .int .i64 s.b, .int .i64 s.c, .int .i64 s.d]
def stCells (sts : List St) : List Value := sts.flatMap siCells
theorem stCells_length (sts : List St) : (stCells sts).length = sts.length * 5 := by
  induction sts with
  | nil => rfl
  | cons t ts ih => simp only [stCells, List.flatMap_cons, List.length_append, siCells, List.length_cons, List.length_nil] at *; omega
theorem stCells_get (sts : List St) : ∀ i, i < sts.length → (stCells sts)[i * 5]? = some (.int .i64 (sts.getD i st0).r) ∧ (stCells sts)[i * 5 + 1]? = some (.int .i64 (sts.getD i st0).a) ∧ (stCells sts)[i * 5 + 2]? = some (.int .i64 (sts.getD i st0).b) ∧
    (stCells sts)[i * 5 + 3]? = some (.int .i64 (sts.getD i st0).c) ∧ (stCells sts)[i * 5 + 4]? = some (.int .i64 (sts.getD i st0).d) := by
  induction sts with
  | nil => intro i hi; simp at hi
  | cons t ts ih =>
    intro i hi
    cases i with
    | zero => exact ⟨rfl, rfl, rfl, rfl, rfl⟩
    | succ i =>
      have h := ih i (by simpa using hi)
      have hc : stCells (t :: ts) = .int .i64 t.r :: .int .i64 t.a :: .int .i64 t.b :: .int .i64 t.c :: .int .i64 t.d :: stCells ts := rfl
      rw [hc, show (i + 1) * 5 = i * 5 + 1 + 1 + 1 + 1 + 1 by omega]
      simpa using h
theorem siCells_one (s : St) : ∀ u ∈ siCells s, u.oneCell' = true := by
  intro u hu
  simp [siCells] at hu
  rcases hu with rfl | rfl | rfl | rfl | rfl <;> rfl
end Go.Proofs.Ytmampmbnjdncjaa
