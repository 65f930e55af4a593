import Derived.Test.YtjebhhoibofmfaaSuA
import Derived.Deep.RegionLawGrows
namespace Go.Proofs.Ytjebhhoibofmfaa
open Go.RowKit

theorem info_step : (Try.prog.info? 62).map (fun i => (i.zero, i.size, i.bytes)) = some (some (.agg #[.int .i64 0, .int .i64 0, .int .i64 0, .int .i64 0, .int .i64 0]), 5, 40) := by kernel_rfl

def siCells (s : St) : List Value := [.int .i64 s.r, .int .i64 s.a, .int .i64 s.b, .int .i64 s.c, .int .i64 s.d]
def stCells (sts : List St) : List Value := sts.flatMap siCells
theorem stCells_snoc (sts : List St) (s : St) : stCells (sts ++ [s]) = stCells sts ++ siCells s := by simp [stCells]
theorem stCells_length (sts : List St) : (stCells sts).length = sts.length * 5 := by
  induction sts with
  | nil => rfl
  | cons t ts ih => simp only [stCells, List.flatMap_cons, List.length_append, siCells, List.length_cons, List.length_nil] at *; omega

theorem stCells_get (sts : List St) : ∀ i, i < sts.length → (stCells sts)[i * 5]? = some (.int .i64 (sts.getD i st0).r) ∧ (stCells sts)[i * 5 + 1]? = some (.int .i64 (sts.getD i st0).a) ∧ (stCells sts)[i * 5 + 2]? = some (.int .i64 (sts.getD i st0).b) ∧
    (stCells sts)[i * 5 + 3]? = some (.int .i64 (sts.getD i st0).c) ∧ (stCells sts)[i * 5 + 4]? = some (.int .i64 (sts.getD i st0).d) := by
  induction sts with
  | nil => intro i hi; simp at hi
  | cons t ts ih =>
    intro i hi
    cases i with
    | zero => exact ⟨rfl, rfl, rfl, rfl, rfl⟩
    | succ i =>
      have h := ih i (by simpa using hi)
      have hc : stCells (t :: ts) = .int .i64 t.r :: .int .i64 t.a :: .int .i64 t.b :: .int .i64 t.c :: .int .i64 t.d :: stCells ts := rfl
      rw [hc, show (i + 1) * 5 = i * 5 + 1 + 1 + 1 + 1 + 1 by omega]
      simpa using h

theorem stepsAt_of_own {w : World} {base : Nat} {a : Option Addr} {cap : Nat} {sts : List St} (h : w.ownsRow base 62 5 (.slice a sts.length cap) sts.length (stCells sts)) : StepsAt w a sts := by
  obtain ⟨h1, h2 | ⟨g, cap', cur, hv, hb, hg, hn, hm, hc, hx⟩⟩ := h
  · exact .inl (List.eq_nil_of_length_eq_zero h2.2)
  · injection hv with hv
    refine .inr ⟨g, 0, hv, fun i hi => ?_⟩
    have hc := stCells_get sts i hi
    rw [← hx] at hc
    simp only [List.getElem?_take] at hc
    rw [if_pos (by omega), if_pos (by omega), if_pos (by omega), if_pos (by omega), if_pos (by omega)] at hc
    refine ⟨?_, ?_, ?_, ?_, ?_⟩ <;> rw [Nat.zero_add, cell_of_row w g _ cur 62 (0, 0) hg]
    · simpa using hc.1
    · simpa using hc.2.1
    · simpa using hc.2.2.1
    · simpa using hc.2.2.2.1
    · simpa using hc.2.2.2.2

theorem new_si (w : World) (s : St) (t : TypeId) : ∀ j u, (siCells s)[j]? = some u → (w.alloc (.cells #[.int .i64 s.r, .int .i64 s.a, .int .i64 s.b, .int .i64 s.c, .int .i64 s.d] t)).cell? ((⟨w.heap.size, 0, none⟩ : Addr).add j) = some u := by
  intro j u hj
  match j, hj with
  | 0, hj => simp [siCells] at hj; subst hj; simp [Addr.add]
  | 1, hj => simp [siCells] at hj; subst hj; simp [Addr.add]
  | 2, hj => simp [siCells] at hj; subst hj; simp [Addr.add]
  | 3, hj => simp [siCells] at hj; subst hj; simp [Addr.add]
  | 4, hj => simp [siCells] at hj; subst hj; simp [Addr.add]
  | j + 5, hj => simp [siCells] at hj
theorem siCells_one (s : St) : ∀ u ∈ siCells s, u.oneCell' = true := by
  intro u hu
  simp [siCells] at hu
  rcases hu with rfl | rfl | rfl | rfl | rfl <;> rfl

theorem own_cells {w : World} {base : Nat} {a : Option Addr} {n cap : Nat} {xs : List Value} {e : TypeId} {size : Nat} (h : w.ownsRow base e size (.slice a n cap) n xs) : ∀ b, a = some b → ∀ j u, xs[j]? = some u → w.cell? (b.add j) = some u := by
  intro b hb j u hj
  obtain ⟨h1, h2 | ⟨g, cap', cur, hv, hb', hg, hn, hm, hc, hx⟩⟩ := h
  · have := h2.1; rw [hb] at this; cases this
  · injection hv with hv
    rw [hb] at hv
    injection hv with hv
    subst hv
    rw [← hx] at hj
    simp only [List.getElem?_take] at hj
    split at hj
    · rw [show ((⟨g, 0, none⟩ : Addr).add j) = ⟨g, 0 + j, none⟩ from by simp [Addr.add]; exact Eq.symm, Nat.zero_add, cell_of_row w g _ cur e (0, 0) hg]; simpa using hj
    · cases hj

theorem own_none {w : World} {base : Nat} {a : Option Addr} {n cap : Nat} {xs : List Value} {e : TypeId} {size : Nat} (h : w.ownsRow base e size (.slice a n cap) n xs) : (a = none → n = 0 ∧ cap = 0) ∧ n ≤ cap := by
  obtain ⟨h1, h2 | ⟨g, cap', cur, hv, hb', hg, hn, hm, hc, hx⟩⟩ := h
  · have := h2.1; injection this with e1 e2 e3; exact ⟨fun _ => ⟨e2, e3⟩, by omega⟩
  · injection hv with e1 e2 e3
    exact ⟨(fun h => by rw [h] at e1; cases e1), (by omega)⟩

theorem keep3' {W W' : World} {a a' b b' c c' : Nat} {x y z : Value} (hb : Below W.heap.size W W') (h : W.cell? ⟨a, a', none⟩ = some x ∧ W.cell? ⟨b, b', none⟩ = some y ∧ W.cell? ⟨c, c', none⟩ = some z) :
    W'.cell? ⟨a, a', none⟩ = some x ∧ W'.cell? ⟨b, b', none⟩ = some y ∧ W'.cell? ⟨c, c', none⟩ = some z := ⟨cell_below hb h.1, cell_below hb h.2.1, cell_below hb h.2.2⟩

/-- One step more. -/
theorem fol_snoc (ts : List Tm) (cs : List Cl) (s : St) : ∀ (l : List St) (ss : List (Nat × Nat)), (followL ts cs l ss).length = ss.length + l.length →
    followL ts cs (l ++ [s]) ss = if nextB ts cs (followL ts cs l ss) s then followL ts cs l ss ++ [nextS ts cs (followL ts cs l ss) s] else followL ts cs l ss
  | [], ss, _ => rfl
  | t :: l, ss, h => by
    rw [List.cons_append]
    unfold followL at h ⊢
    split
    · rename_i hn
      rw [if_pos hn] at h
      have h' : (followL ts cs l (ss ++ [nextS ts cs ss t])).length = (ss ++ [nextS ts cs ss t]).length + l.length := by simp at h ⊢; omega
      have := fol_snoc ts cs s l _ h'
      rw [this]
    · rename_i hn
      rw [if_neg hn] at h
      simp at h

theorem fol_take (ts : List Tm) (cs : List Cl) : ∀ (l : List St) (ss : List (Nat × Nat)) (n : Nat), (followL ts cs l ss).length = ss.length + l.length → (followL ts cs (l.take n) ss).length = ss.length + (l.take n).length
  | [], ss, n, _ => by simp [followL]
  | t :: l, ss, 0, _ => by simp [followL]
  | t :: l, ss, n + 1, h => by
    rw [List.take_succ_cons]
    unfold followL at h ⊢
    split
    · rename_i hn
      rw [if_pos hn] at h
      have h' : (followL ts cs l (ss ++ [nextS ts cs ss t])).length = (ss ++ [nextS ts cs ss t]).length + l.length := by simp at h ⊢; omega
      have := fol_take ts cs l _ n h'
      rw [this]; simp; omega
    · rename_i hn
      rw [if_neg hn] at h
      simp at h

/-- What Check says of steps, one behind others that are right. -/
theorem chk_snoc {ts : List Tm} {cs : List Cl} {sts : List St} (s : St) (hr : refuseI ts cs = 0) (h : (followL ts cs sts []).length = sts.length) :
    (chkE ts cs (sts ++ [s]) = 4 ∧ folN ts cs (sts ++ [s]) = sts.length) ∨
    ((chkE ts cs (sts ++ [s]) = 0 ∨ chkE ts cs (sts ++ [s]) = 5) ∧ folN ts cs (sts ++ [s]) = (sts.length + 1 : Nat) ∧ (followL ts cs (sts ++ [s]) []).length = (sts ++ [s]).length) := by
  have hs := fol_snoc ts cs s sts [] (by simpa using h)
  have hE : folE ts cs (sts ++ [s]) = if (followL ts cs (sts ++ [s]) []).length < (sts ++ [s]).length then 4 else 0 := by unfold folE; rw [if_pos hr]
  have hN : folN ts cs (sts ++ [s]) = ((followL ts cs (sts ++ [s]) []).length : Nat) := by unfold folN; rw [if_pos hr]
  cases hn : nextB ts cs (followL ts cs sts []) s with
  | false =>
    rw [hn] at hs
    simp at hs
    rw [hs] at hE hN
    rw [if_pos (by simp; omega)] at hE
    refine .inl ⟨?_, by rw [hN, h]⟩
    unfold chkE; rw [hE]; rfl
  | true =>
    rw [hn] at hs
    have hl : (followL ts cs (sts ++ [s]) []).length = sts.length + 1 := by rw [hs]; simp [h]
    rw [hl] at hE hN
    rw [if_neg (by simp)] at hE
    refine .inr ⟨?_, hN, by rw [hl]; simp⟩
    unfold chkE
    rw [hE, if_pos rfl, hN, if_neg (by omega)]
    split
    · exact .inl rfl
    · exact .inr rfl
end Go.Proofs.Ytjebhhoibofmfaa
