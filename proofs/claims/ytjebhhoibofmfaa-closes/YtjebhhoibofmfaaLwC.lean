import Derived.Test.YtjebhhoibofmfaaLwB
namespace Go.Proofs.Ytjebhhoibofmfaa
open Go.RowKit

/-- A row of literals, whole. -/
def LRow (w : World) (g : Nat) (ls : List Lt) : Prop := w.heap[g]? = some (.cells (lsCells ls).toArray 50 (0, 0))

theorem LRow.cell {w : World} {g : Nat} {ls : List Lt} (h : LRow w g ls) {k : Nat} (hk : k < ls.length) :
    w.cell? ⟨g, k * 3, none⟩ = some (.int .i64 (ls.getD k lt0).x) ∧ w.cell? ⟨g, k * 3 + 1, none⟩ = some (.int .i64 (ls.getD k lt0).y) ∧ w.cell? ⟨g, k * 3 + 2, none⟩ = some (.bool (ls.getD k lt0).n) := by
  have := lsCells_get ls k hk
  rw [cell_of_row _ _ _ _ _ _ h, cell_of_row _ _ _ _ _ _ h, cell_of_row _ _ _ _ _ _ h]
  simpa using this
theorem LRow.frozen {w : World} {g : Nat} {ls : List Lt} (h : LRow w g ls) (k : Nat) : w.frozen? ⟨g, k, none⟩ = false := frozen_of_row _ _ _ _ _ h
theorem LRow.lt {w : World} {g : Nat} {ls : List Lt} (h : LRow w g ls) : g < w.heap.size := (Array.getElem?_eq_some_iff.1 h).1

theorem lsCells_set (ls : List Lt) (l : Lt) : ∀ i, i < ls.length → (((lsCells ls).set (i * 3) (.int .i64 l.x)).set (i * 3 + 1) (.int .i64 l.y)).set (i * 3 + 2) (.bool l.n) = lsCells (ls.set i l) := by
  induction ls with
  | nil => intro i hi; simp at hi
  | cons t ts ih =>
    intro i hi
    cases i with
    | zero => rfl
    | succ i =>
      have := ih i (by simpa using hi)
      have e1 : (i + 1) * 3 = i * 3 + 3 := by omega
      have hc : ∀ q qs, lsCells (q :: qs) = .int .i64 q.x :: .int .i64 q.y :: .bool q.n :: lsCells qs := fun _ _ => rfl
      show _ = lsCells (t :: ts.set i l)
      rw [e1, hc, hc, ← this]
      rfl

theorem LRow.set {w : World} {g : Nat} {ls : List Lt} (h : LRow w g ls) {k : Nat} (hk : k < ls.length) (l : Lt) :
    LRow (((w.setCell ⟨g, k * 3, none⟩ (.int .i64 l.x)).setCell ⟨g, k * 3 + 1, none⟩ (.int .i64 l.y)).setCell ⟨g, k * 3 + 2, none⟩ (.bool l.n)) g (ls.set k l) := by
  unfold LRow
  have h1 := heap_setCell_same w g (k * 3) _ _ (.int .i64 l.x) h
  have h2 := heap_setCell_same _ g (k * 3 + 1) _ _ (.int .i64 l.y) h1
  have h3 := heap_setCell_same _ g (k * 3 + 2) _ _ (.bool l.n) h2
  rw [h3, ← lsCells_set ls l k hk]
  simp

theorem lsCells_append (a b : List Lt) : lsCells (a ++ b) = lsCells a ++ lsCells b := by simp [lsCells]

def ltM (x : Int) : Lt := ⟨x, 0, false⟩
def fullToL (ls : List Lt) (k : Nat) : List Lt := ls ++ (List.replicate k (ltM (-77)) ++ List.replicate (8 - k) lt0)
def fullL (ls : List Lt) : List Lt := ls ++ List.replicate 8 (ltM (-77))
theorem fullToL_all (ls : List Lt) : fullToL ls 8 = fullL ls := by simp [fullToL, fullL]
theorem fullToL_length (ls : List Lt) (k : Nat) (hk : k ≤ 8) : (fullToL ls k).length = ls.length + 8 := by simp [fullToL]; omega
theorem fullL_length (ls : List Lt) : (fullL ls).length = ls.length + 8 := by simp [fullL]
theorem fullToL_set (ls : List Lt) (k : Nat) (hk : k < 8) : (fullToL ls k).set (ls.length + k) (ltM (-77)) = fullToL ls (k + 1) := by
  unfold fullToL
  rw [List.set_append_right _ _ (by omega), show ls.length + k - ls.length = k by omega, List.set_append_right _ _ (by simp), List.length_replicate, Nat.sub_self]
  obtain ⟨m, hm⟩ : ∃ m, 8 - k = m + 1 := ⟨8 - k - 1, by omega⟩
  rw [hm, show 8 - (k + 1) = m by omega, List.replicate_succ, List.set_cons_zero, List.replicate_succ']
  simp

theorem made_lits (n : Nat) : madeCells #[.int .i64 0, .int .i64 0, .bool false] (n * 3) = (lsCells (List.replicate n lt0)).toArray := by
  apply Array.ext
  · rw [size_madeCells]; simp [lsCells_length]
  · intro i h1 h2
    rw [size_madeCells] at h1
    obtain ⟨q, r, hr, rfl⟩ : ∃ q r, r < 3 ∧ i = q * 3 + r := ⟨i / 3, i % 3, Nat.mod_lt _ (by omega), by omega⟩
    have hq : q < n := by omega
    have hg := lsCells_get (List.replicate n lt0) q (by simpa using hq)
    have e0 : (List.replicate n lt0).getD q lt0 = lt0 := by simp [hq]
    rw [e0] at hg
    rcases (show r = 0 ∨ r = 1 ∨ r = 2 by omega) with rfl | rfl | rfl
    · have := hg.1
      rw [List.getElem?_eq_some_iff] at this
      obtain ⟨_, e⟩ := this
      have e' : (lsCells (List.replicate n lt0))[q * 3 + 0]'(by simpa using h2) = .int .i64 lt0.x := e
      simp only [List.getElem_toArray, e']
      simp [madeCells, lt0, Nat.mul_mod_left]
    · have := hg.2.1
      rw [List.getElem?_eq_some_iff] at this
      obtain ⟨_, e⟩ := this
      simp only [List.getElem_toArray, e]
      simp [madeCells, lt0, show (q * 3 + 1) % 3 = 1 by omega]
    · have := hg.2.2
      rw [List.getElem?_eq_some_iff] at this
      obtain ⟨_, e⟩ := this
      simp only [List.getElem_toArray, e]
      simp [madeCells, lt0, show (q * 3 + 2) % 3 = 2 by omega]

theorem LitsAt.src {w : World} {a : Option Addr} {ls : List Lt} (h : LitsAt w a ls) : lsCells ls = [] ∨ ∃ ad, a = some ad ∧ ∀ j v, (lsCells ls)[j]? = some v → w.cell? (ad.add j) = some v := by
  rcases h with rfl | ⟨b, o, rfl, h⟩
  · exact .inl rfl
  · refine .inr ⟨_, rfl, fun j v hj => ?_⟩
    have hadd : (⟨b, o, none⟩ : Addr).add j = ⟨b, o + j, none⟩ := by unfold Addr.add; split <;> simp_all
    by_cases hl : j < ls.length * 3
    · obtain ⟨q, r, hr, rfl⟩ : ∃ q r, r < 3 ∧ j = q * 3 + r := ⟨j / 3, j % 3, Nat.mod_lt _ (by omega), by omega⟩
      have hq : q < ls.length := by omega
      have hg := lsCells_get ls q hq
      obtain ⟨c1, c2, c3⟩ := h q hq
      rw [hadd]
      rcases (show r = 0 ∨ r = 1 ∨ r = 2 by omega) with rfl | rfl | rfl
      · rw [Nat.add_zero] at *; rw [hg.1] at hj; rw [c1]; exact hj
      · rw [hg.2.1] at hj; rw [← Nat.add_assoc, c2]; exact hj
      · rw [hg.2.2] at hj; rw [← Nat.add_assoc, c3]; exact hj
    · rw [List.getElem?_eq_none (by rw [lsCells_length]; omega)] at hj; cases hj

theorem lsCells_one (ls : List Lt) : ∀ u ∈ lsCells ls, u.oneCell' = true := by
  intro u hu
  simp only [lsCells, List.mem_flatMap] at hu
  obtain ⟨l, _, hl⟩ := hu
  exact ltCells_one l u hl

set_option maxRecDepth 100000 in
set_option maxHeartbeats 400000 in
theorem fullLits_nil (w : World) : Calls Try.prog 55 #[.slice none 0 0] w fun e w' => e = .returned (.slice none 0 0) ∧ w' = w := by
  have qn := nil_eql 43 50 Try.underlying43
  go_enter Try.func55, Try.ntmps55
  go_wp2_with fail
  go_ret
  exact ⟨rfl, rfl⟩

set_option maxRecDepth 100000 in
set_option maxHeartbeats 400000 in
theorem fullLits_any (ad : Addr) (cap : Nat) (ls : List Lt) (w : World) (hx : LitsAt w (some ad) ls) (hlen : ls.length ≤ 5864062014634) :
    Calls Try.prog 55 #[.slice (some ad) ls.length cap] w fun e w' => e = .returned (.slice (some ⟨w.heap.size, 0, none⟩) (ls.length + 8) (ls.length + 8)) ∧ LRow w' w.heap.size (fullL ls) ∧ Below w.heap.size w w' := by
  obtain ⟨i1, hi1, hy0, hy1, hy2⟩ := info_parts info_lit
  have hsz : (Try.prog.info? 50).map (·.size) = some 3 := by rw [hi1]; simp [hy1]
  have qn := nil_eql 43 50 Try.underlying43
  go_enter Try.func55, Try.ntmps55
  go_upto_region 4 with (at_make; refine wpList_make_any _ rfl _ _ 43 rfl 50 i1 (.agg #[.int .i64 0, .int .i64 0, .bool false]) 3 Try.underlying43 hi1 hy0 hy1 _ _ _ _ (ls.length + 8) rfl rfl (by omega) (by omega) (by rw [hy2]; omega) (by omega) ?_)
  have hb0 : Below w.heap.size w (w.alloc (.cells (madeCells #[.int .i64 0, .int .i64 0, .bool false] ((ls.length + 8) * 3)) 50)) := (Below.refl _ _).alloc (Nat.le_refl _) _
  have hg0 : (w.alloc (.cells (madeCells #[.int .i64 0, .int .i64 0, .bool false] ((ls.length + 8) * 3)) 50)).heap[w.heap.size]? = some (.cells (lsCells (List.replicate (ls.length + 8) lt0)).toArray 50 (0, 0)) := by
    rw [made_lits]
    exact heap_at_new _ _ _ rfl
  have hsrc := (hx.below hb0).src
  go_wp2_with (refine wpList_copy_rows rfl (.tmp 11) (.tmp 12) 43 43 rfl 50 3 Try.underlying43 hsz (by decide) w.heap.size (ls.length + 8) (ls.length + 8) (some ad) ls.length cap rfl rfl (lsCells (List.replicate (ls.length + 8) lt0)) 50 hg0 (lsCells ls) (by rw [lsCells_length]; simp) hsrc (by rw [lsCells_length, lsCells_length, List.length_replicate]; omega) (lsCells_one _) ?_)
  intro w1 hg1 hgr1
  have hrow1 : LRow w1 w.heap.size (fullToL ls 0) := by
    unfold LRow
    rw [hg1]
    congr 3
    rw [← List.replicate_append_replicate, lsCells_append, show (lsCells ls).length = (lsCells (List.replicate ls.length lt0)).length by rw [lsCells_length, lsCells_length, List.length_replicate], List.drop_left]
    simp [fullToL, lsCells_append]
  have hb1 : Below w.heap.size w w1 := hb0.grown hgr1 (by simp) (fun k hk => by injection hk with hk; omega)
  clear hg1 hgr1 hg0 hb0 hsrc
  go_wp2_with fail
  go_loopg [4] 8 (fun q s wx => ∃ k : Nat, q = 8 - k ∧ k ≤ 8 ∧ s = .int .i64 ((ls.length + k : Nat) : Int) ∧ LRow wx w.heap.size (fullToL ls k) ∧ Below w.heap.size w wx)
  case atStart => exact ⟨0, rfl, by omega, rfl, hrow1, hb1⟩
  case round =>
    obtain ⟨k, rfl, hk, rfl, hrow, hbx⟩ := hrel
    by_cases hlt : k < 8
    · obtain ⟨ck0, ck1, ck2⟩ := hrow.cell (k := ls.length + k) (by rw [fullToL_length _ _ hk]; omega)
      have fk0 := hrow.frozen ((ls.length + k) * 3)
      have fk1 := hrow.frozen ((ls.length + k) * 3 + 1)
      have fk2 := hrow.frozen ((ls.length + k) * 3 + 2)
      have Hs : Hid ((fullToL ls k).set (ls.length + k) (ltM (-77)) = fullToL ls (k + 1)) := fullToL_set ls k hlt
      have Hl : Hid (ls.length + k < (fullToL ls k).length) := by show _ < _; rw [fullToL_length _ _ hk]; omega
      generalize ((fullToL ls k).getD (ls.length + k) lt0).x = o1 at *
      generalize ((fullToL ls k).getD (ls.length + k) lt0).y = o2 at *
      generalize ((fullToL ls k).getD (ls.length + k) lt0).n = o3 at *
      generalize hi : ls.length + k = i at *
      have hil : i < ls.length + 8 := by omega
      have Hi := hide hi
      clear hi
      go_wp2_with fail
      go_roundg (8 - (k + 1))
      case measure => omega
      case rel => exact ⟨k + 1, rfl, by omega, by have := Hi.out; congr 1; omega, by rw [← Hs.out]; exact hrow.set Hl.out (ltM (-77)), ((hbx.setCell (Nat.le_refl _) _).setCell (Nat.le_refl _) _).setCell (Nat.le_refl _) _⟩
    · have Hk : Hid (k = 8) := by show k = 8; omega
      generalize hi : ls.length + k = i at *
      have hil : ¬ i < ls.length + 8 := by omega
      clear hi
      go_wp2_with fail
      go_ret
      exact ⟨rfl, by rw [← fullToL_all]; rw [Hk.out] at hrow; exact hrow, hbx⟩
end Go.Proofs.Ytjebhhoibofmfaa
