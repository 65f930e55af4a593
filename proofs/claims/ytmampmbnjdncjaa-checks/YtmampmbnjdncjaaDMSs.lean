import Derived.Test.YtmampmbnjdncjaaDMPf
import Derived.Test.YtmampmbnjdncjaaDMLw
namespace Go.Proofs.Ytmampmbnjdncjaa
open Go.RowKit
def SRow (w : World) (g : Nat) (ls : List St) : Prop := w.heap[g]? = some (.cells (stCells ls).toArray 62 (0, 0))
theorem SRow.cell {w : World} {g : Nat} {ls : List St} (h : SRow w g ls) {k : Nat} (hk : k < ls.length) :
    w.cell? ⟨g, k * 5, none⟩ = some (.int .i64 (ls.getD k st0).r) ∧ w.cell? ⟨g, k * 5 + 1, none⟩ = some (.int .i64 (ls.getD k st0).a) ∧ w.cell? ⟨g, k * 5 + 2, none⟩ = some (.int .i64 (ls.getD k st0).b) ∧ w.cell? ⟨g, k * 5 + 3, none⟩ = some (.int .i64 (ls.getD k st0).c) ∧ w.cell? ⟨g, k * 5 + 4, none⟩ = some (.int .i64 (ls.getD k st0).d) := by
  have := stCells_get ls k hk
  rw [cell_of_row _ _ _ _ _ _ h, cell_of_row _ _ _ _ _ _ h, cell_of_row _ _ _ _ _ _ h, cell_of_row _ _ _ _ _ _ h, cell_of_row _ _ _ _ _ _ h]
  simpa using this
theorem SRow.frozen {w : World} {g : Nat} {ls : List St} (h : SRow w g ls) (k : Nat) : w.frozen? ⟨g, k, none⟩ = false := frozen_of_row _ _ _ _ _ h
theorem SRow.lt {w : World} {g : Nat} {ls : List St} (h : SRow w g ls) : g < w.heap.size := (Array.getElem?_eq_some_iff.1 h).1
theorem SRow.up {w w' : World} {g : Nat} {ls : List St} (h : SRow w g ls) (hb : Below w.heap.size w w') : SRow w' g ls := (hb.block _ h.lt).trans h
theorem stCells_set (ls : List St) (l : St) : ∀ i, i < ls.length → (((((stCells ls).set (i * 5) (.int .i64 l.r)).set (i * 5 + 1) (.int .i64 l.a)).set (i * 5 + 2) (.int .i64 l.b)).set (i * 5 + 3) (.int .i64 l.c)).set (i * 5 + 4) (.int .i64 l.d) = stCells (ls.set i l) := by
  induction ls with
  | nil => intro i hi; simp at hi
  | cons t ts ih =>
    intro i hi
    cases i with
    | zero => rfl
    | succ i =>
      have := ih i (by simpa using hi)
      have e1 : (i + 1) * 5 = i * 5 + 5 := by omega
      have hc : ∀ q qs, stCells (q :: qs) = .int .i64 q.r :: .int .i64 q.a :: .int .i64 q.b :: .int .i64 q.c :: .int .i64 q.d :: stCells qs := fun _ _ => rfl
      show _ = stCells (t :: ts.set i l)
      rw [e1, hc, hc, ← this]
      rfl
theorem SRow.set {w : World} {g : Nat} {ls : List St} (h : SRow w g ls) {k : Nat} (hk : k < ls.length) (l : St) :
    SRow (((((w.setCell ⟨g, k * 5, none⟩ (.int .i64 l.r)).setCell ⟨g, k * 5 + 1, none⟩ (.int .i64 l.a)).setCell ⟨g, k * 5 + 2, none⟩ (.int .i64 l.b)).setCell ⟨g, k * 5 + 3, none⟩ (.int .i64 l.c)).setCell ⟨g, k * 5 + 4, none⟩ (.int .i64 l.d)) g (ls.set k l) := by
  unfold SRow
  have h1 := heap_setCell_same w g (k * 5) _ _ (.int .i64 l.r) h
  have h2 := heap_setCell_same _ g (k * 5 + 1) _ _ (.int .i64 l.a) h1
  have h3 := heap_setCell_same _ g (k * 5 + 2) _ _ (.int .i64 l.b) h2
  have h4 := heap_setCell_same _ g (k * 5 + 3) _ _ (.int .i64 l.c) h3
  have h5 := heap_setCell_same _ g (k * 5 + 4) _ _ (.int .i64 l.d) h4
  rw [h5, ← stCells_set ls l k hk]
  simp
theorem stCells_append (a b : List St) : stCells (a ++ b) = stCells a ++ stCells b := by simp [stCells]
def stM (x : Int) : St := ⟨x, 0, 0, 0, 0⟩
def fullToS (ls : List St) (k : Nat) : List St := ls ++ (List.replicate k (stM (-77)) ++ List.replicate (8 - k) st0)
def fullS (ls : List St) : List St := ls ++ List.replicate 8 (stM (-77))
theorem fullToS_all (ls : List St) : fullToS ls 8 = fullS ls := by simp [fullToS, fullS]
theorem fullToS_length (ls : List St) (k : Nat) (hk : k ≤ 8) : (fullToS ls k).length = ls.length + 8 := by simp [fullToS]; omega
theorem fullS_length (ls : List St) : (fullS ls).length = ls.length + 8 := by simp [fullS]
theorem fullToS_set (ls : List St) (k : Nat) (hk : k < 8) : (fullToS ls k).set (ls.length + k) (stM (-77)) = fullToS ls (k + 1) := by
  unfold fullToS
  rw [List.set_append_right _ _ (by omega), show ls.length + k - ls.length = k by omega, List.set_append_right _ _ (by simp), List.length_replicate, Nat.sub_self]
  obtain ⟨m, hm⟩ : ∃ m, 8 - k = m + 1 := ⟨8 - k - 1, by omega⟩
  rw [hm, show 8 - (k + 1) = m by omega, List.replicate_succ, List.set_cons_zero, List.replicate_succ']
  simp
theorem fullS_mt (xs : List St) : ∀ i, i < xs.length + 8 → (fullS xs).getD i st0 = if i < xs.length then xs.getD i st0 else stM (-77) := by
  intro i hi
  unfold fullS
  by_cases h : i < xs.length
  · rw [if_pos h, List.getD_eq_getElem?_getD, List.getElem?_append_left h, ← List.getD_eq_getElem?_getD]
  · rw [if_neg h, List.getD_eq_getElem?_getD, List.getElem?_append_right (by omega), List.getElem?_replicate, if_pos (by omega)]; rfl
theorem made_steps (n : Nat) : madeCells #[.int .i64 0, .int .i64 0, .int .i64 0, .int .i64 0, .int .i64 0] (n * 5) = (stCells (List.replicate n st0)).toArray := by
  apply Array.ext
  · rw [size_madeCells]; simp [stCells_length]
  · intro i h1 h2
    rw [size_madeCells] at h1
    have hz : ∀ (k : Nat) (h : k < n * 5), (stCells (List.replicate n st0))[k]? = some (.int .i64 0) := by
      intro k hk
      obtain ⟨q, r, hr, rfl⟩ : ∃ q r, r < 5 ∧ k = q * 5 + r := ⟨k / 5, k % 5, Nat.mod_lt _ (by omega), by omega⟩
      have hq : q < n := by omega
      have hg := stCells_get (List.replicate n st0) q (by simpa using hq)
      have e0 : (List.replicate n st0).getD q st0 = st0 := by simp [hq]
      rw [e0] at hg
      rcases (show r = 0 ∨ r = 1 ∨ r = 2 ∨ r = 3 ∨ r = 4 by omega) with rfl | rfl | rfl | rfl | rfl
      · exact hg.1
      · exact hg.2.1
      · exact hg.2.2.1
      · exact hg.2.2.2.1
      · exact hg.2.2.2.2
    have h3 := hz i h1
    rw [List.getElem?_eq_some_iff] at h3
    obtain ⟨_, e⟩ := h3
    simp only [List.getElem_toArray, e]
    obtain ⟨q, r, hr, rfl⟩ : ∃ q r, r < 5 ∧ i = q * 5 + r := ⟨i / 5, i % 5, Nat.mod_lt _ (by omega), by omega⟩
    rcases (show r = 0 ∨ r = 1 ∨ r = 2 ∨ r = 3 ∨ r = 4 by omega) with rfl | rfl | rfl | rfl | rfl
    · simp [madeCells, Nat.mul_mod_left]
    · simp [madeCells, show (q * 5 + 1) % 5 = 1 by omega]
    · simp [madeCells, show (q * 5 + 2) % 5 = 2 by omega]
    · simp [madeCells, show (q * 5 + 3) % 5 = 3 by omega]
    · simp [madeCells, show (q * 5 + 4) % 5 = 4 by omega]
theorem StepsAt.src {w : World} {a : Option Addr} {ls : List St} (h : StepsAt w a ls) : stCells ls = [] ∨ ∃ ad, a = some ad ∧ ∀ j v, (stCells ls)[j]? = some v → w.cell? (ad.add j) = some v := by
  rcases h with rfl | ⟨b, o, rfl, h⟩
  · exact .inl rfl
  · refine .inr ⟨_, rfl, fun j v hj => ?_⟩
    have hadd : (⟨b, o, none⟩ : Addr).add j = ⟨b, o + j, none⟩ := by unfold Addr.add; split <;> simp_all
    by_cases hl : j < ls.length * 5
    · obtain ⟨q, r, hr, rfl⟩ : ∃ q r, r < 5 ∧ j = q * 5 + r := ⟨j / 5, j % 5, Nat.mod_lt _ (by omega), by omega⟩
      have hq : q < ls.length := by omega
      have hg := stCells_get ls q hq
      obtain ⟨c1, c2, c3, c4, c5⟩ := h q hq
      rw [hadd]
      rcases (show r = 0 ∨ r = 1 ∨ r = 2 ∨ r = 3 ∨ r = 4 by omega) with rfl | rfl | rfl | rfl | rfl
      · rw [Nat.add_zero] at *; rw [hg.1] at hj; rw [c1]; exact hj
      · rw [hg.2.1] at hj; rw [← Nat.add_assoc, c2]; exact hj
      · rw [hg.2.2.1] at hj; rw [← Nat.add_assoc, c3]; exact hj
      · rw [hg.2.2.2.1] at hj; rw [← Nat.add_assoc, c4]; exact hj
      · rw [hg.2.2.2.2] at hj; rw [← Nat.add_assoc, c5]; exact hj
    · rw [List.getElem?_eq_none (by rw [stCells_length]; omega)] at hj; cases hj
theorem stCells_one (ls : List St) : ∀ u ∈ stCells ls, u.oneCell' = true := by
  intro u hu
  simp only [stCells, List.mem_flatMap] at hu
  obtain ⟨l, _, hl⟩ := hu
  exact siCells_one l u hl
theorem steps_of_full {w : World} {g : Nat} {ls : List St} (h : SRow w g (fullS ls)) : StepsAt w (some ⟨g, 0, none⟩) ls := by
  refine .inr ⟨g, 0, rfl, fun i hi => ?_⟩
  have := h.cell (k := i) (by rw [fullS_length]; omega)
  rw [fullS_mt ls i (by omega), if_pos hi] at this
  rw [Nat.zero_add]
  exact this
set_option maxRecDepth 100000 in
set_option maxHeartbeats 400000 in
theorem fullSteps_nil (w : World) : Calls Try.prog 42 #[.slice none 0 0] w fun e w' => e = .returned (.slice none 0 0) ∧ w' = w := by
  have qn := nil_eql 34 62 Try.underlying34
  go_enter Try.func42, Try.ntmps42
  go_wp2_with fail
  go_ret
  exact ⟨rfl, rfl⟩
set_option maxRecDepth 100000 in
set_option maxHeartbeats 1000000 in
theorem fullSteps_any (ad : Addr) (cap : Nat) (ls : List St) (w : World) (hx : StepsAt w (some ad) ls) (hlen : ls.length ≤ 3518437208883) :
    Calls Try.prog 42 #[.slice (some ad) ls.length cap] w fun e w' => e = .returned (.slice (some ⟨w.heap.size, 0, none⟩) (ls.length + 8) (ls.length + 8)) ∧ SRow w' w.heap.size (fullS ls) ∧ Below w.heap.size w w' := by
  obtain ⟨i1, hi1, hy0, hy1, hy2⟩ := info_parts info_step
  have hsz : (Try.prog.info? 62).map (·.size) = some 5 := by rw [hi1]; simp [hy1]
  have qn := nil_eql 34 62 Try.underlying34
  go_enter Try.func42, Try.ntmps42
  go_upto_region 4 with (at_make; refine wpList_make_any _ rfl _ _ 34 rfl 62 i1 (.agg #[.int .i64 0, .int .i64 0, .int .i64 0, .int .i64 0, .int .i64 0]) 5 Try.underlying34 hi1 hy0 hy1 _ _ _ _ (ls.length + 8) rfl rfl (by omega) (by omega) (by rw [hy2]; omega) (by omega) ?_)
  have hb0 : Below w.heap.size w (w.alloc (.cells (madeCells #[.int .i64 0, .int .i64 0, .int .i64 0, .int .i64 0, .int .i64 0] ((ls.length + 8) * 5)) 62)) := (Below.refl _ _).alloc (Nat.le_refl _) _
  have hg0 : (w.alloc (.cells (madeCells #[.int .i64 0, .int .i64 0, .int .i64 0, .int .i64 0, .int .i64 0] ((ls.length + 8) * 5)) 62)).heap[w.heap.size]? = some (.cells (stCells (List.replicate (ls.length + 8) st0)).toArray 62 (0, 0)) := by
    rw [made_steps]
    exact heap_at_new _ _ _ rfl
  have hsrc := (hx.below hb0).src
  go_wp2_with (refine wpList_copy_rows rfl (.tmp 11) (.tmp 12) 34 34 rfl 62 5 Try.underlying34 hsz (by decide) w.heap.size (ls.length + 8) (ls.length + 8) (some ad) ls.length cap rfl rfl (stCells (List.replicate (ls.length + 8) st0)) 62 hg0 (stCells ls) (by rw [stCells_length]; simp) hsrc (by rw [stCells_length, stCells_length, List.length_replicate]; omega) (stCells_one _) ?_)
  intro w1 hg1 hgr1
  have hrow1 : SRow w1 w.heap.size (fullToS ls 0) := by
    unfold SRow
    rw [hg1]
    congr 3
    rw [← List.replicate_append_replicate, stCells_append, show (stCells ls).length = (stCells (List.replicate ls.length st0)).length by rw [stCells_length, stCells_length, List.length_replicate], List.drop_left]
    simp [fullToS, stCells_append]
  have hb1 : Below w.heap.size w w1 := hb0.grown hgr1 (by simp) (fun k hk => by injection hk with hk; omega)
  clear hg1 hgr1 hg0 hb0 hsrc
  go_wp2_with fail
  go_loopg [4] 8 (fun q s wx => ∃ k : Nat, q = 8 - k ∧ k ≤ 8 ∧ s = .int .i64 ((ls.length + k : Nat) : Int) ∧ SRow wx w.heap.size (fullToS ls k) ∧ Below w.heap.size w wx)
  case atStart => exact ⟨0, rfl, by omega, rfl, hrow1, hb1⟩
  case round =>
    obtain ⟨k, rfl, hk, rfl, hrow, hbx⟩ := hrel
    by_cases hlt : k < 8
    · obtain ⟨ck0, ck1, ck2, ck3, ck4⟩ := hrow.cell (k := ls.length + k) (by rw [fullToS_length _ _ hk]; omega)
      have fk0 := hrow.frozen ((ls.length + k) * 5)
      have fk1 := hrow.frozen ((ls.length + k) * 5 + 1)
      have fk2 := hrow.frozen ((ls.length + k) * 5 + 2)
      have fk3 := hrow.frozen ((ls.length + k) * 5 + 3)
      have fk4 := hrow.frozen ((ls.length + k) * 5 + 4)
      have Hs : Hid ((fullToS ls k).set (ls.length + k) (stM (-77)) = fullToS ls (k + 1)) := fullToS_set ls k hlt
      have Hl : Hid (ls.length + k < (fullToS ls k).length) := by show _ < _; rw [fullToS_length _ _ hk]; omega
      generalize ((fullToS ls k).getD (ls.length + k) st0).r = o1 at *
      generalize ((fullToS ls k).getD (ls.length + k) st0).a = o2 at *
      generalize ((fullToS ls k).getD (ls.length + k) st0).b = o3 at *
      generalize ((fullToS ls k).getD (ls.length + k) st0).c = o4 at *
      generalize ((fullToS ls k).getD (ls.length + k) st0).d = o5 at *
      generalize hi : ls.length + k = i at *
      have hil : i < ls.length + 8 := by omega
      have Hi := hide hi
      clear hi
      go_wp2_with fail
      go_roundg (8 - (k + 1))
      case measure => omega
      case rel => exact ⟨k + 1, rfl, by omega, by have := Hi.out; congr 1; omega, by rw [← Hs.out]; exact hrow.set Hl.out (stM (-77)), ((((hbx.setCell (Nat.le_refl _) _).setCell (Nat.le_refl _) _).setCell (Nat.le_refl _) _).setCell (Nat.le_refl _) _).setCell (Nat.le_refl _) _⟩
    · have Hk : Hid (k = 8) := by show k = 8; omega
      generalize hi : ls.length + k = i at *
      have hil : ¬ i < ls.length + 8 := by omega
      clear hi
      go_wp2_with fail
      go_ret
      exact ⟨rfl, by rw [← fullToS_all]; rw [Hk.out] at hrow; exact hrow, hbx⟩
end Go.Proofs.Ytmampmbnjdncjaa
namespace Go.Proofs.Ytmampmbnjdncjaa
open Go.RowKit
def overS (os : List St) (k : Nat) : List St := List.replicate k (stM (-99)) ++ os.drop k
theorem overS_length (os : List St) {k : Nat} (h : k ≤ os.length) : (overS os k).length = os.length := by simp [overS]; omega
theorem overS_get (os : List St) {k : Nat} : (overS os k).getD k st0 = os.getD k st0 := by
  simp [overS, List.getElem?_append_right]
theorem overS_set (os : List St) {k : Nat} (h : k < os.length) : (overS os k).set k (stM (-99)) = overS os (k + 1) := by
  unfold overS
  rw [List.set_append_right _ _ (by simp), List.length_replicate, Nat.sub_self, List.drop_eq_getElem_cons h, List.set_cons_zero, List.replicate_succ']
  simp
theorem stillSteps_nil (la : Option Addr) (n lc : Nat) (w : World) : Calls Try.prog 43 #[.slice none 0 0, .slice la n lc] w fun e w' => e = .returned (.bool true) ∧ w' = w := by
  go_enter Try.func43, Try.ntmps43
  go_wp2_with fail
  refine wp_loop_rounds 1 ?_
  rw [rounds_succ]
  go_wp2_with fail
  go_ret
  exact ⟨rfl, rfl⟩
set_option maxRecDepth 100000 in
set_option maxHeartbeats 2000000 in
theorem stillSteps_any (W : World) (g m cap : Nat) (os : List St) (la : Option Addr) (lc : Nat) (xs : List St) (w : World) (hW : Below W.heap.size W w) (hg : W.heap.size ≤ g) (hx : StepsAt W la xs) (hrow : SRow w g os) (hm : m ≤ os.length)
    (hbig : os.length ≤ 4611686018427387904) (hmt : ∀ i, i < m → os.getD i st0 = if i < xs.length then xs.getD i st0 else stM (-77)) :
    Calls Try.prog 43 #[.slice (some ⟨g, 0, none⟩) m cap, .slice la xs.length lc] w fun e w' => e = .returned (.bool true) ∧ w.grownBy w' (some g) := by
  have Hmt := hide hmt
  clear hmt
  have hglt := hrow.lt
  go_enter Try.func43, Try.ntmps43
  go_wp2_with fail
  go_loopg [5] m (fun q s wx => ∃ k : Nat, q = m - k ∧ k ≤ m ∧ s = .int .i64 k ∧ SRow wx g (overS os k) ∧ w.grownBy wx (some g))
  case atStart => exact ⟨0, rfl, by omega, rfl, hrow, World.grownBy.refl _ _⟩
  case round =>
    obtain ⟨k, rfl, hk, rfl, hr, hgr⟩ := hrel
    by_cases hlt : k < m
    · obtain ⟨c0, c1, c2, c3, c4⟩ := hr.cell (k := k) (by rw [overS_length _ (by omega)]; omega)
      have f0 := hr.frozen (k * 5)
      have f1 := hr.frozen (k * 5 + 1)
      have f2 := hr.frozen (k * 5 + 2)
      have f3 := hr.frozen (k * 5 + 3)
      have f4 := hr.frozen (k * 5 + 4)
      have hgw := hr.lt
      rw [overS_get] at c0 c1 c2 c3 c4
      have hk1 := Hmt.out k hlt
      have Hs : Hid ((overS os k).set k (stM (-99)) = overS os (k + 1)) := overS_set os (by omega)
      have Hl : Hid (k < (overS os k).length) := by show _ < _; rw [overS_length _ (by omega)]; omega
      by_cases hl : k < xs.length
      · rw [if_pos hl] at hk1
        have hbx : Below W.heap.size W wr := hW.grown hgr hW.size (fun q hq => by injection hq with hq; omega)
        obtain ⟨b, o, rfl, xc⟩ := (hx.below hbx).get hl
        obtain ⟨x0, x1, x2, x3, x4⟩ := xc k hl
        have hbw := block_lt x0
        rw [hk1] at c0 c1 c2 c3 c4
        clear hk1 xc
        have hg1 : decide ((xs.length : Int) ≤ (k : Int)) = false := by simp; omega
        have hg2 : decide (xs.length ≤ k) = false := by simp; omega
        generalize (xs.getD k st0).r = v1 at *
        generalize (xs.getD k st0).a = v2 at *
        generalize (xs.getD k st0).b = v3 at *
        generalize (xs.getD k st0).c = v4 at *
        generalize (xs.getD k st0).d = v5 at *
        go_upto_region 5 with fail
        go_quiet (fail)
        go_wp2_with fail
        go_roundg (m - (k + 1))
        case measure => omega
        case rel => exact ⟨k + 1, rfl, by omega, by go_num, by rw [← Hs.out]; exact SRow.set (heap_at_old _ _ hr) Hl.out (stM (-99)), grown_set (grown_set (grown_set (grown_set (grown_set (grown_drewN (grown_alloc hgr _) _)))))⟩
      · rw [if_neg hl] at hk1
        rw [hk1] at c0 c1 c2 c3 c4
        clear hk1
        simp only [stM] at c0 c1 c2 c3 c4
        have hg1 : decide ((k : Int) < (xs.length : Int)) = false := by simp; omega
        have hg2 : decide (xs.length ≤ k) = true := by simp; omega
        have hg3 : decide (k < xs.length) = false := by simp; omega
        go_upto_region 5 with fail
        go_quiet (fail)
        go_wp2_with fail
        go_roundg (m - (k + 1))
        case measure => omega
        case rel => exact ⟨k + 1, rfl, by omega, by go_num, by rw [← Hs.out]; exact SRow.set (heap_at_old _ _ hr) Hl.out (stM (-99)), grown_set (grown_set (grown_set (grown_set (grown_set (grown_drewN (grown_alloc hgr _) _)))))⟩
    · go_wp2_with fail
      go_ret
      exact ⟨rfl, hgr⟩
set_option maxRecDepth 100000 in
set_option maxHeartbeats 400000 in
theorem sameLits_any (a b : Option Addr) (ac bc : Nat) (xs : List Lt) (w : World) (ha : LitsAt w a xs) (hb : LitsAt w b xs) (hl : xs.length ≤ 4611686018427387904) :
    Calls Try.prog 45 #[.slice a xs.length ac, .slice b xs.length bc] w fun e w' => e = .returned (.bool true) ∧ ∃ n, w' = w.drewN n := by
  have hne : ((xs.length : Int) != (xs.length : Int)) = false := by simp
  go_enter Try.func45, Try.ntmps45
  go_wp2_with fail
  go_loopg [5] xs.length (fun g s wr => ∃ k : Nat, g = xs.length - k ∧ k ≤ xs.length ∧ s = .int .i64 k ∧ ∃ n, wr = w.drewN n)
  case atStart => exact ⟨0, by omega, Nat.zero_le _, rfl, 0, rfl⟩
  case round =>
    obtain ⟨k, rfl, hk, rfl, n0, rfl⟩ := hrel
    by_cases hlt : k < xs.length
    · obtain ⟨ab, ao, rfl, acell⟩ := ha.get hlt
      obtain ⟨bb, bo, rfl, bcell⟩ := hb.get hlt
      obtain ⟨a1, a2, a3⟩ := acell k hlt
      obtain ⟨b1, b2, b3⟩ := bcell k hlt
      generalize (xs.getD k lt0).x = v1 at *
      generalize (xs.getD k lt0).y = v2 at *
      generalize (xs.getD k lt0).n = v3 at *
      clear acell bcell
      go_upto_region 6 with fail
      go_quiet (fail)
      go_wp2_with fail
      go_roundg (xs.length - (k + 1))
      case measure => omega
      case rel => exact ⟨k + 1, by omega, by omega, by go_num, _, rfl⟩
    · go_wp2_with fail
      go_ret
      exact ⟨rfl, _, rfl⟩
end Go.Proofs.Ytmampmbnjdncjaa
