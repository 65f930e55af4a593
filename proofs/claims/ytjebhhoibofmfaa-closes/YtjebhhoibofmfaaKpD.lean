import Derived.Test.YtjebhhoibofmfaaKpC
namespace Go.Proofs.Ytjebhhoibofmfaa
open Go.RowKit

theorem info_lit : (Try.prog.info? 50).map (fun i => (i.zero, i.size, i.bytes)) = some (some (.agg #[.int .i64 0, .int .i64 0, .bool false]), 3, 24) := by kernel_rfl
theorem info_lits : (Try.prog.info? 43).map (fun i => (i.zero, i.size, i.bytes)) = some (some (.slice none 0 0), 1, 24) := by kernel_rfl

def small50 (r : Nat) : Prop := (r : Int) < 1125899906842624

theorem new_lt (w : World) (l : Lt) (t : TypeId) : ∀ j u, (ltCells l)[j]? = some u → (w.alloc (.cells #[.int .i64 l.x, .int .i64 l.y, .bool l.n] t)).cell? ((⟨w.heap.size, 0, none⟩ : Addr).add j) = some u := by
  intro j u hj
  match j, hj with
  | 0, hj => simp [ltCells] at hj; subst hj; simp [Addr.add]
  | 1, hj => simp [ltCells] at hj; subst hj; simp [Addr.add]
  | 2, hj => simp [ltCells] at hj; subst hj; simp [Addr.add]
  | j + 3, hj => simp [ltCells] at hj

theorem new_one (w : World) (v : Value) (t : TypeId) : ∀ j u, [v][j]? = some u → (w.alloc (.cells #[v] t)).cell? ((⟨w.heap.size, 0, none⟩ : Addr).add j) = some u := by
  intro j u hj
  match j, hj with
  | 0, hj => simp at hj; subst hj; simp [Addr.add]
  | j + 1, hj => simp at hj

theorem ltCells_one (l : Lt) : ∀ u ∈ ltCells l, u.oneCell' = true := by
  intro u hu
  simp [ltCells] at hu
  rcases hu with rfl | rfl | rfl <;> rfl

def litOf (q n : Nat) : Lt := ⟨(IntKind.i64.wrap ((q : Int) / 8)).tmod n, (IntKind.i64.wrap ((q : Int) / 64)).tmod n, (IntKind.i64.wrap ((q : Int) / 512)).tmod 2 == 1⟩

/-- Clauses in rows of the call's own. -/
def CsOwn (B : Nat) (wr : World) (v : Value) (cs : List Cl) : Prop :=
  wr.ownsRow B 43 1 v cs.length (csCells cs) ∧ ∀ i, i < cs.length → wr.ownsRow B 50 3 (clVal (cs.getD i cl0)) (cs.getD i cl0).ls.length (lsCells (cs.getD i cl0).ls)

theorem CsOwn.at {B : Nat} {w : World} {v : Value} {cs : List Cl} (h : CsOwn B w v cs) : ∃ a cap, v = .slice a cs.length cap ∧ ClausesAt w a cs := by
  obtain ⟨a, cap, rfl⟩ := own_val h.1
  exact ⟨a, cap, rfl, clausesAt_of_own h.1 (fun i hi => litsAt_of_own (h.2 i hi))⟩

theorem CsOwn.below {B : Nat} {w w' : World} {v : Value} {cs : List Cl} (h : CsOwn B w v cs) (hb : Below w.heap.size w w') : CsOwn B w' v cs := ⟨own_below h.1 hb, fun i hi => own_below (h.2 i hi) hb⟩

theorem own_base {w : World} {base base' : Nat} {e : TypeId} {size : Nat} {v : Value} {n : Nat} {xs : List Value} (h : w.ownsRow base e size v n xs) (hb : base' ≤ base) : w.ownsRow base' e size v n xs := by
  refine ⟨h.1, ?_⟩
  rcases h.2 with h2 | ⟨g, cap, cur, hv, hg, r⟩
  · exact Or.inl h2
  · exact Or.inr ⟨g, cap, cur, hv, by omega, r⟩

/-- The state of 'problem' ahead of a round. -/
def PR (n : Nat) (w wr : World) (tsl pv : Value) (cs : List Cl) : Prop :=
  wr.heap[w.heap.size]? = some (.cells #[.slice none 0 0, .slice none 0 0] 33 (0, 0)) ∧ wr.heap[w.heap.size + 1]? = some (.cells #[tsl, pv] 33 (0, 0)) ∧
  CsOwn (w.heap.size + 2) wr pv cs ∧ clausesB n cs = true ∧ Below w.heap.size w wr

theorem clausesB_snoc {n : Int} {cs : List Cl} {q : Cl} (h : clausesB n cs = true) (h8 : cs.length ≤ 15) (hq : clauseB n q.ls = true) : clausesB n (cs ++ [q]) = true := by
  refine clausesB_yes (by simp; omega) ?_
  intro k hk
  simp only [List.length_append, List.length_cons, List.length_nil] at hk
  by_cases hkl : k < cs.length
  · rw [getD_snoc_lt _ _ _ hkl]
    simp only [clausesB, Bool.and_eq_true] at h
    exact allB_iff.1 h.2 k hkl
  · have : k = cs.length := by omega
    subst this
    rw [getD_snoc_eq]
    exact hq

/-- One clause more: it has been built in w1 (its row above all that was there in wr), appended in w2, stored. -/
theorem PR.step {n : Nat} {w wr w1 w2 : World} {tsl pv pv' : Value} {cs : List Cl} {a : Option Addr} {cap : Nat} {ls : List Lt} {o : Obj} (h : PR n w wr tsl pv cs) (hb : Below wr.heap.size wr w1)
    (hl : w1.ownsRow wr.heap.size 50 3 (.slice a ls.length cap) ls.length (lsCells ls)) (hq : clauseB n ls = true) (h8 : cs.length ≤ 15)
    (hown : w2.ownsRow (w.heap.size + 2) 43 1 pv' (cs.length + 1) (csCells cs ++ [.slice a ls.length cap])) (hg : (w1.alloc o).grownBy w2 pv.ownBlock) :
    PR n w (w2.setCell ⟨w.heap.size + 1, 1, none⟩ pv') tsl pv' (cs ++ [⟨a, cap, ls⟩]) := by
  obtain ⟨h1, h2, h3, h4, h5⟩ := h
  have hs2 : w.heap.size + 2 ≤ wr.heap.size := by have := (Array.getElem?_eq_some_iff.1 h2).1; omega
  have hb1 : Below wr.heap.size wr (w1.alloc o) := hb.alloc hb.size _
  have hrow : ∀ k, pv.ownBlock = some k → w.heap.size + 2 ≤ k ∧ k < wr.heap.size := fun k hk => h3.1.lt k hk
  have hold : ∀ k, k < w.heap.size + 2 → (w2.heap[k]? = wr.heap[k]?) := by
    intro k hk
    rw [hg.block k (by have := hb1.size; omega) (fun e => by have := (hrow k e.symm).1; omega)]
    exact hb1.block k (by omega)
  have e1 := (hold w.heap.size (by omega)).trans h1
  have e2 := (hold (w.heap.size + 1) (by omega)).trans h2
  have hcs : CsOwn (w.heap.size + 2) w2 pv' (cs ++ [⟨a, cap, ls⟩]) := by
    refine ⟨by rw [csCells_snoc]; simpa [clVal] using hown, ?_⟩
    intro i hi
    have ht : ∀ g, pv.ownBlock = some g → ∃ cur e', (w1.alloc o).heap[g]? = some (.cells cur e' (0, 0)) ∧ e' ≠ 50 := own_type (own_below h3.1 hb1) (by decide)
    simp only [List.length_append, List.length_cons, List.length_nil] at hi
    by_cases hil : i < cs.length
    · rw [getD_snoc_lt _ _ _ hil]
      exact own_apart (own_below (h3.2 i hil) hb1) hg ht
    · have : i = cs.length := by omega
      subst this
      rw [getD_snoc_eq]
      exact own_apart (own_base (hl.alloc o) hs2) hg ht
  refine ⟨?_, ?_, ⟨own_setCell hcs.1 (by show w.heap.size + 1 < _; omega) _, fun i hi => own_setCell (hcs.2 i hi) (by show w.heap.size + 1 < _; omega) _⟩, clausesB_snoc h4 h8 hq, ?_⟩
  · rw [heap_setCell_other _ _ _ _ (by show w.heap.size ≠ w.heap.size + 1; omega)]; exact e1
  · rw [heap_setCell_same _ _ _ _ _ _ e2]; rfl
  · refine Below.setCell ((h5.trans (hb1.mono h5.size)).grown hg (Nat.le_trans h5.size hb1.size) (fun k hk => by have := (hrow k hk).1; omega)) (by show w.heap.size ≤ w.heap.size + 1; omega) _

theorem PR.kept {n : Nat} {w wr w1 w2 : World} {tsl pv : Value} {cs : List Cl} {o : Obj} (h : PR n w wr tsl pv cs) (hb : Below wr.heap.size wr w1) (hg : (w1.alloc o).grownBy w2 pv.ownBlock) :
    w2.heap[w.heap.size + 1]? = some (.cells #[tsl, pv] 33 (0, 0)) := by
  obtain ⟨h1, h2, h3, h4, h5⟩ := h
  have hs2 := (Array.getElem?_eq_some_iff.1 h2).1
  have hb1 : Below wr.heap.size wr (w1.alloc o) := hb.alloc hb.size _
  rw [hg.block _ (by have := hb1.size; omega) (fun e => by have := (h3.1.lt _ e.symm).1; omega), hb1.block _ hs2]
  exact h2

theorem wrap_small {x : Int} (h0 : 0 ≤ x) (h1 : x < 9223372036854775808) : IntKind.i64.wrap x = x := by rw [IntKind.wrap_i64]; omega
theorem wrap64_small {x : Int} (h0 : 0 ≤ x) (h1 : x < 9223372036854775808) : wrap64 x = x := by unfold wrap64; omega

theorem made_bound {q n : Nat} {d : Int} (hq : small50 q) (hn : 1 ≤ n) (hd : 1 ≤ d) : belowB ((IntKind.i64.wrap ((q : Int) / d)).tmod n) n = true := by
  unfold small50 at hq
  have h0 : 0 ≤ (q : Int) / d := Int.ediv_nonneg (by omega) (by omega)
  have h1 : (q : Int) / d ≤ q := Int.ediv_le_self _ (by omega)
  rw [wrap_small h0 (by omega), Int.tmod_eq_emod_of_nonneg h0]
  exact belowB_iff.2 ⟨Int.emod_nonneg _ (by omega), Int.emod_lt_of_pos _ (by omega)⟩

theorem next_small {q : Nat} (hq : small50 q) : small50 (q / 1024) ∧ wrap64 ((q : Int) / 1024) = ((q / 1024 : Nat) : Int) := by
  unfold small50 at *
  exact ⟨by omega, by rw [wrap64_small (by omega) (by omega)]; omega⟩

theorem litsOk_snoc {n : Int} {ls : List Lt} {l : Lt} (h : ∀ t, t < ls.length → litOk n (ls.getD t lt0) = true) (hl : litOk n l = true) : ∀ t, t < (ls ++ [l]).length → litOk n ((ls ++ [l]).getD t lt0) = true := by
  intro t ht
  simp only [List.length_append, List.length_cons, List.length_nil] at ht
  by_cases hil : t < ls.length
  · rw [getD_snoc_lt _ _ _ hil]; exact h t hil
  · have : t = ls.length := by omega
    subst this
    rw [getD_snoc_eq]; exact hl

theorem PR.start (n : Nat) (w : World) (tsl : Value) : PR n w ((w.alloc (.cells #[.slice none 0 0, .slice none 0 0] 33)).alloc (.cells #[tsl, .slice none 0 0] 33)) tsl (.slice none 0 0) [] :=
  ⟨heap_at_old _ _ (heap_at_new _ _ _ rfl), heap_at_new _ _ _ (by simp), ⟨World.ownsRow_nil _ _ _ _, fun i hi => by simp at hi⟩, rfl, ((Below.refl _ _).alloc (Nat.le_refl _) _).alloc (by simp) _⟩

theorem PR.done {n : Nat} {w wr : World} {tsl pv x y : Value} {cs : List Cl} (h : PR n w wr tsl pv cs) (h8 : cs.length ≤ 8) :
    ∃ v cs, Ending.returned (.agg #[tsl, pv]) = .returned (.agg #[tsl, v]) ∧ CsOwn (w.heap.size + 2) ((wr.setCell ⟨w.heap.size, 0, none⟩ x).setCell ⟨w.heap.size, 1, none⟩ y) v cs ∧ clausesB n cs = true ∧ cs.length ≤ 8 ∧
      Below w.heap.size w ((wr.setCell ⟨w.heap.size, 0, none⟩ x).setCell ⟨w.heap.size, 1, none⟩ y) := by
  obtain ⟨h1, h2, h3, h4, h5⟩ := h
  have hlt : w.heap.size < w.heap.size + 2 := by omega
  exact ⟨pv, cs, rfl, ⟨own_setCell (own_setCell h3.1 hlt _) hlt _, fun i hi => own_setCell (own_setCell (h3.2 i hi) hlt _) hlt _⟩, h4, h8, (h5.setCell (Nat.le_refl _) _).setCell (Nat.le_refl _) _⟩

set_option maxRecDepth 100000 in
set_option maxHeartbeats 400000 in
theorem kproblem_any (ta ra : Option Addr) (tc rc : Nat) (n : Nat) (rs : List Int) (w : World) (hn4 : 1 ≤ n) (hn7 : n ≤ 9) (hr : IntsAt w ra rs) (hwf : ∀ i, i < rs.length → -9223372036854775808 ≤ rs.getD i 0 ∧ rs.getD i 0 ≤ 9223372036854775807) :
    Calls Try.prog 23 #[.slice ta n tc, .slice ra rs.length rc] w fun e w' => ∃ v cs, e = .returned (.agg #[.slice ta n tc, v]) ∧ CsOwn (w.heap.size + 2) w' v cs ∧ clausesB n cs = true ∧ cs.length ≤ 8 ∧ Below w.heap.size w w' := by
  obtain ⟨i1, hi1, hy0, hy1, hy2⟩ := info_parts info_lit
  obtain ⟨i2, hi2, hx0, hx1, hx2⟩ := info_parts info_lits
  go_enter Try.func23, Try.ntmps23
  go_wp2_with fail
  go_loopg [6] 8 (fun g s wr => ∃ (i : Nat) (pv : Value) (cs : List Cl), g = 8 - i ∧ i ≤ 8 ∧ s = .int .i64 i ∧ cs.length = i ∧ PR n w wr (.slice ta n tc) pv cs)
  case atStart => exact ⟨0, _, [], rfl, by omega, rfl, rfl, PR.start n w _⟩
  case round =>
    obtain ⟨i, pv, cs, rfl, hi, rfl, hn, hP⟩ := hrel
    have Hn := hide hn
    clear hn
    obtain ⟨pa, pc, rfl⟩ := own_val hP.2.2.1.1
    have p0 : wr.cell? ⟨w.heap.size + 1, 0, none⟩ = some (.slice ta n tc) := by rw [cell_of_row _ _ _ _ _ _ hP.2.1]; rfl
    have p1 : wr.cell? ⟨w.heap.size + 1, 1, none⟩ = some (.slice pa cs.length pc) := by rw [cell_of_row _ _ _ _ _ _ hP.2.1]; rfl
    by_cases hlt : i < rs.length ∧ i < 8
    · obtain ⟨hlt, hi3⟩ := hlt
      obtain ⟨rb, ro, rfl, rcell⟩ := (hr.below hP.2.2.2.2).get hlt
      have r1 := rcell i hlt
      obtain ⟨w1, w2⟩ := hwf i hlt
      generalize rs.getD i 0 = x at *
      clear rcell
      go_wp2_with fail
      refine (pick_any x 1125899906842624 _ w1 w2 (by omega) (by omega)).mono ?_
      rintro e w' ⟨r, hr1, rfl, rfl⟩
      go_wp2_with fail
      have hs2 : w.heap.size + 2 ≤ w'.heap.size := by have := (Array.getElem?_eq_some_iff.1 hP.2.1).1; omega
      obtain ⟨m, hm, em⟩ := mod_nat (r : Int) 3 (by omega)
      rw [em]
      clear em
      have Hr1 : Hid (small50 r) := hr1
      have Hwf := hide hwf
      clear hr1 w1 w2 hwf
      go_loopg [7, 8, 9] (m + 1) (fun g s7 s8 s9 wi => ∃ (r : Nat) (j : Int) (ls : List Lt), s7 = .int .i64 r ∧ Hid (small50 r) ∧ s9 = .int .i64 j ∧ Hid (j = (g : Int) - 1) ∧ ls.length + g ≤ 3 ∧
        wi.ownsRow w'.heap.size 50 3 s8 ls.length (lsCells ls) ∧ Hid (∀ t, t < ls.length → litOk n (ls.getD t lt0) = true) ∧ Below w'.heap.size w' wi)
      case atStart => exact ⟨r, m, [], rfl, Hr1, rfl, (by show (m : Int) = ((m + 1 : Nat) : Int) - 1; omega), by simp; omega, World.ownsRow_nil _ _ _ _, (fun t ht => by simp at ht), Below.refl _ _⟩
      case round =>
        obtain ⟨q, j, ls, rfl, Hq, rfl, Hj, hls, hown, Hok, hbi⟩ := hrel
        by_cases hk : 0 ≤ j
        · have hj3 : j ≤ 2 := by have := Hj.out; omega
          go_upto_region 10 with fail
          have hn0 : ¬ n = 0 := by omega
          have hwb : (w'.heap.size : Nat) ≤ wr.heap.size := hbi.size
          go_region_law (refine step_append_own rfl (.tmp 33) (.tmp 49) 43 rfl w'.heap.size 50 i1 (.agg #[.int .i64 0, .int .i64 0, .bool false]) 3 24 Try.underlying43 hi1 hy0 hy1 hy2 rfl (by decide) u8 ls.length (lsCells ls) (by simp [Act.eval]) (hown.alloc _) ⟨wr.heap.size, 0, none⟩ 1 1 (ltCells ⟨(IntKind.i64.wrap ((q : Int) / 8)).tmod n, (IntKind.i64.wrap ((q : Int) / 64)).tmod n, (IntKind.i64.wrap ((q : Int) / 512)).tmod 2 == 1⟩) (by simp [Act.eval]) rfl (new_lt wr ⟨_, _, _⟩ _) (ltCells_one _) (by unfold maxLen; omega) (by omega) (by simp; omega) ?_; intro v2 w2 hown2 hgrow2)
          go_wp2_with fail
          obtain ⟨hq2, eq2⟩ := next_small Hq.out
          have hown3 : w2.ownsRow w'.heap.size 50 3 v2 (ls ++ [litOf q n]).length (lsCells (ls ++ [litOf q n])) := by rw [lsCells_snoc, List.length_append]; exact hown2
          have hbel : Below w'.heap.size w' w2 := (hbi.alloc hbi.size _).drew.grown hgrow2 (by simp; omega) (fun k hk => (hown.lt k hk).1)
          go_roundg (gk - 1)
          case measure => have := Hj.out; omega
          case rel =>
            refine ⟨q / 1024, j - 1, ls ++ [litOf q n], by rw [← eq2], hq2, by go_num, (by have := Hj.out; show j - 1 = ((gk - 1 : Nat) : Int) - 1; omega), (by have := Hj.out; simp; omega), hown3, litsOk_snoc Hok.out ?_, hbel⟩
            unfold litOk litOf
            rw [made_bound Hq.out hn4 (by omega), made_bound Hq.out hn4 (by omega)]
            rfl
        · have g0 : gk = 0 := by have := Hj.out; omega
          obtain ⟨ua, uc, rfl⟩ := own_val hown
          have p1' : wr.cell? ⟨w.heap.size + 1, 1, none⟩ = some (.slice pa cs.length pc) := cell_below hbi p1
          have hPo := own_below hP.2.2.1.1 hbi
          have hwb : (w'.heap.size : Nat) ≤ wr.heap.size := hbi.size
          have Hcl : Hid (clauseB n ls = true) := clauseB_yes (by omega) Hok.out
          have h8 : cs.length ≤ 8 := by have := Hn.out; omega
          go_wp2_with (at_builtin; refine wpList_append_own _ rfl _ _ 31 rfl (w.heap.size + 2) 43 i2 (.slice none 0 0) 1 24 Try.underlying31 hi2 hx0 hx1 hx2 rfl (by decide) _ _ _ rfl (hPo.alloc _) ⟨wr.heap.size, 0, none⟩ 1 1 [.slice ua ls.length uc] rfl rfl (new_one _ _ _) (fun u hu => by simp at hu; subst hu; rfl) (by unfold maxLen; omega) (by omega) (by simp; omega) ?_)
          intro v' w2 hown' hgrow _
          have e2 := hP.kept hbi hgrow
          have k1 : w2.cell? ⟨w.heap.size + 1, 1, none⟩ = some (.slice pa cs.length pc) := by rw [cell_of_row _ _ _ _ _ _ e2]; rfl
          have k2 : w2.frozen? ⟨w.heap.size + 1, 1, none⟩ = false := frozen_of_row _ _ _ _ _ e2
          obtain ⟨va, vc, rfl⟩ := own_val hown'
          go_wp2_with fail
          go_roundg (8 - (i + 1))
          case measure => omega
          case rel => exact ⟨i + 1, _, cs ++ [⟨ua, uc, ls⟩], rfl, by omega, by go_num, by have := Hn.out; simp; omega, hP.step hbi hown Hcl.out (by omega) hown' hgrow⟩
    · have q0 : wr.cell? ⟨w.heap.size, 0, none⟩ = some (.slice none 0 0) := by rw [cell_of_row _ _ _ _ _ _ hP.1]; rfl
      have q1 : wr.cell? ⟨w.heap.size, 1, none⟩ = some (.slice none 0 0) := by rw [cell_of_row _ _ _ _ _ _ hP.1]; rfl
      have z0 : wr.frozen? ⟨w.heap.size, 0, none⟩ = false := frozen_of_row _ _ _ _ _ hP.1
      have z1 : wr.frozen? ⟨w.heap.size, 1, none⟩ = false := frozen_of_row _ _ _ _ _ hP.1
      have Hlt := hide hlt
      clear hlt
      by_cases hlt : i < rs.length
      · have h3 : ¬ i < 8 := fun h => Hlt.out ⟨hlt, h⟩
        go_wp2_with fail
        exact bodyPost_ret (v := .agg #[.slice ta n tc, .slice pa cs.length pc]) (by simp [results, Try.results23, go_sem, q0, q1]) rfl (hP.done (by have := Hn.out; omega))
      · go_wp2_with fail
        exact bodyPost_ret (v := .agg #[.slice ta n tc, .slice pa cs.length pc]) (by simp [results, Try.results23, go_sem, q0, q1]) rfl (hP.done (by have := Hn.out; omega))
end Go.Proofs.Ytjebhhoibofmfaa
