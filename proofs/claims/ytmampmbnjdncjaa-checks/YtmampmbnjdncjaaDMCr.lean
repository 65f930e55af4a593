import Derived.Test.YtmampmbnjdncjaaDMCk
namespace Go.Proofs.Ytmampmbnjdncjaa
open Go.RowKit
set_option maxRecDepth 100000 in
set_option maxHeartbeats 1000000 in
theorem place_any (t : Lt) (w : World) : Calls Try.prog 94 #[.agg #[.int .i64 t.x, .int .i64 t.y, .bool t.n]] w fun e w' => e = .returned (.int .i64 (placeI t)) ∧ Below w.heap.size w w' := by
  obtain ⟨x, y, n⟩ := t
  go_enter Try.func94, Try.ntmps94
  have hwr : ∀ z : Int, wrap64 (wrap64 z) = wrap64 z := by intro z; unfold wrap64; omega
  rcases Int.lt_trichotomy x y with h | h | h
  · have e1 : min x y = x := by omega
    have e2 : max x y = y := by omega
    cases n
    · go_wp2_with fail
      go_ret
      exact ⟨ret_int (by simp only [placeI, e1, e2]; first | rfl | simp [hwr]), (Below.refl _ _).alloc (Nat.le_refl _) _⟩
    · go_wp2_with fail
      go_ret
      exact ⟨ret_int (by simp only [placeI, e1, e2]; first | rfl | simp [hwr]), (Below.refl _ _).alloc (Nat.le_refl _) _⟩
  · subst h
    have e1 : min x x = x := by omega
    have e2 : max x x = x := by omega
    cases n
    · go_wp2_with fail
      go_ret
      exact ⟨ret_int (by simp only [placeI, e1, e2]; first | rfl | simp [hwr]), (Below.refl _ _).alloc (Nat.le_refl _) _⟩
    · go_wp2_with fail
      go_ret
      exact ⟨ret_int (by simp only [placeI, e1, e2]; first | rfl | simp [hwr]), (Below.refl _ _).alloc (Nat.le_refl _) _⟩
  · have e1 : min x y = y := by omega
    have e2 : max x y = x := by omega
    cases n
    · go_wp2_with fail
      go_ret
      exact ⟨ret_int (by simp only [placeI, e1, e2]; first | rfl | simp [hwr]), (Below.refl _ _).alloc (Nat.le_refl _) _⟩
    · go_wp2_with fail
      go_ret
      exact ⟨ret_int (by simp only [placeI, e1, e2]; first | rfl | simp [hwr]), (Below.refl _ _).alloc (Nat.le_refl _) _⟩
end Go.Proofs.Ytmampmbnjdncjaa
namespace Go.Proofs.Ytmampmbnjdncjaa
open Go.RowKit
theorem withF_cons (l c : Lt) (cs : List Lt) (d : Bool) : withF l (c :: cs) d = if (d || @decide (c = l) (ltEq c l)) = false ∧ placeI l < placeI c then l :: c :: withF l cs true else c :: withF l cs (d || @decide (c = l) (ltEq c l)) := rfl
def WW (w : World) (l : Lt) (ls : List Lt) (v : Value) (W : World) : Prop :=
  W.heap[w.heap.size]? = some (.cells #[.int .i64 l.x, .int .i64 l.y, .bool l.n] 50 (0, 0)) ∧ W.ownsRow (w.heap.size + 1) 50 3 v ls.length (lsCells ls) ∧ Below w.heap.size w W
theorem WW.below {w W W' : World} {l : Lt} {ls : List Lt} {v : Value} (h : WW w l ls v W) (hb : Below W.heap.size W W') : WW w l ls v W' :=
  ⟨(hb.block _ (Array.getElem?_eq_some_iff.1 h.1).1).trans h.1, own_below h.2.1 hb, h.2.2.trans (hb.mono h.2.2.size)⟩
theorem WW.append {w W W' : World} {l t : Lt} {ls : List Lt} {v v' : Value} (h : WW w l ls v W) (hg : W.grownBy W' v.ownBlock) (ho : W'.ownsRow (w.heap.size + 1) 50 3 v' (ls.length + 1) (lsCells ls ++ ltCells t)) :
    WW w l (ls ++ [t]) v' W' := by
  refine ⟨?_, ?_, h.2.2.grown hg h.2.2.size (fun q hq => by have := (h.2.1.lt q hq).1; omega)⟩
  · rw [hg.block _ (Array.getElem?_eq_some_iff.1 h.1).1 (fun e => by have := (h.2.1.lt _ e.symm).1; omega)]
    exact h.1
  · rw [lsCells_snoc]; simpa using ho
set_option maxRecDepth 100000 in
set_option maxHeartbeats 2000000 in
theorem rWith_any (ca : Option Addr) (cc : Nat) (c : List Lt) (t : Lt) (w : World) (hc : LitsAt w ca c) (hl : c.length ≤ 1000) :
    Calls Try.prog 84 #[.slice ca c.length cc, .agg #[.int .i64 t.x, .int .i64 t.y, .bool t.n]] w fun e w' => ∃ oa oc, e = .returned (.slice oa (withL c t).length oc) ∧ w'.ownsRow w.heap.size 50 3 (.slice oa (withL c t).length oc) (withL c t).length (lsCells (withL c t)) ∧ Below w.heap.size w w' := by
  obtain ⟨i1, hi1, hy0, hy1, hy2⟩ := info_parts info_lit
  go_enter Try.func84, Try.ntmps84
  have Ht : Hid (normL t = ⟨min t.x t.y, max t.x t.y, t.n⟩) := rfl
  obtain ⟨x, y, n⟩ := t
  simp only at Ht
  go_upto_region 1 with fail
  go_cut [3] (fun s3 wx => s3 = .pointer (some ⟨w.heap.size, 0, none⟩) ∧ WW w (normL ⟨x, y, n⟩) [] (.slice none 0 0) wx)
  case first =>
    rcases Int.lt_trichotomy x y with h | h | h
    · go_wp2_with fail
      go_meet
      refine ⟨rfl, ?_, ⟨rfl, .inl ⟨rfl, rfl⟩⟩, (Below.refl _ _).alloc (Nat.le_refl _) _⟩
      rw [Ht.out, show min x y = x by omega, show max x y = y by omega]
      exact heap_at_new _ _ _ rfl
    · subst h
      go_wp2_with fail
      go_meet
      refine ⟨rfl, ?_, ⟨rfl, .inl ⟨rfl, rfl⟩⟩, (Below.refl _ _).alloc (Nat.le_refl _) _⟩
      rw [Ht.out, show min x x = x by omega, show max x x = x by omega]
      exact heap_at_new _ _ _ rfl
    · go_wp2_with fail
      go_meet
      refine ⟨rfl, ?_, ⟨rfl, .inl ⟨rfl, rfl⟩⟩, (Below.refl _ _).alloc (Nat.le_refl _) _⟩
      rw [Ht.out, show min x y = y by omega, show max x y = x by omega]
      exact heap_at_new _ _ _ rfl
  case rest =>
    obtain ⟨rfl, hW⟩ := hcut
    clear Ht
    have Hl : Hid (withL c ⟨x, y, n⟩ = withF (normL ⟨x, y, n⟩) c false) := rfl
    generalize normL ⟨x, y, n⟩ = l at *
    generalize hres : withL c ⟨x, y, n⟩ = res at *
    have HR0 := hide hres
    clear hres
    go_wp2_with fail
    go_loopg [5, 6, 7] c.length (fun q s5 s6 s7 wx => ∃ (i : Nat) (d : Bool) (out : List Lt), q = c.length - i ∧ i ≤ c.length ∧ s7 = .int .i64 i ∧ s6 = .bool d ∧ Hid (res = out ++ withF l (c.drop i) d) ∧ Hid (out.length ≤ i * 2) ∧ WW w l out s5 wx)
    case atStart => exact ⟨0, false, [], by omega, by omega, rfl, rfl, (by show res = _; rw [Hl.out]; simp), (by show (0 : Nat) ≤ _; omega), hW⟩
    case round =>
      obtain ⟨i, d, out, rfl, hi, rfl, rfl, Hf, Ho, hWr⟩ := hrel
      obtain ⟨va, vc, rfl⟩ := own_val hWr.2.1
      have l0 : wr.cell? ⟨w.heap.size, 0, none⟩ = some (.int .i64 l.x) := by rw [cell_of_row _ _ _ _ _ _ hWr.1]; rfl
      have l1 : wr.cell? ⟨w.heap.size, 1, none⟩ = some (.int .i64 l.y) := by rw [cell_of_row _ _ _ _ _ _ hWr.1]; rfl
      have l2 : wr.cell? ⟨w.heap.size, 2, none⟩ = some (.bool l.n) := by rw [cell_of_row _ _ _ _ _ _ hWr.1]; rfl
      by_cases hlt : i < c.length
      · obtain ⟨cb, co, rfl, ccell⟩ := hc.get hlt
        obtain ⟨x0, x1, x2⟩ := ccell i hlt
        have hcb := block_lt x0
        replace x0 := cell_below hWr.2.2 x0
        replace x1 := cell_below hWr.2.2 x1
        replace x2 := cell_below hWr.2.2 x2
        have hdr : c.drop i = c.getD i lt0 :: c.drop (i + 1) := by
          rw [List.drop_eq_getElem_cons hlt, List.getD_eq_getElem?_getD, List.getElem?_eq_getElem hlt, Option.getD_some]
        rw [hdr, withF_cons] at Hf
        generalize c.getD i lt0 = u at *
        clear ccell hdr
        go_upto_region 7 with fail
        go_cut [32] (fun s32 wx => s32 = .bool (@decide (u = l) (ltEq u l)) ∧ ∃ n, wx = wr.drewN n)
        case first =>
          obtain ⟨ux, uy, un⟩ := u
          obtain ⟨lx, ly, ln⟩ := l
          simp only at x0 x1 x2 l0 l1 l2
          by_cases e1 : ux = lx
          · subst e1
            by_cases e2 : uy = ly
            · subst e2
              by_cases e3 : un = ln
              · subst e3
                go_quiet (fail)
                go_wp2_with fail
                go_meet
                exact ⟨by simp, _, rfl⟩
              · have e3' : (un == ln) = false := by simpa using e3
                go_quiet (fail)
                go_wp2_with fail
                go_meet
                exact ⟨by simp [e3], _, rfl⟩
            · have e2' : (uy == ly) = false := by simpa using e2
              go_quiet (fail)
              go_wp2_with fail
              go_meet
              exact ⟨by simp [e2], _, rfl⟩
          · have e1' : (ux == lx) = false := by simpa using e1
            go_quiet (fail)
            go_wp2_with fail
            go_meet
            exact ⟨by simp [e1], _, rfl⟩
        case rest =>
          obtain ⟨rfl, n0, hwx⟩ := hcut
          have hbC : Below wr.heap.size wr wc := by rw [hwx]; exact below_drewN (Below.refl _ _) _
          have hWc := hWr.below hbC
          replace x0 := cell_below hbC x0
          replace x1 := cell_below hbC x1
          replace x2 := cell_below hbC x2
          replace l0 := cell_below hbC l0
          replace l1 := cell_below hbC l1
          replace l2 := cell_below hbC l2
          have hsz : w.heap.size + 1 ≤ wc.heap.size := (Array.getElem?_eq_some_iff.1 hWc.1).1
          have hOl : out.length ≤ 2000 := by have := Ho.out; omega
          clear hwx hbC
          by_cases he : (d || @decide (u = l) (ltEq u l)) = true
          · have HF : Hid (res = (out ++ [u]) ++ withF l (c.drop (i + 1)) true) := by
              show res = _
              rw [Hf.out, he, if_neg (by simp)]; simp
            have hdec : @decide (u = l) (ltEq u l) = true ∨ (@decide (u = l) (ltEq u l) = false ∧ d = true) := by
              cases hq : @decide (u = l) (ltEq u l)
              · exact .inr ⟨rfl, by simpa [hq] using he⟩
              · exact .inl rfl
            clear he Hf
            rcases hdec with hq | ⟨hq, rfl⟩
            · rw [hq]
              clear hq
              go_upto_region 9 with fail
              go_quiet (fail)
              generalize hwD : wc.drewN _ = wD
              have hbD : Below wc.heap.size wc wD := by rw [← hwD]; exact below_drewN (Below.refl _ _) _
              have hWD := hWc.below hbD
              replace x0 := cell_below hbD x0
              replace x1 := cell_below hbD x1
              replace x2 := cell_below hbD x2
              have hszD := hbD.size
              clear hwD
              go_wp2_with (at_builtin; refine wpList_append_own _ rfl (.tmp 49) (.tmp 54) 43 rfl (w.heap.size + 1) 50 i1 (.agg #[.int .i64 0, .int .i64 0, .bool false]) 3 24 Try.underlying43 hi1 hy0 hy1 hy2 rfl (by decide) (.slice va out.length vc) out.length (lsCells out) rfl (hWD.2.1.alloc _) ⟨wD.heap.size, 0, none⟩ 1 1 (ltCells u) rfl rfl (by simpa using new_lt wD u 50) (ltCells_one _) (by unfold maxLen; omega) (by omega) (by simp; omega) ?_)
              intro qv w9 hown9 hgr9 hz9
              clear hz9
              have hW9 := (hWD.below ((Below.refl _ _).alloc (Nat.le_refl _) _)).append (t := u) hgr9 hown9
              clear hown9 hgr9
              obtain ⟨qa, qc, hqv⟩ := own_val hW9.2.1
              subst hqv
              go_wp2_with fail
              go_roundg (c.length - (i + 1))
              case measure => omega
              case rel => exact ⟨i + 1, true, out ++ [u], rfl, by omega, by go_num, rfl, HF, (by have := Ho.out; show (out ++ [u]).length ≤ _; simp; omega), by simpa using hW9⟩
            · rw [hq]
              clear hq
              go_upto_region 9 with fail
              go_quiet (fail)
              generalize hwD : wc.drewN _ = wD
              have hbD : Below wc.heap.size wc wD := by rw [← hwD]; exact below_drewN (Below.refl _ _) _
              have hWD := hWc.below hbD
              replace x0 := cell_below hbD x0
              replace x1 := cell_below hbD x1
              replace x2 := cell_below hbD x2
              have hszD := hbD.size
              clear hwD
              go_wp2_with (at_builtin; refine wpList_append_own _ rfl (.tmp 49) (.tmp 54) 43 rfl (w.heap.size + 1) 50 i1 (.agg #[.int .i64 0, .int .i64 0, .bool false]) 3 24 Try.underlying43 hi1 hy0 hy1 hy2 rfl (by decide) (.slice va out.length vc) out.length (lsCells out) rfl (hWD.2.1.alloc _) ⟨wD.heap.size, 0, none⟩ 1 1 (ltCells u) rfl rfl (by simpa using new_lt wD u 50) (ltCells_one _) (by unfold maxLen; omega) (by omega) (by simp; omega) ?_)
              intro qv w9 hown9 hgr9 hz9
              clear hz9
              have hW9 := (hWD.below ((Below.refl _ _).alloc (Nat.le_refl _) _)).append (t := u) hgr9 hown9
              clear hown9 hgr9
              obtain ⟨qa, qc, hqv⟩ := own_val hW9.2.1
              subst hqv
              go_wp2_with fail
              go_roundg (c.length - (i + 1))
              case measure => omega
              case rel => exact ⟨i + 1, true, out ++ [u], rfl, by omega, by go_num, rfl, HF, (by have := Ho.out; show (out ++ [u]).length ≤ _; simp; omega), by simpa using hW9⟩
          · obtain ⟨hd, hq⟩ : d = false ∧ @decide (u = l) (ltEq u l) = false := by
              cases d <;> cases hh : @decide (u = l) (ltEq u l) <;> simp_all
            subst hd
            rw [hq] at Hf
            rw [hq]
            have hne : Nonempty (Up wc) := ⟨⟨wc, Below.refl _ _⟩⟩
            have d0 : ∀ u' : Up wc, u'.world.cell? ⟨cb, co + i * 3, none⟩ = some (.int .i64 u.x) := fun u' => u'.cell x0
            have d1 : ∀ u' : Up wc, u'.world.cell? ⟨cb, co + i * 3 + 1, none⟩ = some (.int .i64 u.y) := fun u' => u'.cell x1
            have d2 : ∀ u' : Up wc, u'.world.cell? ⟨cb, co + i * 3 + 2, none⟩ = some (.bool u.n) := fun u' => u'.cell x2
            have d3 : ∀ u' : Up wc, u'.world.cell? ⟨w.heap.size, 0, none⟩ = some (.int .i64 l.x) := fun u' => u'.cell l0
            have d4 : ∀ u' : Up wc, u'.world.cell? ⟨w.heap.size, 1, none⟩ = some (.int .i64 l.y) := fun u' => u'.cell l1
            have d5 : ∀ u' : Up wc, u'.world.cell? ⟨w.heap.size, 2, none⟩ = some (.bool l.n) := fun u' => u'.cell l2
            clear he hq
            go_upto_region 9 with fail
            refine wp_region_up (by kernel_rfl) (by kernel_rfl) ?_
            repeat (go_big_quiet_step (fail))
            go_big_quiet_step ((go_at_call 94; exact calls_up (place_any l _)))
            repeat (go_big_quiet_step (fail))
            go_big_quiet_step ((go_at_call 94; exact calls_up (place_any u _)))
            repeat (go_big_quiet_step (fail))
            refine wpQuiet_nil ?_
            intro _ hw'
            obtain ⟨nq, hw''⟩ := hw'
            subst hw''
            have hbD := nq.above
            have hWD := hWc.below hbD
            replace x0 := cell_below hbD x0
            replace x1 := cell_below hbD x1
            replace x2 := cell_below hbD x2
            replace l0 := cell_below hbD l0
            replace l1 := cell_below hbD l1
            replace l2 := cell_below hbD l2
            have hszD := hbD.size
            generalize nq.world = wD at *
            clear d0 d1 d2 d3 d4 d5 hne
            by_cases hp : placeI l < placeI u
            · have HF : Hid (res = ((out ++ [l]) ++ [u]) ++ withF l (c.drop (i + 1)) true) := by
                show res = _
                rw [Hf.out, if_pos ⟨rfl, hp⟩]; simp
              clear Hf
              go_upto_region 12 with (at_builtin; refine wpList_append_own _ rfl (.tmp 45) (.tmp 47) 43 rfl (w.heap.size + 1) 50 i1 (.agg #[.int .i64 0, .int .i64 0, .bool false]) 3 24 Try.underlying43 hi1 hy0 hy1 hy2 rfl (by decide) (.slice va out.length vc) out.length (lsCells out) rfl (hWD.2.1.alloc _) ⟨wD.heap.size, 0, none⟩ 1 1 (ltCells l) rfl rfl (by simpa using new_lt wD l 50) (ltCells_one _) (by unfold maxLen; omega) (by omega) (by simp; omega) ?_; intro qv w8 hown8 hgr8 hz8; clear hz8)
              have hW8 := (hWD.below ((Below.refl _ _).alloc (Nat.le_refl _) _)).append (t := l) hgr8 hown8
              have hnq : some cb ≠ (Value.slice va out.length vc).ownBlock := fun e => by have := (hWD.2.1.lt _ e.symm).1; omega
              replace x0 := hgr8.cell (alloc_old x0) hnq
              replace x1 := hgr8.cell (alloc_old x1) hnq
              replace x2 := hgr8.cell (alloc_old x2) hnq
              have hsz8 := hW8.2.2.size
              have hsz8' : w.heap.size + 1 ≤ w8.heap.size := (Array.getElem?_eq_some_iff.1 hW8.1).1
              clear hown8 hgr8
              obtain ⟨qa8, qc8, hqv8⟩ := own_val hW8.2.1
              subst hqv8
              have hO8 : (out ++ [l]).length ≤ 2001 := by simp; omega
              have HO8 : Hid ((out ++ [l]).length ≤ i * 2 + 1) := by have := Ho.out; show (out ++ [l]).length ≤ _; simp; omega
              generalize ho8 : out ++ [l] = out8 at *
              clear ho8
              go_wp2_with (at_builtin; refine wpList_append_own _ rfl (.tmp 49) (.tmp 54) 43 rfl (w.heap.size + 1) 50 i1 (.agg #[.int .i64 0, .int .i64 0, .bool false]) 3 24 Try.underlying43 hi1 hy0 hy1 hy2 rfl (by decide) (.slice qa8 out8.length qc8) out8.length (lsCells out8) rfl (hW8.2.1.alloc _) ⟨w8.heap.size, 0, none⟩ 1 1 (ltCells u) rfl rfl (by simpa using new_lt w8 u 50) (ltCells_one _) (by unfold maxLen; omega) (by omega) (by simp; omega) ?_)
              intro qv w9 hown9 hgr9 hz9
              clear hz9
              have hW9 := (hW8.below ((Below.refl _ _).alloc (Nat.le_refl _) _)).append (t := u) hgr9 hown9
              clear hown9 hgr9
              obtain ⟨qa, qc, hqv⟩ := own_val hW9.2.1
              subst hqv
              go_wp2_with fail
              go_roundg (c.length - (i + 1))
              case measure => omega
              case rel => exact ⟨i + 1, true, out8 ++ [u], rfl, by omega, by go_num, rfl, HF, (by have := HO8.out; show (out8 ++ [u]).length ≤ _; simp; omega), by simpa using hW9⟩
            · have HF : Hid (res = (out ++ [u]) ++ withF l (c.drop (i + 1)) false) := by
                show res = _
                rw [Hf.out, if_neg (fun h => hp h.2)]; simp
              clear Hf
              go_wp2_with (at_builtin; refine wpList_append_own _ rfl (.tmp 49) (.tmp 54) 43 rfl (w.heap.size + 1) 50 i1 (.agg #[.int .i64 0, .int .i64 0, .bool false]) 3 24 Try.underlying43 hi1 hy0 hy1 hy2 rfl (by decide) (.slice va out.length vc) out.length (lsCells out) rfl (hWD.2.1.alloc _) ⟨wD.heap.size, 0, none⟩ 1 1 (ltCells u) rfl rfl (by simpa using new_lt wD u 50) (ltCells_one _) (by unfold maxLen; omega) (by omega) (by simp; omega) ?_)
              intro qv w9 hown9 hgr9 hz9
              clear hz9
              have hW9 := (hWD.below ((Below.refl _ _).alloc (Nat.le_refl _) _)).append (t := u) hgr9 hown9
              clear hown9 hgr9
              obtain ⟨qa, qc, hqv⟩ := own_val hW9.2.1
              subst hqv
              go_wp2_with fail
              go_roundg (c.length - (i + 1))
              case measure => omega
              case rel => exact ⟨i + 1, false, out ++ [u], rfl, by omega, by go_num, rfl, HF, (by have := Ho.out; show (out ++ [u]).length ≤ _; simp; omega), by simpa using hW9⟩
      · have hd : c.drop i = [] := by rw [List.drop_eq_nil_iff]; omega
        rw [hd] at Hf
        have hsz : w.heap.size + 1 ≤ wr.heap.size := (Array.getElem?_eq_some_iff.1 hWr.1).1
        have hOl : out.length ≤ 2000 := by have := Ho.out; omega
        clear hd Ho
        cases d
        · have HR : Hid (res = out ++ [l]) := Hf.out
          clear Hf
          go_wp2_with (at_builtin; refine wpList_append_own _ rfl (.tmp 58) (.tmp 60) 43 rfl (w.heap.size + 1) 50 i1 (.agg #[.int .i64 0, .int .i64 0, .bool false]) 3 24 Try.underlying43 hi1 hy0 hy1 hy2 rfl (by decide) (.slice va out.length vc) out.length (lsCells out) rfl (hWr.2.1.alloc _) ⟨wr.heap.size, 0, none⟩ 1 1 (ltCells l) rfl rfl (by simpa using new_lt wr l 50) (ltCells_one _) (by unfold maxLen; omega) (by omega) (by simp; omega) ?_)
          intro qv w9 hown9 hgr9 hz9
          clear hz9
          have hW9 := (hWr.below ((Below.refl _ _).alloc (Nat.le_refl _) _)).append (t := l) hgr9 hown9
          clear hown9 hgr9
          rw [← HR.out] at hW9
          obtain ⟨qa, qc, hqv⟩ := own_val hW9.2.1
          subst hqv
          go_wp2_with fail
          go_ret
          rw [HR0.out]
          exact ⟨qa, qc, rfl, own_base hW9.2.1 (Nat.le_succ _), hW9.2.2⟩
        · have HR : Hid (res = out) := by have := Hf.out; show res = out; simpa [withF] using this
          clear Hf
          go_wp2_with fail
          go_ret
          rw [HR0.out, HR.out]
          exact ⟨va, vc, rfl, own_base hWr.2.1 (Nat.le_succ _), hWr.2.2⟩
end Go.Proofs.Ytmampmbnjdncjaa
namespace Go.Proofs.Ytmampmbnjdncjaa
open Go.RowKit
theorem take_snoc {c : List Lt} {i : Nat} (h : i < c.length) : c.take (i + 1) = c.take i ++ [c.getD i lt0] := by
  rw [List.take_succ_eq_append_getElem h, List.getD_eq_getElem?_getD, List.getElem?_eq_getElem h, Option.getD_some]
theorem woutL_snoc (c : List Lt) (u t : Lt) : woutL (c ++ [u]) t = woutL c t ++ if placeI u = placeI t then [] else [u] := by
  unfold woutL
  rw [List.filter_append]
  congr 1
  by_cases h : placeI u = placeI t <;> simp [h]
theorem wasL_snoc (c : List Lt) (u t : Lt) : wasL (c ++ [u]) t = (wasL c t || decide (placeI u = placeI t)) := by simp [wasL]
set_option maxRecDepth 100000 in
set_option maxHeartbeats 2000000 in
theorem rWithout_any (ca : Option Addr) (cc : Nat) (c : List Lt) (t : Lt) (w : World) (hc : LitsAt w ca c) (hl : c.length ≤ 1000) :
    Calls Try.prog 85 #[.slice ca c.length cc, .agg #[.int .i64 t.x, .int .i64 t.y, .bool t.n]] w fun e w' => ∃ oa oc, e = .returned (.tuple #[.slice oa (woutL c t).length oc, .bool (wasL c t)]) ∧ w'.ownsRow w.heap.size 50 3 (.slice oa (woutL c t).length oc) (woutL c t).length (lsCells (woutL c t)) ∧ Below w.heap.size w w' := by
  obtain ⟨i1, hi1, hy0, hy1, hy2⟩ := info_parts info_lit
  go_enter Try.func85, Try.ntmps85
  have hW : WW w t [] (.slice none 0 0) (w.alloc (.cells #[.int .i64 t.x, .int .i64 t.y, .bool t.n] 50)) := ⟨heap_at_new _ _ _ rfl, ⟨rfl, .inl ⟨rfl, rfl⟩⟩, (Below.refl _ _).alloc (Nat.le_refl _) _⟩
  go_wp2_with fail
  go_loopg [6, 7, 8] c.length (fun q s6 s7 s8 wx => ∃ (i : Nat) (b : Bool) (out : List Lt), q = c.length - i ∧ i ≤ c.length ∧ s8 = .int .i64 i ∧ s7 = .bool b ∧ Hid (b = wasL (c.take i) t) ∧ Hid (out = woutL (c.take i) t) ∧ WW w t out s6 wx)
  case atStart => exact ⟨0, false, [], by omega, by omega, rfl, rfl, rfl, rfl, hW⟩
  case round =>
    obtain ⟨i, b, out, rfl, hi, rfl, rfl, Hb, Ho, hWr⟩ := hrel
    obtain ⟨va, vc, rfl⟩ := own_val hWr.2.1
    by_cases hlt : i < c.length
    · obtain ⟨cb, co, rfl, ccell⟩ := hc.get hlt
      obtain ⟨x0, x1, x2⟩ := ccell i hlt
      have hcb := block_lt x0
      replace x0 := cell_below hWr.2.2 x0
      replace x1 := cell_below hWr.2.2 x1
      replace x2 := cell_below hWr.2.2 x2
      have l0 : wr.cell? ⟨w.heap.size, 0, none⟩ = some (.int .i64 t.x) := by rw [cell_of_row _ _ _ _ _ _ hWr.1]; rfl
      have l1 : wr.cell? ⟨w.heap.size, 1, none⟩ = some (.int .i64 t.y) := by rw [cell_of_row _ _ _ _ _ _ hWr.1]; rfl
      have l2 : wr.cell? ⟨w.heap.size, 2, none⟩ = some (.bool t.n) := by rw [cell_of_row _ _ _ _ _ _ hWr.1]; rfl
      have Hs1 : Hid (wasL (c.take (i + 1)) t = (wasL (c.take i) t || decide (placeI (c.getD i lt0) = placeI t))) := by
        show _ = _
        rw [take_snoc hlt, wasL_snoc]
      have Hs2 : Hid (woutL (c.take (i + 1)) t = woutL (c.take i) t ++ if placeI (c.getD i lt0) = placeI t then [] else [c.getD i lt0]) := by
        show _ = _
        rw [take_snoc hlt, woutL_snoc]
      have hOl : out.length ≤ 1000 := by
        have h1 := Ho.out
        have h2 : (woutL (c.take i) t).length ≤ (c.take i).length := List.length_filter_le _ _
        rw [← h1, List.length_take] at h2
        omega
      generalize c.getD i lt0 = u at *
      have hne : Nonempty (Up wr) := ⟨⟨wr, Below.refl _ _⟩⟩
      have d0 : ∀ u' : Up wr, u'.world.cell? ⟨cb, co + i * 3, none⟩ = some (.int .i64 u.x) := fun u' => u'.cell x0
      have d1 : ∀ u' : Up wr, u'.world.cell? ⟨cb, co + i * 3 + 1, none⟩ = some (.int .i64 u.y) := fun u' => u'.cell x1
      have d2 : ∀ u' : Up wr, u'.world.cell? ⟨cb, co + i * 3 + 2, none⟩ = some (.bool u.n) := fun u' => u'.cell x2
      have d3 : ∀ u' : Up wr, u'.world.cell? ⟨w.heap.size, 0, none⟩ = some (.int .i64 t.x) := fun u' => u'.cell l0
      have d4 : ∀ u' : Up wr, u'.world.cell? ⟨w.heap.size, 1, none⟩ = some (.int .i64 t.y) := fun u' => u'.cell l1
      have d5 : ∀ u' : Up wr, u'.world.cell? ⟨w.heap.size, 2, none⟩ = some (.bool t.n) := fun u' => u'.cell l2
      clear ccell
      go_upto_region 6 with fail
      refine wp_region_up (by kernel_rfl) (by kernel_rfl) ?_
      repeat (go_big_quiet_step (fail))
      go_big_quiet_step ((go_at_call 94; exact calls_up (place_any u _)))
      repeat (go_big_quiet_step (fail))
      go_big_quiet_step ((go_at_call 94; exact calls_up (place_any t _)))
      repeat (go_big_quiet_step (fail))
      refine wpQuiet_nil ?_
      intro _ hw'
      obtain ⟨nq, hw''⟩ := hw'
      subst hw''
      have hbD := nq.above
      have hWD := hWr.below hbD
      replace x0 := cell_below hbD x0
      replace x1 := cell_below hbD x1
      replace x2 := cell_below hbD x2
      have hszD : w.heap.size + 1 ≤ nq.world.heap.size := (Array.getElem?_eq_some_iff.1 hWD.1).1
      generalize nq.world = wD at *
      clear d0 d1 d2 d3 d4 d5 hne l0 l1 l2
      by_cases hp : placeI u = placeI t
      · have hp' : (placeI u == placeI t) = true := by simp [hp]
        have Hp := hide hp
        clear hp
        go_wp2_with fail
        go_roundg (c.length - (i + 1))
        case measure => omega
        case rel => exact ⟨i + 1, true, out, rfl, by omega, by go_num, rfl, (by show _ = _; rw [Hs1.out]; simp [Hp.out]), (by show _ = _; rw [Hs2.out, if_pos Hp.out, ← Ho.out]; simp), hWD⟩
      · have hp' : (placeI u == placeI t) = false := by simpa using hp
        have Hp := hide hp
        clear hp
        go_wp2_with (at_builtin; refine wpList_append_own _ rfl (.tmp 23) (.tmp 28) 43 rfl (w.heap.size + 1) 50 i1 (.agg #[.int .i64 0, .int .i64 0, .bool false]) 3 24 Try.underlying43 hi1 hy0 hy1 hy2 rfl (by decide) (.slice va out.length vc) out.length (lsCells out) rfl (hWD.2.1.alloc _) ⟨wD.heap.size, 0, none⟩ 1 1 (ltCells u) rfl rfl (by simpa using new_lt wD u 50) (ltCells_one _) (by unfold maxLen; omega) (by omega) (by simp; omega) ?_)
        intro qv w9 hown9 hgr9 hz9
        clear hz9
        have hW9 := (hWD.below ((Below.refl _ _).alloc (Nat.le_refl _) _)).append (t := u) hgr9 hown9
        clear hown9 hgr9
        obtain ⟨qa, qc, hqv⟩ := own_val hW9.2.1
        subst hqv
        go_wp2_with fail
        go_roundg (c.length - (i + 1))
        case measure => omega
        case rel => exact ⟨i + 1, b, out ++ [u], rfl, by omega, by go_num, rfl, (by show _ = _; rw [Hs1.out, ← Hb.out]; simp [Hp.out]), (by show _ = _; rw [Hs2.out, if_neg Hp.out, ← Ho.out]), by simpa using hW9⟩
    · have e : c.take i = c := List.take_of_length_le (by omega)
      rw [e] at Hb Ho
      clear e
      go_wp2_with fail
      go_ret2
      rw [← Hb.out, ← Ho.out]
      exact ⟨va, vc, rfl, own_base hWr.2.1 (Nat.le_succ _), hWr.2.2⟩
end Go.Proofs.Ytmampmbnjdncjaa
