import Derived.Test.YtjebhhoibofmfaaXCkC
namespace Go.Proofs.Ytjebhhoibofmfaa
open Go.RowKit

theorem take_snoc {c : List Lt} {i : Nat} (h : i < c.length) : c.take (i + 1) = c.take i ++ [c.getD i lt0] := by
  rw [List.take_succ_eq_append_getElem h, List.getD_eq_getElem?_getD, List.getElem?_eq_getElem h, Option.getD_some]

theorem woutL_snoc (c : List Lt) (u t : Lt) : woutL (c ++ [u]) t = woutL c t ++ if placeI u = placeI t then [] else [u] := by
  unfold woutL
  rw [List.filter_append]
  congr 1
  by_cases h : placeI u = placeI t <;> simp [h]
theorem wasL_snoc (c : List Lt) (u t : Lt) : wasL (c ++ [u]) t = (wasL c t || decide (placeI u = placeI t)) := by simp [wasL]

set_option maxRecDepth 100000 in
set_option maxHeartbeats 2000000 in
theorem rWithout_any (ca : Option Addr) (cc : Nat) (c : List Lt) (t : Lt) (w : World) (hc : LitsAt w ca c) (hl : c.length ≤ 1000) :
    Calls Try.prog 108 #[.slice ca c.length cc, .agg #[.int .i64 t.x, .int .i64 t.y, .bool t.n]] w fun e w' => ∃ oa oc, e = .returned (.tuple #[.slice oa (woutL c t).length oc, .bool (wasL c t)]) ∧ w'.ownsRow w.heap.size 50 3 (.slice oa (woutL c t).length oc) (woutL c t).length (lsCells (woutL c t)) ∧ Below w.heap.size w w' := by
  obtain ⟨i1, hi1, hy0, hy1, hy2⟩ := info_parts info_lit
  go_enter Try.func108, Try.ntmps108
  have hW : WW w t [] (.slice none 0 0) (w.alloc (.cells #[.int .i64 t.x, .int .i64 t.y, .bool t.n] 50)) := ⟨heap_at_new _ _ _ rfl, ⟨rfl, .inl ⟨rfl, rfl⟩⟩, (Below.refl _ _).alloc (Nat.le_refl _) _⟩
  go_wp2_with fail
  go_loopg [6, 7, 8] c.length (fun q s6 s7 s8 wx => ∃ (i : Nat) (b : Bool) (out : List Lt), q = c.length - i ∧ i ≤ c.length ∧ s8 = .int .i64 i ∧ s7 = .bool b ∧ Hid (b = wasL (c.take i) t) ∧ Hid (out = woutL (c.take i) t) ∧ WW w t out s6 wx)
  case atStart => exact ⟨0, false, [], by omega, by omega, rfl, rfl, rfl, rfl, hW⟩
  case round =>
    obtain ⟨i, b, out, rfl, hi, rfl, rfl, Hb, Ho, hWr⟩ := hrel
    obtain ⟨va, vc, rfl⟩ := own_val hWr.2.1
    by_cases hlt : i < c.length
    · obtain ⟨cb, co, rfl, ccell⟩ := hc.get hlt
      obtain ⟨x0, x1, x2⟩ := ccell i hlt
      have hcb := block_lt x0
      replace x0 := cell_below hWr.2.2 x0
      replace x1 := cell_below hWr.2.2 x1
      replace x2 := cell_below hWr.2.2 x2
      have l0 : wr.cell? ⟨w.heap.size, 0, none⟩ = some (.int .i64 t.x) := by rw [cell_of_row _ _ _ _ _ _ hWr.1]; rfl
      have l1 : wr.cell? ⟨w.heap.size, 1, none⟩ = some (.int .i64 t.y) := by rw [cell_of_row _ _ _ _ _ _ hWr.1]; rfl
      have l2 : wr.cell? ⟨w.heap.size, 2, none⟩ = some (.bool t.n) := by rw [cell_of_row _ _ _ _ _ _ hWr.1]; rfl
      have Hs1 : Hid (wasL (c.take (i + 1)) t = (wasL (c.take i) t || decide (placeI (c.getD i lt0) = placeI t))) := by
        show _ = _
        rw [take_snoc hlt, wasL_snoc]
      have Hs2 : Hid (woutL (c.take (i + 1)) t = woutL (c.take i) t ++ if placeI (c.getD i lt0) = placeI t then [] else [c.getD i lt0]) := by
        show _ = _
        rw [take_snoc hlt, woutL_snoc]
      have hOl : out.length ≤ 1000 := by
        have h1 := Ho.out
        have h2 : (woutL (c.take i) t).length ≤ (c.take i).length := List.length_filter_le _ _
        rw [← h1, List.length_take] at h2
        omega
      generalize c.getD i lt0 = u at *
      have hne : Nonempty (Up wr) := ⟨⟨wr, Below.refl _ _⟩⟩
      have d0 : ∀ u' : Up wr, u'.world.cell? ⟨cb, co + i * 3, none⟩ = some (.int .i64 u.x) := fun u' => u'.cell x0
      have d1 : ∀ u' : Up wr, u'.world.cell? ⟨cb, co + i * 3 + 1, none⟩ = some (.int .i64 u.y) := fun u' => u'.cell x1
      have d2 : ∀ u' : Up wr, u'.world.cell? ⟨cb, co + i * 3 + 2, none⟩ = some (.bool u.n) := fun u' => u'.cell x2
      have d3 : ∀ u' : Up wr, u'.world.cell? ⟨w.heap.size, 0, none⟩ = some (.int .i64 t.x) := fun u' => u'.cell l0
      have d4 : ∀ u' : Up wr, u'.world.cell? ⟨w.heap.size, 1, none⟩ = some (.int .i64 t.y) := fun u' => u'.cell l1
      have d5 : ∀ u' : Up wr, u'.world.cell? ⟨w.heap.size, 2, none⟩ = some (.bool t.n) := fun u' => u'.cell l2
      clear ccell
      go_upto_region 6 with fail
      refine wp_region_up (by kernel_rfl) (by kernel_rfl) ?_
      repeat (go_big_quiet_step (fail))
      go_big_quiet_step ((go_at_call 126; exact calls_up (place_any u _)))
      repeat (go_big_quiet_step (fail))
      go_big_quiet_step ((go_at_call 126; exact calls_up (place_any t _)))
      repeat (go_big_quiet_step (fail))
      refine wpQuiet_nil ?_
      intro _ hw'
      obtain ⟨nq, hw''⟩ := hw'
      subst hw''
      have hbD := nq.above
      have hWD := hWr.below hbD
      replace x0 := cell_below hbD x0
      replace x1 := cell_below hbD x1
      replace x2 := cell_below hbD x2
      have hszD : w.heap.size + 1 ≤ nq.world.heap.size := (Array.getElem?_eq_some_iff.1 hWD.1).1
      generalize nq.world = wD at *
      clear d0 d1 d2 d3 d4 d5 hne l0 l1 l2
      by_cases hp : placeI u = placeI t
      · have hp' : (placeI u == placeI t) = true := by simp [hp]
        have Hp := hide hp
        clear hp
        go_wp2_with fail
        go_roundg (c.length - (i + 1))
        case measure => omega
        case rel => exact ⟨i + 1, true, out, rfl, by omega, by go_num, rfl, (by show _ = _; rw [Hs1.out]; simp [Hp.out]), (by show _ = _; rw [Hs2.out, if_pos Hp.out, ← Ho.out]; simp), hWD⟩
      · have hp' : (placeI u == placeI t) = false := by simpa using hp
        have Hp := hide hp
        clear hp
        go_wp2_with (at_builtin; refine wpList_append_own _ rfl (.tmp 23) (.tmp 28) 43 rfl (w.heap.size + 1) 50 i1 (.agg #[.int .i64 0, .int .i64 0, .bool false]) 3 24 Try.underlying43 hi1 hy0 hy1 hy2 rfl (by decide) (.slice va out.length vc) out.length (lsCells out) rfl (hWD.2.1.alloc _) ⟨wD.heap.size, 0, none⟩ 1 1 (ltCells u) rfl rfl (by simpa using new_lt wD u 50) (ltCells_one _) (by unfold maxLen; omega) (by omega) (by simp; omega) ?_)
        intro qv w9 hown9 hgr9 hz9
        clear hz9
        have hW9 := (hWD.below ((Below.refl _ _).alloc (Nat.le_refl _) _)).append (t := u) hgr9 hown9
        clear hown9 hgr9
        obtain ⟨qa, qc, hqv⟩ := own_val hW9.2.1
        subst hqv
        go_wp2_with fail
        go_roundg (c.length - (i + 1))
        case measure => omega
        case rel => exact ⟨i + 1, b, out ++ [u], rfl, by omega, by go_num, rfl, (by show _ = _; rw [Hs1.out, ← Hb.out]; simp [Hp.out]), (by show _ = _; rw [Hs2.out, if_neg Hp.out, ← Ho.out]), by simpa using hW9⟩
    · have e : c.take i = c := List.take_of_length_le (by omega)
      rw [e] at Hb Ho
      clear e
      go_wp2_with fail
      go_ret2
      rw [← Hb.out, ← Ho.out]
      exact ⟨va, vc, rfl, own_base hWr.2.1 (Nat.le_succ _), hWr.2.2⟩
end Go.Proofs.Ytjebhhoibofmfaa
