import Derived.Test.YtiobmhfpnhjmcaaEXLwI
import Derived.Test.YtiobmhfpnhjmcaaEMEq
namespace Go.Proofs.Ytiobmhfpnhjmcaa
open Go.RowKit
theorem Row.ints {w : World} {b : Nat} {xs : List Int} (h : Row w b xs) : IntsAt w (some ⟨b, 0, none⟩) xs :=
  .inr ⟨b, 0, rfl, fun i hi => by rw [Nat.zero_add]; exact h.cell hi⟩
theorem LRow.lits {w : World} {b : Nat} {ls : List Lt} (h : LRow w b ls) : LitsAt w (some ⟨b, 0, none⟩) ls :=
  .inr ⟨b, 0, rfl, fun i hi => by rw [Nat.zero_add]; exact h.cell hi⟩
theorem TRow.terms {w : World} {g : Nat} {ts : List Tm} (h : TRow w g ts) (ha : ∀ i, i < ts.length → IntsAt w (ts.getD i tm0).a (ts.getD i tm0).args) : TermsAt w (some ⟨g, 0, none⟩) ts :=
  .inr ⟨g, 0, rfl, fun i hi => by rw [Nat.zero_add]; exact ⟨(h.cell hi).1, (h.cell hi).2, ha i hi⟩⟩
theorem CRow.clauses {w : World} {g : Nat} {cs : List Cl} (h : CRow w g (csCells cs)) (ha : ∀ i, i < cs.length → LitsAt w (cs.getD i cl0).a (cs.getD i cl0).ls) : ClausesAt w (some ⟨g, 0, none⟩) cs :=
  .inr ⟨g, 0, rfl, fun i hi => by
    rw [Nat.zero_add]
    have := h.cell (k := i) (by simpa [csCells] using hi)
    rw [show (csCells cs).getD i undef = clVal (cs.getD i cl0) by simp [csCells, hi]] at this
    exact ⟨this, ha i hi⟩⟩
def fourTs (b1 b2 : Nat) : List Tm := [⟨0, none, 0, []⟩, ⟨1, none, 0, []⟩, ⟨2, some ⟨b1, 0, none⟩, 1, [0]⟩, ⟨2, some ⟨b2, 0, none⟩, 1, [1]⟩]
def FourAt (B : Nat) (w : World) (g b1 b2 : Nat) : Prop := B ≤ g ∧ B ≤ b1 ∧ B ≤ b2 ∧ TRow w g (fourTs b1 b2) ∧ Row w b1 [0] ∧ Row w b2 [1]
theorem FourAt.up {B : Nat} {w w' : World} {g b1 b2 : Nat} (h : FourAt B w g b1 b2) (hb : Below w.heap.size w w') : FourAt B w' g b1 b2 :=
  ⟨h.1, h.2.1, h.2.2.1, h.2.2.2.1.below hb, h.2.2.2.2.1.up hb, h.2.2.2.2.2.up hb⟩
theorem FourAt.kept {B k : Nat} {w w' : World} {g b1 b2 : Nat} (h : FourAt B w g b1 b2) (hg : w.grownBy w' (some k)) (hk : k < B) : FourAt B w' g b1 b2 := by
  obtain ⟨h1, h2, h3, h4, h5, h6⟩ := h
  refine ⟨h1, h2, h3, ?_, h5.kept hg (fun e => by injection e with e; omega), h6.kept hg (fun e => by injection e with e; omega)⟩
  unfold TRow
  rw [hg.block g h4.lt (fun e => by injection e with e; omega)]; exact h4
theorem FourAt.terms {B : Nat} {w : World} {g b1 b2 : Nat} (h : FourAt B w g b1 b2) : TermsAt w (some ⟨g, 0, none⟩) (fourTs b1 b2) := by
  obtain ⟨h1, h2, h3, h4, h5, h6⟩ := h
  refine TRow.terms h4 (fun i hi => ?_)
  match i, hi with
  | 0, _ => exact .inl rfl
  | 1, _ => exact .inl rfl
  | 2, _ => exact h5.ints
  | 3, _ => exact h6.ints
set_option maxRecDepth 100000 in
set_option maxHeartbeats 1000000 in
theorem four_any (w : World) : Calls Try.prog 8 #[] w fun e w' => ∃ b1 b2 g, e = .returned (.slice (some ⟨g, 0, none⟩) 4 4) ∧ FourAt w.heap.size w' g b1 b2 ∧ Below w.heap.size w w' := by
  go_enter Try.func8, Try.ntmps8
  go_wp2_with fail
  go_ret
  have r3 := heap_at_new ((w.alloc (.cells #[.int .i64 0] 3)).alloc (.cells #[.int .i64 1] 3)) (.cells #[.int .i64 0, .slice none 0 0, .int .i64 1, .slice none 0 0, .int .i64 2, .slice (some ⟨w.heap.size, 0, none⟩) 1 1, .int .i64 2, .slice (some ⟨w.heap.size + 1, 0, none⟩) 1 1] 61) (w.heap.size + 1 + 1) (by simp)
  have r2 := heap_at_old _ (.cells #[.int .i64 0, .slice none 0 0, .int .i64 1, .slice none 0 0, .int .i64 2, .slice (some ⟨w.heap.size, 0, none⟩) 1 1, .int .i64 2, .slice (some ⟨w.heap.size + 1, 0, none⟩) 1 1] 61) (heap_at_new (w.alloc (.cells #[.int .i64 0] 3)) (.cells #[.int .i64 1] 3) (w.heap.size + 1) (by simp))
  have r1 := heap_at_old _ (.cells #[.int .i64 0, .slice none 0 0, .int .i64 1, .slice none 0 0, .int .i64 2, .slice (some ⟨w.heap.size, 0, none⟩) 1 1, .int .i64 2, .slice (some ⟨w.heap.size + 1, 0, none⟩) 1 1] 61) (heap_at_old _ (.cells #[.int .i64 1] 3) (heap_at_new w (.cells #[.int .i64 0] 3) w.heap.size rfl))
  exact ⟨w.heap.size, w.heap.size + 1, w.heap.size + 1 + 1, rfl, ⟨by omega, by omega, by omega, r3, r1, r2⟩, (((Below.refl _ _).alloc (Nat.le_refl _) _).alloc (by simp) _).alloc (by simp; omega) _⟩
theorem four_ok (b1 b2 : Nat) : TmsOk (fourTs b1 b2) := by
  intro i hi
  match i, hi with
  | 0, _ => exact ⟨fun _ => rfl, by simp [fourTs]⟩
  | 1, _ => exact ⟨fun _ => rfl, by simp [fourTs]⟩
  | 2, _ => exact ⟨fun h => by simp [fourTs] at h, by simp [fourTs]⟩
  | 3, _ => exact ⟨fun h => by simp [fourTs] at h, by simp [fourTs]⟩
def unClauses (c1 c2 : Nat) : List Cl := [⟨some ⟨c1, 0, none⟩, 1, [⟨0, 1, false⟩]⟩, ⟨some ⟨c2, 0, none⟩, 1, [⟨2, 3, true⟩]⟩]
set_option maxRecDepth 100000 in
set_option maxHeartbeats 2000000 in
theorem unsaid_full (w : World) : Calls Try.prog 9 #[] w fun e w' => ∃ b1 b2 g c1 c2 cg sg, e = .returned (.tuple #[.agg #[.slice (some ⟨g, 0, none⟩) 4 4, .slice (some ⟨cg, 0, none⟩) 2 2], .slice (some ⟨sg, 0, none⟩) 5 5]) ∧
    TermsAt w' (some ⟨g, 0, none⟩) (fourTs b1 b2) ∧ ClausesAt w' (some ⟨cg, 0, none⟩) (unClauses c1 c2) ∧ w'.heap[sg]? = some (.cells #[.int .i64 0, .int .i64 0, .int .i64 0, .int .i64 0, .int .i64 0, .int .i64 0, .int .i64 1, .int .i64 0, .int .i64 0, .int .i64 0, .int .i64 3, .int .i64 2, .int .i64 3, .int .i64 0, .int .i64 0, .int .i64 4, .int .i64 2, .int .i64 1, .int .i64 2, .int .i64 3, .int .i64 4, .int .i64 0, .int .i64 3, .int .i64 0, .int .i64 1] 63 (0, 0)) ∧ Below w.heap.size w w' := by
  go_enter Try.func9, Try.ntmps9
  go_wp2_with fail
  refine (four_any _).mono ?_
  rintro e w' ⟨b1, b2, g, rfl, hF, hb⟩
  have hb0 : Below w.heap.size w w' := ((Below.refl _ _).alloc (Nat.le_refl _) _).trans (hb.mono (by simp))
  have hrb : w'.heap[w.heap.size]? = some (.cells #[.slice none 0 0, .slice none 0 0] 33 (0, 0)) := (hb.block _ (by simp)).trans (heap_at_new _ _ _ rfl)
  have hsz : w.heap.size + 1 ≤ w'.heap.size := by have := hb.size; simp at this; exact this
  rw [show (w.alloc (.cells #[.slice none 0 0, .slice none 0 0] 33)).heap.size = w.heap.size + 1 by simp] at hF
  clear hb
  go_upto_region 2 with fail
  obtain ⟨wa, hwa⟩ : ∃ wa, wa = w'.alloc (.cells #[.int .i64 0, .int .i64 1, .bool false] 44) := ⟨_, rfl⟩
  rw [← hwa]
  obtain ⟨wb, hwb⟩ : ∃ wb, wb = wa.alloc (.cells #[.int .i64 2, .int .i64 3, .bool true] 44) := ⟨_, rfl⟩
  rw [← hwb]
  obtain ⟨wc, hwc⟩ : ∃ wc, wc = wb.alloc (.cells #[.slice (some ⟨w'.heap.size, 0, none⟩) 1 1, .slice (some ⟨w'.heap.size + 1, 0, none⟩) 1 1] 45) := ⟨_, rfl⟩
  rw [← hwc]
  obtain ⟨wd, hwd⟩ : ∃ wd, wd = wc.alloc (.cells #[.slice (some ⟨g, 0, none⟩) 4 4, .slice (some ⟨w'.heap.size + 1 + 1, 0, none⟩) 2 2] 33) := ⟨_, rfl⟩
  rw [← hwd]
  have sa : wa.heap.size = w'.heap.size + 1 := by rw [hwa]; simp
  have sb : wb.heap.size = w'.heap.size + 1 + 1 := by rw [hwb]; simp [sa]
  have sc : wc.heap.size = w'.heap.size + 1 + 1 + 1 := by rw [hwc]; simp [sb]
  have ba : Below w'.heap.size w' wa := by rw [hwa]; exact (Below.refl _ _).alloc (Nat.le_refl _) _
  have bb : Below wa.heap.size wa wb := by rw [hwb]; exact (Below.refl _ _).alloc (Nat.le_refl _) _
  have bc : Below wb.heap.size wb wc := by rw [hwc]; exact (Below.refl _ _).alloc (Nat.le_refl _) _
  have bd : Below wc.heap.size wc wd := by rw [hwd]; exact (Below.refl _ _).alloc (Nat.le_refl _) _
  have ra : LRow wa w'.heap.size [⟨0, 1, false⟩] := by rw [hwa]; exact heap_at_new _ _ _ rfl
  have rb : LRow wb (w'.heap.size + 1) [⟨2, 3, true⟩] := by rw [hwb]; exact heap_at_new _ _ _ sa.symm
  have rc : CRow wc (w'.heap.size + 1 + 1) (csCells (unClauses w'.heap.size (w'.heap.size + 1))) := by rw [hwc]; exact heap_at_new _ _ _ sb.symm
  have rd : wd.heap[w'.heap.size + 1 + 1 + 1]? = some (.cells #[.slice (some ⟨g, 0, none⟩) 4 4, .slice (some ⟨w'.heap.size + 1 + 1, 0, none⟩) 2 2] 33 (0, 0)) := by rw [hwd]; exact heap_at_new _ _ _ sc.symm
  replace ra := ((ra.up bb).up bc).up bd
  replace rb := (rb.up bc).up bd
  replace rc := rc.up bd
  replace hF := (((hF.up ba).up bb).up bc).up bd
  have bwd : Below w'.heap.size w' wd := ((ba.trans (bb.mono (by omega))).trans (bc.mono (by omega))).trans (bd.mono (by omega))
  have hrb2 := (bwd.block _ (by omega)).trans hrb
  have hbd : Below w.heap.size w wd := hb0.trans (bwd.mono (by omega))
  have sd := bwd.size
  have d0 : wd.cell? ⟨w'.heap.size + 1 + 1 + 1, 0, none⟩ = some (.slice (some ⟨g, 0, none⟩) 4 4) := by rw [cell_of_row _ _ _ _ _ _ rd]; rfl
  have d1 : wd.cell? ⟨w'.heap.size + 1 + 1 + 1, 1, none⟩ = some (.slice (some ⟨w'.heap.size + 1 + 1, 0, none⟩) 2 2) := by rw [cell_of_row _ _ _ _ _ _ rd]; rfl
  have z0 : wd.cell? ⟨w.heap.size, 0, none⟩ = some (.slice none 0 0) := by rw [cell_of_row _ _ _ _ _ _ hrb2]; rfl
  have z1 : wd.cell? ⟨w.heap.size, 1, none⟩ = some (.slice none 0 0) := by rw [cell_of_row _ _ _ _ _ _ hrb2]; rfl
  have y0 : wd.frozen? ⟨w.heap.size, 0, none⟩ = false := frozen_of_row _ _ _ _ _ hrb2
  have y1 : wd.frozen? ⟨w.heap.size, 1, none⟩ = false := frozen_of_row _ _ _ _ _ hrb2
  have hlt : w.heap.size < wd.heap.size := by omega
  have Hra := hide ra
  have Hrb := hide rb
  have Hrc := hide rc
  have HF := hide hF
  clear hwa hwb hwc hwd sa sb sc ba bb bc bd ra rb rc rd hF bwd hrb hb0
  go_wp2_with fail
  obtain ⟨we, hwe⟩ : ∃ we, we = ((wd.setCell ⟨w.heap.size, 0, none⟩ (.slice (some ⟨g, 0, none⟩) 4 4)).setCell ⟨w.heap.size, 1, none⟩ (.slice (some ⟨w'.heap.size + 1 + 1, 0, none⟩) 2 2)) := ⟨_, rfl⟩
  rw [← hwe]
  have hge : wd.grownBy we (some w.heap.size) := by rw [hwe]; exact grown_set grown_one
  have hre : we.heap[w.heap.size]? = some (.cells #[.slice (some ⟨g, 0, none⟩) 4 4, .slice (some ⟨w'.heap.size + 1 + 1, 0, none⟩) 2 2] 33 (0, 0)) := by
    rw [hwe, heap_setCell_same _ _ _ _ _ _ (heap_setCell_same _ _ _ _ _ _ hrb2)]; rfl
  have hbe : Below w.heap.size w we := hbd.grown hge hbd.size (fun k hk => by injection hk with hk; omega)
  have hse := hge.size
  have Hsz : Hid (wd.heap.size = we.heap.size) := by show _ = _; rw [hwe]; simp
  clear hwe
  generalize hob : Obj.cells #[Value.int .i64 0, Value.int .i64 0, Value.int .i64 0, Value.int .i64 0, Value.int .i64 0, Value.int .i64 0, Value.int .i64 1, Value.int .i64 0, Value.int .i64 0, Value.int .i64 0, Value.int .i64 3, Value.int .i64 2, Value.int .i64 3, Value.int .i64 0, Value.int .i64 0, Value.int .i64 4, Value.int .i64 2, Value.int .i64 1, Value.int .i64 2, Value.int .i64 3, Value.int .i64 4, Value.int .i64 0, Value.int .i64 3, Value.int .i64 0, Value.int .i64 1] 63 = ob at *
  have Hob := hide hob
  clear hob
  have hrf := heap_at_old we ob hre
  have k0 : (we.alloc ob).cell? ⟨w.heap.size, 0, none⟩ = some (.slice (some ⟨g, 0, none⟩) 4 4) := by rw [cell_of_row _ _ _ _ _ _ hrf]; rfl
  have k1 : (we.alloc ob).cell? ⟨w.heap.size, 1, none⟩ = some (.slice (some ⟨w'.heap.size + 1 + 1, 0, none⟩) 2 2) := by rw [cell_of_row _ _ _ _ _ _ hrf]; rfl
  have hbf : Below we.heap.size we (we.alloc ob) := (Below.refl _ _).alloc (Nat.le_refl _) _
  have hFf := (HF.out.kept hge (by omega)).up hbf
  have hne1 : w'.heap.size ≠ w.heap.size := by omega
  have hra := (Hra.out.kept hge (fun e => by injection e with e; omega)).up hbf
  have hrb' := (Hrb.out.kept hge (fun e => by injection e with e; omega)).up hbf
  have hrc := (Hrc.out.kept hge (fun e => by injection e with e; omega)).up hbf
  have hbg : Below w.heap.size w (we.alloc ob) := hbe.trans (hbf.mono (by omega))
  exact bodyPost_ret (v := .tuple #[.agg #[.slice (some ⟨g, 0, none⟩) 4 4, .slice (some ⟨w'.heap.size + 1 + 1, 0, none⟩) 2 2], .slice (some ⟨wd.heap.size, 0, none⟩) 5 5]) (by simp [results, Try.results9, go_sem, k0, k1]) rfl
    ⟨b1, b2, g, w'.heap.size, w'.heap.size + 1, w'.heap.size + 1 + 1, _, rfl, hFf.terms, hrc.clauses (fun i hi => by
      match i, hi with
      | 0, _ => exact hra.lits
      | 1, _ => exact hrb'.lits), (by rw [heap_at_new we ob _ Hsz.out, ← Hob.out]), hbg⟩
theorem unsaid_any (w : World) : Calls Try.prog 9 #[] w fun e w' => ∃ b1 b2 g c1 c2 cg st, e = .returned (.tuple #[.agg #[.slice (some ⟨g, 0, none⟩) 4 4, .slice (some ⟨cg, 0, none⟩) 2 2], st]) ∧
    TermsAt w' (some ⟨g, 0, none⟩) (fourTs b1 b2) ∧ ClausesAt w' (some ⟨cg, 0, none⟩) (unClauses c1 c2) ∧ Below w.heap.size w w' := by
  refine (unsaid_full w).mono ?_
  rintro e w' ⟨b1, b2, g, c1, c2, cg, sg, rfl, h1, h2, _, h3⟩
  exact ⟨b1, b2, g, c1, c2, cg, _, rfl, h1, h2, h3⟩
end Go.Proofs.Ytiobmhfpnhjmcaa
