import Derived.Test.YtjebhhoibofmfaaSuB
import Derived.Test.YtjebhhoibofmfaaSuC
namespace Go.Proofs.Ytjebhhoibofmfaa
open Go.RowKit

theorem keep5 {W : World} {g B R o : Nat} {x0 x1 x2 x3 x4 : Int} {x y z : Value} (hB : g ≠ B) (hR : g ≠ R) (h : W.cell? ⟨B, 0, none⟩ = some x ∧ W.cell? ⟨B, 1, none⟩ = some y ∧ W.cell? ⟨R, o, none⟩ = some z) :
    (w5 W g x0 x1 x2 x3 x4).cell? ⟨B, 0, none⟩ = some x ∧ (w5 W g x0 x1 x2 x3 x4).cell? ⟨B, 1, none⟩ = some y ∧ (w5 W g x0 x1 x2 x3 x4).cell? ⟨R, o, none⟩ = some z := by
  refine ⟨?_, ?_, ?_⟩
  · exact set_other (.inl hB.symm) (set_other (.inl hB.symm) (set_other (.inl hB.symm) (set_other (.inl hB.symm) (set_other (.inl hB.symm) h.1))))
  · exact set_other (.inl hB.symm) (set_other (.inl hB.symm) (set_other (.inl hB.symm) (set_other (.inl hB.symm) (set_other (.inl hB.symm) h.2.1))))
  · exact set_other (.inl hR.symm) (set_other (.inl hR.symm) (set_other (.inl hR.symm) (set_other (.inl hR.symm) (set_other (.inl hR.symm) h.2.2))))

theorem frozen_new (w : World) (vs : Array Value) (t : TypeId) (i : Nat) : (w.alloc (.cells vs t)).drew.frozen? ⟨w.heap.size, i, none⟩ = false := by
  show (w.alloc (.cells vs t)).frozen? ⟨w.heap.size, i, none⟩ = false
  simp

/-- What is known of a step's box that was made ahead of a call. -/
def ZC (wr w' : World) : Prop :=
  w'.cell? ⟨wr.heap.size, 0, none⟩ = some (.int .i64 0) ∧ w'.cell? ⟨wr.heap.size, 1, none⟩ = some (.int .i64 0) ∧ w'.cell? ⟨wr.heap.size, 2, none⟩ = some (.int .i64 0) ∧ w'.cell? ⟨wr.heap.size, 3, none⟩ = some (.int .i64 0) ∧ w'.cell? ⟨wr.heap.size, 4, none⟩ = some (.int .i64 0) ∧
  w'.frozen? ⟨wr.heap.size, 0, none⟩ = false ∧ w'.frozen? ⟨wr.heap.size, 1, none⟩ = false ∧ w'.frozen? ⟨wr.heap.size, 2, none⟩ = false ∧ w'.frozen? ⟨wr.heap.size, 3, none⟩ = false ∧ w'.frozen? ⟨wr.heap.size, 4, none⟩ = false ∧ Below wr.heap.size wr w'

theorem zcells {wr w' : World} {t : TypeId} (hb : Below (wr.alloc (.cells #[.int .i64 0, .int .i64 0, .int .i64 0, .int .i64 0, .int .i64 0] t)).drew.heap.size (wr.alloc (.cells #[.int .i64 0, .int .i64 0, .int .i64 0, .int .i64 0, .int .i64 0] t)).drew w') : ZC wr w' :=
  ⟨cell_below hb (drew_old (alloc_new' rfl)), cell_below hb (drew_old (alloc_new' rfl)), cell_below hb (drew_old (alloc_new' rfl)), cell_below hb (drew_old (alloc_new' rfl)), cell_below hb (drew_old (alloc_new' rfl)),
    frozen_below hb (by simp) (frozen_new wr _ _ 0), frozen_below hb (by simp) (frozen_new wr _ _ 1), frozen_below hb (by simp) (frozen_new wr _ _ 2), frozen_below hb (by simp) (frozen_new wr _ _ 3), frozen_below hb (by simp) (frozen_new wr _ _ 4),
    ((below_alloc wr _).drew).trans (hb.mono (by simp))⟩

theorem below_of_drew {wr w' : World} (hb : Below wr.drew.heap.size wr.drew w') : Below wr.heap.size wr w' := ((Below.refl _ _).drew).trans hb

set_option maxRecDepth 100000 in
set_option maxHeartbeats 8000000 in
theorem grown_any (ta sa ra : Option Addr) (tc sc rc : Nat) (ts : List Tm) (cs : List Cl) (rs : List Int) (w : World) (ht : TermsAt w ta ts) (hcs : ClausesAt w sa cs) (hr : IntsAt w ra rs) (hts : termsB ts = true) (hcl : clausesB ts.length cs = true)
    (hwf : ∀ i, i < rs.length → -9223372036854775808 ≤ rs.getD i 0 ∧ rs.getD i 0 ≤ 9223372036854775807) :
    Calls Try.prog 27 #[.agg #[.slice ta ts.length tc, .slice sa cs.length sc], .slice ra rs.length rc] w fun e w' => ∃ la lc sts,
      e = .returned (.tuple #[.slice la sts.length lc, .bool true]) ∧ StepsAt w' la sts ∧ sts.length ≤ 60 ∧ sts.length ≤ lc ∧ (followL ts cs sts []).length = sts.length ∧ Below w.heap.size w w' := by
  obtain ⟨i1, hi1, hy0, hy1, hy2⟩ := info_parts info_step
  have hr0 : refuseI ts cs = 0 := by simp [refuseI, hts, hcl]
  have Hr0 := hide hr0
  have hn1 := (len_of hts).1
  have hn9 := (len_of hts).2
  have h16 := (clausesIn_of hcl).1
  obtain ⟨W, hW⟩ : ∃ W, W = w.alloc (.cells #[.slice ta ts.length tc, .slice sa cs.length sc] 33) := ⟨_, rfl⟩
  have hb0 : Below w.heap.size w W := by rw [hW]; exact below_alloc _ _
  have p0 : W.cell? ⟨w.heap.size, 0, none⟩ = some (.slice ta ts.length tc) := by rw [hW]; simp
  have p1 : W.cell? ⟨w.heap.size, 1, none⟩ = some (.slice sa cs.length sc) := by rw [hW]; simp
  have ht1 := ht.below hb0
  have hcs1 := hcs.below hb0
  have hr1 := hr.below hb0
  have Hwf := hide hwf
  clear hr0 hwf hts hcl ht hcs hr
  go_enter Try.func27, Try.ntmps27
  go_upto_region 1 with fail
  rw [← hW]
  clear hW
  generalize hB : w.heap.size = B at *
  have HB := hide hB
  clear hB
  go_wp2_with fail
  go_loopg [6, 7] 60 (fun g s6 s7 wr => ∃ (i : Nat) (la : Option Addr) (lc : Nat) (sts : List St), g = 60 - i ∧ i ≤ 60 ∧ i ≤ rs.length ∧ s7 = .int .i64 i ∧ s6 = .slice la sts.length lc ∧ Hid (sts.length ≤ i) ∧ Hid ((followL ts cs sts []).length = sts.length) ∧
    wr.ownsRow B 62 5 (.slice la sts.length lc) sts.length (stCells sts) ∧ Below W.heap.size W wr)
  case atStart => exact ⟨0, none, 0, [], rfl, by omega, by omega, rfl, rfl, Nat.le_refl _, rfl, World.ownsRow_nil _ _ _ _, Below.refl _ _⟩
  case round =>
    obtain ⟨i, la, lc, sts, rfl, hi, hir, rfl, rfl, Hl, Hf, hown, hbr⟩ := hrel
    by_cases hlt : i < rs.length ∧ i < 60
    · obtain ⟨hlt, hi60⟩ := hlt
      obtain ⟨rb, ro, rfl, rcell⟩ := (hr1.below hbr).get hlt
      have rx := rcell i hlt
      obtain ⟨x1, x2⟩ := Hwf.out i hlt
      generalize rs.getD i 0 = x at *
      have c0 := cell_below hbr p0
      have c1 := cell_below hbr p1
      have i0 : (i : Int) < (rs.length : Int) := by omega
      have i60 : (i : Int) < 60 := by omega
      have ii0 : (0 : Int) ≤ (i : Int) := by omega
      have hl60 : sts.length ≤ 60 := Nat.le_trans Hl.out hi
      clear rcell
      go_upto_region 5 with fail
      go_cut [8] (fun s8 wx => ∃ (g : Nat) (s : St), s8 = .pointer (some ⟨g, 0, none⟩) ∧ wx.cell? ⟨g, 0, none⟩ = some (.int .i64 s.r) ∧ wx.cell? ⟨g, 1, none⟩ = some (.int .i64 s.a) ∧ wx.cell? ⟨g, 2, none⟩ = some (.int .i64 s.b) ∧ wx.cell? ⟨g, 3, none⟩ = some (.int .i64 s.c) ∧ wx.cell? ⟨g, 4, none⟩ = some (.int .i64 s.d) ∧ Below wr.heap.size wr wx)
      case first =>
        have nB : wr.heap.size ≠ B := fun h => by have := block_lt c0; omega
        have nR : wr.heap.size ≠ rb := fun h => by have := block_lt rx; omega
        clear hown hbr p0 p1 ht1 hcs1 hr1 hi1 hy0 hy1 hy2 Hf Hl Hwf Hr0 HB hb0 i60 hi hir
        go_region_held3 (fun w' => w'.cell? ⟨B, 0, none⟩ = some (.slice ta ts.length tc) ∧ w'.cell? ⟨B, 1, none⟩ = some (.slice sa cs.length sc) ∧ w'.cell? ⟨rb, ro + i, none⟩ = some (.int .i64 x))
          (first | with_reducible exact ⟨drew_old c0, drew_old c1, drew_old rx⟩ | with_reducible exact ⟨drew_old (alloc_old c0), drew_old (alloc_old c1), drew_old (alloc_old rx)⟩ | with_reducible exact hS | with_reducible exact keep3' (below_alloc _ _) hS | with_reducible exact keep5 nB nR hS)
          (first
            | (go_at_call 19; refine (pick_any x 1152921504606846976 _ x1 x2 (by omega) (by omega)).mono ?_; rintro e w' ⟨r, hrr, rfl, rfl⟩)
            | (go_at_call 52; refine (kstep_any ta sa tc sc ts.length cs.length r sts.length _ hn1 hn9 h16 hl60 (by omega)).mono ?_; rintro e w' ⟨s, rfl, hb⟩; have hS : w'.cell? ⟨B, 0, none⟩ = some (.slice ta ts.length tc) ∧ w'.cell? ⟨B, 1, none⟩ = some (.slice sa cs.length sc) ∧ w'.cell? ⟨rb, ro + i, none⟩ = some (.int .i64 x) := (by with_reducible exact keep3' hb (by assumption)); first | (have hz : ZC wr w' := (by with_reducible exact zcells hb); obtain ⟨z0, z1, z2, z3, z4, zf0, zf1, zf2, zf3, zf4, hbq⟩ := hz) | (have hbq : Below wr.heap.size wr w' := (by with_reducible exact below_of_drew hb))))
        all_goals
          go_wp2_with fail
          go_meet
          first
            | exact ⟨_, s, rfl, (w5_cells z0 z1 z2 z3 z4).1, (w5_cells z0 z1 z2 z3 z4).2.1, (w5_cells z0 z1 z2 z3 z4).2.2.1, (w5_cells z0 z1 z2 z3 z4).2.2.2.1, (w5_cells z0 z1 z2 z3 z4).2.2.2.2, w5_below hbq (Nat.le_refl _)⟩
            | exact ⟨_, s, rfl, alloc_new' rfl, alloc_new' rfl, alloc_new' rfl, alloc_new' rfl, alloc_new' rfl, hbq.trans ((below_alloc w' _).mono hbq.size)⟩
      case rest =>
        obtain ⟨g, s, rfl, d0, d1, d2, d3, d4, hbx⟩ := hcut
        have hownx := own_below hown hbx
        have hbrx : Below W.heap.size W wc := hbr.trans (hbx.mono hbr.size)
        obtain ⟨hnone, hle⟩ := own_none hown
        clear c0 c1 rx x1 x2 hown hbr hbx
        have hle' : (sts.length : Int) ≤ (lc : Int) := by omega
        have hcellA := own_cells (own_below hownx (below_alloc wc (.cells #[.int .i64 s.r, .int .i64 s.a, .int .i64 s.b, .int .i64 s.c, .int .i64 s.d] 62)))
        have HcA := hide hcellA
        have Hnone : Hid (la = none → sts.length = 0 ∧ sts.length = 0) := fun h => ⟨(hnone h).1, (hnone h).1⟩
        clear hcellA
        have hBwc : B ≤ wc.heap.size := by have := block_lt (cell_below hbrx p0); omega
        go_upto_region 6 with fail
        go_cut [9] (fun s9 wx => ∃ (qa : Option Addr) (qc : Nat) (sq : List St), Hid (sq = sts ++ [s]) ∧ s9 = .slice qa sq.length qc ∧ wx.ownsRow B 62 5 (.slice qa sq.length qc) sq.length (stCells sq) ∧ Below wc.heap.size wc wx)
        case first =>
          clear hownx hbrx
          go_region_law (refine step_append_grows rfl (.tmp 36) (.tmp 38) 34 rfl 62 i1 (.agg #[.int .i64 0, .int .i64 0, .int .i64 0, .int .i64 0, .int .i64 0]) 5 40 Try.underlying34 hi1 hy0 hy1 hy2 rfl (by decide) la sts.length sts.length (stCells sts) (by simp [Act.eval]) Hnone.out (stCells_length _) HcA.out ⟨wc.heap.size, 0, none⟩ 1 1 (siCells s) (by simp [Act.eval]) rfl (new_si wc s _) (siCells_one _) (by omega) (by unfold maxLen; omega) (by omega) ?_; intro v2 w2 hown2 hgrow2)
          all_goals
            obtain ⟨qa, qc, hqv⟩ := own_val hown2
            subst hqv
            have hb2 : Below wc.heap.size wc w2 := ((below_alloc wc _).drew).grown hgrow2 (by simp) (fun k hk => by cases hk)
            have hown3 : w2.ownsRow B 62 5 (.slice qa (sts ++ [s]).length qc) (sts ++ [s]).length (stCells (sts ++ [s])) := by
              rw [stCells_snoc, List.length_append]
              exact own_base hown2 (by simp; omega)
            have Hown3 := hide hown3
            clear hown2 hgrow2 hown3
            go_wp2_with fail
            go_meet
            exact ⟨qa, qc, sts ++ [s], rfl, by rw [List.length_append]; rfl, Hown3.out, hb2⟩
        case rest =>
          obtain ⟨qa, qc, sq, Hsq, rfl, hownq, hbq⟩ := hcut
          have hbW : Below W.heap.size W wc := hbrx.trans (hbq.mono hbrx.size)
          have c0 := cell_below hbW p0
          have c1 := cell_below hbW p1
          have hchk := chk_snoc s Hr0.out Hf.out
          rw [← Hsq.out] at hchk
          have Hql : Hid (sq.length = sts.length + 1) := by show _ = _; rw [Hsq.out]; simp
          have hcon := check_any ta sa qa tc sc qc ts cs sq wc (ht1.below hbW) (hcs1.below hbW) (stepsAt_of_own hownq) (by have := Hql.out; omega)
          have hownl := own_below hownx hbq
          have Hcon := hide hcon
          have Hchk := hide hchk
          clear hcon hchk hownx hbq hbrx d0 d1 d2 d3 d4 hnone hle hle' HcA Hnone
          go_wp2_with fail
          refine Hcon.out.mono ?_
          rintro e w7 ⟨rfl, hb7⟩
          have hbW7 : Below W.heap.size W w7 := hbW.trans (hb7.mono hbW.size)
          have hownl7 := own_below hownl hb7
          have hownq7 := own_below hownq hb7
          have hHl := hide hownl7
          have hHq := hide hownq7
          clear Hcon hb7 hbW c0 c1 hownl hownq hownl7 hownq7
          rcases Hchk.out with ⟨hE, hN⟩ | ⟨hE, hN, hL⟩
          · rw [hE, hN]
            clear hE hN Hchk
            go_wp2_with fail
            go_roundg (60 - (i + 1))
            case measure => omega
            case rel => exact ⟨i + 1, la, lc, sts, rfl, by omega, by omega, by go_num, rfl, (by have := Hl.out; show sts.length ≤ i + 1; omega), Hf, hHl.out, hbW7⟩
          · have HL := hide hL
            rw [show ((sts.length + 1 : Nat) : Int) = (sq.length : Int) by rw [Hql.out]] at hN
            rcases hE with hE | hE
            · rw [hE, hN]
              clear hE hN hL Hchk
              go_wp2_with fail
              go_roundg (60 - (i + 1))
              case measure => omega
              case rel => exact ⟨i + 1, qa, qc, sq, rfl, by omega, by omega, by go_num, rfl, (by have := Hl.out; have := Hql.out; show sq.length ≤ i + 1; omega), HL, hHq.out, hbW7⟩
            · rw [hE, hN]
              clear hE hN hL Hchk
              go_wp2_with fail
              go_roundg (60 - (i + 1))
              case measure => omega
              case rel => exact ⟨i + 1, qa, qc, sq, rfl, by omega, by omega, by go_num, rfl, (by have := Hl.out; have := Hql.out; show sq.length ≤ i + 1; omega), HL, hHq.out, hbW7⟩
    · have hl := Hl.out
      have hends : ¬ ((i : Int) < (rs.length : Int) ∧ (i : Int) < 60) := by omega
      obtain ⟨hnone, hle⟩ := own_none hown
      have hst := stepsAt_of_own hown
      have hbw : Below B w wr := hb0.trans (hbr.mono (by have := block_lt p0; omega))
      clear hown hbr
      by_cases h1 : i < rs.length
      · have h2 : ¬ i < 60 := by omega
        go_wp2_with fail
        go_ret2
        exact ⟨la, lc, sts, rfl, hst, by omega, hle, Hf.out, by rw [HB.out]; exact hbw⟩
      · go_wp2_with fail
        go_ret2
        exact ⟨la, lc, sts, rfl, hst, by omega, hle, Hf.out, by rw [HB.out]; exact hbw⟩
end Go.Proofs.Ytjebhhoibofmfaa
