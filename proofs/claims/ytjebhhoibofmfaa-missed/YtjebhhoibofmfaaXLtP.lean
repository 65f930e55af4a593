import Derived.Test.YtjebhhoibofmfaaXLtO
namespace Go.Proofs.Ytjebhhoibofmfaa
open Go.RowKit

theorem FW.new {w W2 W W' : World} {p0 p1 v : Value} (hb2 : Below w.heap.size w W2) (hs2 : W2.heap.size = w.heap.size + 1 + 1) (h0 : W2.cell? ⟨w.heap.size, 0, none⟩ = some p0) (h1 : W2.cell? ⟨w.heap.size, 1, none⟩ = some p1)
    (r0 : W2.cell? ⟨w.heap.size + 1, 0, none⟩ = some (.int .u64 0)) (r1 : W2.cell? ⟨w.heap.size + 1, 1, none⟩ = some (.int .u64 0)) (f0 : W2.frozen? ⟨w.heap.size + 1, 0, none⟩ = false) (f1 : W2.frozen? ⟨w.heap.size + 1, 1, none⟩ = false)
    (hW : W = W2.alloc (.cells #[.int .u64 0, .int .u64 0] 84)) (ho : W'.ownsRow (w.heap.size + 1 + 1 + 1) 84 2 v 0 []) (hg : W.grownBy W' none) : FW w w.heap.size p0 p1 v [] (0, 0) W' := by
  have hbW : Below W2.heap.size W2 W := by rw [hW]; exact below_alloc _ _
  have hsW : W.heap.size = w.heap.size + 1 + 1 + 1 := by rw [hW]; simp [hs2]
  have q0 : W.cell? ⟨w.heap.size + 1 + 1, 0, none⟩ = some (.int .u64 0) := by rw [hW, ← hs2]; simp
  have q1 : W.cell? ⟨w.heap.size + 1 + 1, 1, none⟩ = some (.int .u64 0) := by rw [hW, ← hs2]; simp
  have g0 : W.frozen? ⟨w.heap.size + 1 + 1, 0, none⟩ = false := by rw [hW, ← hs2]; simp
  have g1 : W.frozen? ⟨w.heap.size + 1 + 1, 1, none⟩ = false := by rw [hW, ← hs2]; simp
  have hbg : Below W.heap.size W W' := (Below.refl _ _).grown hg (Nat.le_refl _) (fun k hk => by cases hk)
  have hb3 := hbW.trans (hbg.mono hbW.size)
  exact ⟨cell_below hb3 h0, cell_below hb3 h1, cell_below hb3 r0, cell_below hb3 r1, frozen_below hb3 (by omega) f0, frozen_below hb3 (by omega) f1, cell_below hbg q0, cell_below hbg q1, frozen_below hbg (by omega) g0, frozen_below hbg (by omega) g1,
    ho, by have := hbg.size; omega, (hb2.trans (hbW.mono (by omega))).trans (hbg.mono (by omega))⟩

theorem take_drop_one {sts : List St} {k : Nat} (h : k < sts.length) : sts.drop k = sts.getD k st0 :: sts.drop (k + 1) := by
  rw [List.getD_eq_getElem?_getD, List.getElem?_eq_getElem h, Option.getD_some]; exact List.drop_eq_getElem_cons h

set_option maxRecDepth 100000 in
set_option maxHeartbeats 1000000 in
theorem followS_any (hX : CutHolds) (ta sa la : Option Addr) (tc sc lc : Nat) (ts : List Tm) (cs : List Cl) (sts : List St) (w : World) (ht : TermsAt w ta ts) (hcs : ClausesAt w sa cs) (hst : StepsAt w la sts)
    (hts : termsB ts = true) (hcl : clausesB ts.length cs = true) (hlen : sts.length ≤ 3518437208883) :
    Calls Try.prog 66 #[.agg #[.slice ta ts.length tc, .slice sa cs.length sc], .slice la sts.length lc] w fun e w' =>
      e = .returned (.tuple #[.agg #[.int .u64 (lastS (followL ts cs sts [])).1, .int .u64 (lastS (followL ts cs sts [])).2], .int .i64 (followL ts cs sts []).length]) ∧ Below w.heap.size w w' := by
  obtain ⟨i1, hi1, hy0, hy1, hy2⟩ := info_parts info_set
  obtain ⟨W2, hW2⟩ : ∃ W2, W2 = (w.alloc (.cells #[.slice ta ts.length tc, .slice sa cs.length sc] 33)).alloc (.cells #[.int .u64 0, .int .u64 0] 84) := ⟨_, rfl⟩
  have hs2 : W2.heap.size = w.heap.size + 1 + 1 := by rw [hW2]; simp
  have p0 : W2.cell? ⟨w.heap.size, 0, none⟩ = some (.slice ta ts.length tc) := by rw [hW2]; simp
  have p1 : W2.cell? ⟨w.heap.size, 1, none⟩ = some (.slice sa cs.length sc) := by rw [hW2]; simp
  have r0 : W2.cell? ⟨w.heap.size + 1, 0, none⟩ = some (.int .u64 0) := by rw [hW2]; simp
  have r1 : W2.cell? ⟨w.heap.size + 1, 1, none⟩ = some (.int .u64 0) := by rw [hW2]; simp
  have f0 : W2.frozen? ⟨w.heap.size + 1, 0, none⟩ = false := by rw [hW2]; simp
  have f1 : W2.frozen? ⟨w.heap.size + 1, 1, none⟩ = false := by rw [hW2]; simp
  have hb2 : Below w.heap.size w W2 := by rw [hW2]; exact ((Below.refl _ _).alloc (Nat.le_refl _) _).alloc (by simp) _
  obtain ⟨W, hW⟩ : ∃ W, W = W2.alloc (.cells #[.int .u64 0, .int .u64 0] 84) := ⟨_, rfl⟩
  have hsW : W.heap.size = w.heap.size + 1 + 1 + 1 := by rw [hW]; simp [hs2]
  have hw3 : W = ((w.alloc (.cells #[.slice ta ts.length tc, .slice sa cs.length sc] 33)).alloc (.cells #[.int .u64 0, .int .u64 0] 84)).alloc (.cells #[.int .u64 0, .int .u64 0] 84) := by rw [hW, hW2]
  have Hnew : Hid (∀ W' v, W'.ownsRow (w.heap.size + 1 + 1 + 1) 84 2 v 0 [] → W.grownBy W' none → FW w w.heap.size (.slice ta ts.length tc) (.slice sa cs.length sc) v [] (0, 0) W') := fun W' v ho hg => FW.new hb2 hs2 p0 p1 r0 r1 f0 f1 hW ho hg
  clear hs2 p0 p1 r0 r1 f0 f1 hb2 hW hW2
  go_enter Try.func66, Try.ntmps66
  go_upto_region 2 with fail
  rw [← hw3]
  clear hw3
  go_upto_region 3 with (at_make; refine wpList_make_own W rfl _ _ 130 rfl (w.heap.size + 1 + 1 + 1) 84 i1 (.agg #[.int .u64 0, .int .u64 0]) 2 Try.underlying130 hi1 hy0 hy1 _ _ _ sts.length rfl rfl rfl (by rw [hy2]; omega) (by unfold maxLen; omega) (by omega) ?_)
  intro W' ho hg
  have hF0 := Hnew.out W' _ ho hg
  clear hsW Hnew ho hg
  generalize hB : w.heap.size = B at *
  have HB := hide hB
  go_upto_block 0 with fail
  go_cut [7] (fun s7 wx => ∃ va vc ss, s7 = .slice va ss.length vc ∧ Hid (followL ts cs sts [] = ss) ∧ FW w B (.slice ta ts.length tc) (.slice sa cs.length sc) (.slice va ss.length vc) ss (lastS ss) wx)
  case first =>
    go_wp2_with fail
    go_loopg [7, 17] sts.length (fun g s7 s17 wr => ∃ (k : Nat) (va : Option Addr) (vc : Nat) (ss : List (Nat × Nat)), g = sts.length - k ∧ k ≤ sts.length ∧ s17 = .int .i64 k ∧ s7 = .slice va ss.length vc ∧ Hid (ss.length = k) ∧
      Hid (followL ts cs sts [] = followL ts cs (sts.drop k) ss) ∧ Hid (∀ p ∈ ss, p.1 < 18446744073709551616 ∧ p.2 < 18446744073709551616) ∧ FW w B (.slice ta ts.length tc) (.slice sa cs.length sc) (.slice va ss.length vc) ss (lastS ss) wr)
    case atStart => exact ⟨0, _, _, [], by omega, Nat.zero_le _, rfl, rfl, rfl, rfl, (fun p hp => by cases hp), hF0⟩
    case round =>
      obtain ⟨k, va, vc, ss, rfl, hk, rfl, rfl, Hl, Hf, H64, hF⟩ := hrel
      by_cases hlt : k < sts.length
      · have hbw : Below w.heap.size w wr := by rw [hB]; exact hF.2.2.2.2.2.2.2.2.2.2.2.2
        obtain ⟨lb, lo, rfl, lcell⟩ := (hst.below hbw).get hlt
        obtain ⟨l0, l1, l2, l3, l4⟩ := lcell k hlt
        have ht' := ht.below hbw
        have hcs' := hcs.below hbw
        have hss' := setsAt_of_own hF.2.2.2.2.2.2.2.2.2.2.1
        have Hd := hide (take_drop_one hlt)
        generalize hs : sts.getD k st0 = s at *
        obtain ⟨a0, hba⟩ : ∃ W3, W3 = wr.alloc (.cells #[.int .i64 s.r, .int .i64 s.a, .int .i64 s.b, .int .i64 s.c, .int .i64 s.d] 62) := ⟨_, rfl⟩
        have hbA : Below wr.heap.size wr a0 := by rw [hba]; exact below_alloc _ _
        have hcon := next_step hX ta sa va tc sc vc ts cs ss s a0 (ht'.below hbA) (hcs'.below hbA) (hss'.below hbA) H64.out hts hcl
        have Hcon := hide hcon
        have hFa := hF.below hbA
        have HF := hide hFa
        obtain ⟨c0, c1, _, _, _, _, _, _, _, _, _, hsz, _⟩ := id hF
        have z0 : B < wr.heap.size := by omega
        clear hcon lcell hs hbw ht' hcs' hss' hF hF0 hFa
        go_upto_region 6 with fail
        rw [← hba]
        have d0 := cell_below hbA c0
        have d1 := cell_below hbA c1
        have e0 : a0.cell? ⟨wr.heap.size, 0, none⟩ = some (.int .i64 s.r) := by rw [hba]; simp
        have e1 : a0.cell? ⟨wr.heap.size, 1, none⟩ = some (.int .i64 s.a) := by rw [hba]; simp
        have e2 : a0.cell? ⟨wr.heap.size, 2, none⟩ = some (.int .i64 s.b) := by rw [hba]; simp
        have e3 : a0.cell? ⟨wr.heap.size, 3, none⟩ = some (.int .i64 s.c) := by rw [hba]; simp
        have e4 : a0.cell? ⟨wr.heap.size, 4, none⟩ = some (.int .i64 s.d) := by rw [hba]; simp
        clear hba c0 c1 l0 l1 l2 l3 l4 hbA
        go_wp2_with fail
        refine Hcon.out.mono ?_
        rintro e w4 ⟨rfl, hb4⟩
        have hF4 := HF.out.below hb4
        have Hlt : Hid (nextB ts cs ss s = true → (nextS ts cs ss s).1 < 18446744073709551616 ∧ (nextS ts cs ss s).2 < 18446744073709551616) := next_lt hts hcl H64.out
        clear Hcon HF hb4 d0 d1 e0 e1 e2 e3 e4 hsz z0
        generalize hbb : nextB ts cs ss s = bb
        have Hbb := hide hbb
        clear hbb
        cases bb
        · rw [yes_no]
          have Hfin : Hid (followL ts cs sts [] = ss) := by show _ = _; rw [Hf.out, Hd.out, followL, Hbb.out]; rfl
          have hF5 := hF4.below (below_alloc w4 (.cells #[.int .u64 0, .int .u64 0] 84))
          go_wp2_with fail
          go_meet
          exact ⟨va, vc, ss, rfl, Hfin, hF5⟩
        · rw [yes_yes]
          have Hst : Hid (followL ts cs sts [] = followL ts cs (sts.drop (k + 1)) (ss ++ [nextS ts cs ss s])) := by show _ = _; rw [Hf.out, Hd.out, followL, Hbb.out]; rfl
          have Hlt' := hide (Hlt.out Hbb.out)
          generalize nextS ts cs ss s = q at *
          obtain ⟨w5, hw5⟩ : ∃ w5, w5 = w4.alloc (.cells #[.int .u64 q.1, .int .u64 q.2] 84) := ⟨_, rfl⟩
          have hb5 : Below w4.heap.size w4 w5 := by rw [hw5]; exact below_alloc _ _
          have n0 : w5.cell? ⟨w4.heap.size, 0, none⟩ = some (.int .u64 q.1) := by rw [hw5]; simp
          have n1 : w5.cell? ⟨w4.heap.size, 1, none⟩ = some (.int .u64 q.2) := by rw [hw5]; simp
          have hF5 := hF4.below hb5
          have hF6 := hF5.below (below_alloc w5 (.cells #[.int .u64 q.1, .int .u64 q.2] 84))
          have hne : ∀ j, (Value.slice va ss.length vc).ownBlock = some j → j < w4.heap.size := fun j hj => (hF4.2.2.2.2.2.2.2.2.2.2.1.lt j hj).2
          have hl : ss.length ≤ k := Nat.le_of_eq Hl.out
          go_upto_region 8 with fail
          rw [← hw5]
          clear hw5 hF4 hF5 hb5
          have hown6 := hF6.2.2.2.2.2.2.2.2.2.2.1
          have hsz6 := hF6.2.2.2.2.2.2.2.2.2.2.2.1
          have HF6 := hide hF6
          clear hF6
          go_upto_region 9 with (at_builtin; refine wpList_append_own _ rfl (.tmp 30) (.tmp 32) 130 rfl (B + 1 + 1 + 1) 84 i1 (.agg #[.int .u64 0, .int .u64 0]) 2 16 Try.underlying130 hi1 hy0 hy1 hy2 rfl (by decide) (.slice va ss.length vc) ss.length (ssCells ss) rfl hown6 ⟨w5.heap.size, 0, none⟩ 1 1 (seCells q) rfl rfl (new_se w5 q 84) (seCells_one _) (by unfold maxLen; omega) (by omega) (by omega) ?_)
          intro qv w7 hown7 hgr7 hz7
          clear hz7
          have hF7 := HF6.out.append hgr7 hown7
          have m0 : w7.cell? ⟨w4.heap.size, 0, none⟩ = some (.int .u64 q.1) := hgr7.cell (cell_below (below_alloc w5 _) n0) (fun e => absurd (hne _ e.symm) (Nat.lt_irrefl _))
          have m1 : w7.cell? ⟨w4.heap.size, 1, none⟩ = some (.int .u64 q.2) := hgr7.cell (cell_below (below_alloc w5 _) n1) (fun e => absurd (hne _ e.symm) (Nat.lt_irrefl _))
          obtain ⟨va', vc', hqv⟩ := own_val hown7
          subst hqv
          have Hl7 : Hid ((ss ++ [q]).length = k + 1) := by show _ = _; simp [Hl.out]
          have hF8 := hF7.store (p := q)
          obtain ⟨_, _, _, _, _, _, t0, t1, t2, t3, _, _, _⟩ := id hF7
          have HF8 := hide hF8
          clear hF7 hF8 hown6 hown7 hgr7 hne n0 n1 HF6 hsz6
          go_wp2_with fail
          go_roundg (sts.length - (k + 1))
          case measure => omega
          case rel =>
            refine ⟨k + 1, va', vc', ss ++ [q], rfl, by omega, by go_num, ?_, Hl7, Hst, ?_, ?_⟩
            · simp
            · intro p hp
              rcases List.mem_append.1 hp with h | h
              · exact H64.out p h
              · simp at h; rw [h]; exact Hlt'.out
            · rw [lastS_snoc]
              have := HF8.out
              simpa using this
      · have Hfin : Hid (followL ts cs sts [] = ss) := by show _ = _; rw [Hf.out, List.drop_of_length_le (by omega)]; rfl
        go_wp2_with fail
        go_meet
        exact ⟨va, vc, ss, rfl, Hfin, hF⟩
  case rest =>
    obtain ⟨va, vc, ss, rfl, Hfin, hF⟩ := hcut
    obtain ⟨c0, c1, r0, r1, f0, f1, t0, t1, t2, t3, _, hsz, hbw⟩ := id hF
    generalize hq : lastS ss = q at *
    obtain ⟨q1, q2⟩ := q
    have Hq := hide hq
    clear hq
    go_wp2_with fail
    exact bodyPost_ret (v := .tuple #[.agg #[.int .u64 q1, .int .u64 q2], .int .i64 ss.length]) (by simp [results, Try.results66, go_sem, set_same r0, set_other, r1]) rfl
      ⟨by rw [Hfin.out, Hq.out], by exact (hbw.setCell (p := ⟨B + 1, 0, none⟩) (by show B ≤ B + 1; omega) _).setCell (p := ⟨B + 1, 1, none⟩) (by show B ≤ B + 1; omega) _⟩
end Go.Proofs.Ytjebhhoibofmfaa
