import Derived.Test.YtjebhhoibofmfaaCXMsA
namespace Go.Proofs.Ytjebhhoibofmfaa
open Go.RowKit
theorem solve_no {ts : List Tm} {cs : List Cl} (hr : refuseI ts cs = 0) (hno : ∀ c, soundB ts c = true → allHoldB c cs = true → False) :
    ∃ sts, Sol ts cs false [] sts ∧ sts ≠ [] ∧ sts.length ≤ 3518437208883 ∧ (followL ts cs sts []).length = sts.length ∧ emptyB (lastS (followL ts cs sts [])).1 (lastS (followL ts cs sts [])).2 = true := by
  obtain ⟨b, cls, sts, h1, h2⟩ := solve_some hr
  cases b with
  | true =>
    obtain ⟨_, _, g1, g2, _⟩ := h2.yes rfl
    exact absurd (hno cls g1 g2) id
  | false =>
    obtain ⟨g1, g2, g3, g4⟩ := h2.no rfl
    subst g1
    exact ⟨sts, h1, g2, by have := h2.len; have : stepsMax = 3518437208883 := rfl; omega, g3, g4⟩
theorem succ_nat {r n lc : Nat} (h : r < n) (hn : n ≤ 3518437208883) (hc : n ≤ lc) : ∃ r1 : Nat, r1 = r + 1 ∧ IntKind.i64.wrap ((r : Int) + 1) = (r1 : Int) ∧ (0 : Int) ≤ (r1 : Int) ∧ (r1 : Int) ≤ (lc : Int) ∧ r1 ≤ lc ∧ (r1 : Int) ≤ (n : Int) :=
  ⟨r + 1, rfl, by rw [wrap_small (by omega) (by omega)]; omega, by omega, by omega, by omega, by omega⟩
set_option maxRecDepth 100000 in
set_option maxHeartbeats 4000000 in
theorem missed_any (ra qa : Option Addr) (rc qc : Nat) (rs qs : List Int) (cut : Int) (w : World) (hr : IntsAt w ra rs) (hq : IntsAt w qa qs)
    (hwf : ∀ i, i < rs.length → -9223372036854775808 ≤ rs.getD i 0 ∧ rs.getD i 0 ≤ 9223372036854775807) (hwq : ∀ i, i < qs.length → -9223372036854775808 ≤ qs.getD i 0 ∧ qs.getD i 0 ≤ 9223372036854775807)
    (hc1 : -9223372036854775808 ≤ cut) (hc2 : cut ≤ 9223372036854775807) :
    Calls Try.prog 9 #[.slice ra rs.length rc, .slice qa qs.length qc, .int .i64 cut] w fun e w' => e = .returned (.bool true) ∧ Below w.heap.size w w' := by
  obtain ⟨i2, hi2, hx0, hx1, hx2⟩ := info_parts info_lits
  obtain ⟨i3, hi3, hy0, hy1, hy2⟩ := info_parts info_step
  have Hwf := hide hwf
  have Hwq := hide hwq
  clear hwf hwq
  go_enter Try.func9, Try.ntmps9
  go_wp2_with fail
  refine (kterms_any ra rc rs _ hr Hwf.out).mono ?_
  rintro e w1 ⟨ta, tc, ts, rfl, ht, hts, hf4, h7, hb1⟩
  have hn1 := (len_of hts).1
  have hlt1 : ts.length ≤ 9 := by omega
  go_wp2_with fail
  refine (kproblem_any ta qa tc qc ts.length qs _ hn1 hlt1 (hq.below hb1) Hwq.out).mono ?_
  rintro e w2 ⟨pv, cs, rfl, hcs, hcl, h8, hb2⟩
  obtain ⟨pa, pc, hpv⟩ := own_val hcs.1
  subst hpv
  have hb12 : Below w.heap.size w w2 := hb1.trans (hb2.mono hb1.size)
  have hn4 := hf4.1
  have hBB : w1.heap.size ≤ w2.heap.size := hb2.size
  have hcs' : CsOwn w1.heap.size w2 (.slice pa cs.length pc) cs := ⟨own_base hcs.1 (by omega), fun i hi => own_base (hcs.2 i hi) (by omega)⟩
  have Hts := hide hts
  have Hcl := hide hcl
  have Hf4 := hide hf4
  have Ht1 := hide ht
  clear hts hcl ht hr hq hf4 hcs
  obtain ⟨W, hW⟩ : ∃ W, W = w2.alloc (.cells #[.slice ta ts.length tc, .slice pa cs.length pc] 33) := ⟨_, rfl⟩
  have hbW : Below w2.heap.size w2 W := by rw [hW]; exact below_alloc _ _
  have hrow : W.heap[w2.heap.size]? = some (.cells #[.slice ta ts.length tc, .slice pa cs.length pc] 33 (0, 0)) := by rw [hW]; exact heap_at_new _ _ _ rfl
  have hWs : W.heap.size = w2.heap.size + 1 := by rw [hW]; simp
  go_upto_region 3 with fail
  rw [← hW]
  have p0 : W.cell? ⟨w2.heap.size, 0, none⟩ = some (.slice ta ts.length tc) := by rw [cell_of_row _ _ _ _ _ _ hrow]; rfl
  have p1 : W.cell? ⟨w2.heap.size, 1, none⟩ = some (.slice pa cs.length pc) := by rw [cell_of_row _ _ _ _ _ _ hrow]; rfl
  have hcs3 := hcs'.below hbW
  have hb1W : Below w1.heap.size w1 W := hb2.trans (hbW.mono hBB)
  have hbw : Below w.heap.size w w1 := hb1
  clear hW hbW hb12 hcs' hb2 hb1
  generalize w2.heap.size = B at *
  obtain ⟨W3, hW3⟩ : ∃ W3, W3 = ((W.alloc (.cells #[.int .i64 0, .int .i64 1, .bool false] 50)).alloc (.cells #[.int .i64 2, .int .i64 3, .bool true] 50)).alloc (.cells #[.slice (some ⟨W.heap.size, 0, none⟩) 1 1, .slice (some ⟨W.heap.size + 1, 0, none⟩) 1 1] 43) := ⟨_, rfl⟩
  have hbW3 : Below W.heap.size W W3 := by rw [hW3]; exact (((Below.refl _ _).alloc (Nat.le_refl _) _).alloc (by simp) _).alloc (by simp; omega) _
  have hW3s : W3.heap.size = W.heap.size + 3 := by rw [hW3]; simp
  have hl1 : W3.ownsRow w1.heap.size 50 3 (clVal ⟨some ⟨W.heap.size, 0, none⟩, 1, [⟨0, 1, false⟩]⟩) 1 (lsCells [⟨0, 1, false⟩]) := by
    rw [hW3]
    exact ⟨rfl, .inr ⟨W.heap.size, 1, _, rfl, by omega, heap_at_old _ _ (heap_at_old _ _ (heap_at_new _ _ _ rfl)), Nat.le_refl _, (by show 1 ≤ 9223372036854775807; omega), rfl, rfl⟩⟩
  have hl2 : W3.ownsRow w1.heap.size 50 3 (clVal ⟨some ⟨W.heap.size + 1, 0, none⟩, 1, [⟨2, 3, true⟩]⟩) 1 (lsCells [⟨2, 3, true⟩]) := by
    rw [hW3]
    exact ⟨rfl, .inr ⟨W.heap.size + 1, 1, _, rfl, by omega, heap_at_old _ _ (heap_at_new _ _ _ (by simp)), Nat.le_refl _, (by show 1 ≤ 9223372036854775807; omega), rfl, rfl⟩⟩
  have hnew : ∀ j u, ([.slice (some ⟨W.heap.size, 0, none⟩) 1 1, .slice (some ⟨W.heap.size + 1, 0, none⟩) 1 1] : List Value)[j]? = some u → W3.cell? ((⟨W.heap.size + 1 + 1, 0, none⟩ : Addr).add j) = some u := by
    intro j u hj
    rw [hW3]
    match j, hj with
    | 0, hj => simp at hj; subst hj; exact alloc_new (by simp) rfl
    | 1, hj => simp at hj; subst hj; exact alloc_new (by simp) rfl
    | j + 2, hj => simp at hj
  have hcs4 := hcs3.below hbW3
  have hrow4 : W3.heap[B]? = some (.cells #[.slice ta ts.length tc, .slice pa cs.length pc] 33 (0, 0)) := (keeps_below hbW3).row (by simp) hrow
  have H4 := hide (And.intro hl1 (And.intro hl2 (And.intro hcs4 hrow4)))
  have hb13 : Below w1.heap.size w1 W3 := hb1W.trans (hbW3.mono hb1W.size)
  have hown4 := hcs4.1
  have Hb13 := hide hb13
  have Hbw := hide hbw
  have Hnew := hide hnew
  have hs13 := hb13.size
  have HWs := hide (And.intro hWs hW3s)
  clear hWs hW3s
  clear hl1 hl2 hcs4 hrow4 hrow hbW3 hbw hcs3 hnew hb1W hb13
  go_wp2_with (at_builtin; refine wpList_append_own _ rfl (.tmp 28) (.tmp 33) 31 rfl w1.heap.size 43 i2 (.slice none 0 0) 1 24 Try.underlying31 hi2 hx0 hx1 hx2 rfl (by decide) (.slice pa cs.length pc) cs.length (csCells cs) rfl (by rw [← hW3]; exact hown4) ⟨W.heap.size + 1 + 1, 0, none⟩ 2 2 [.slice (some ⟨W.heap.size, 0, none⟩) 1 1, .slice (some ⟨W.heap.size + 1, 0, none⟩) 1 1] rfl rfl (by rw [← hW3]; exact Hnew.out) (fun u hu => by simp at hu; rcases hu with rfl | rfl <;> rfl) (by unfold maxLen; omega) (by omega) (by rw [← hW3]; exact hs13) ?_)
  rw [← hW3]
  clear hW3 Hnew
  intro pv' w3 hown5 hgr5 hz5
  clear hz5
  obtain ⟨pa2, pc2, hpv⟩ := own_val hown5
  subst hpv
  have hcs5 := H4.out.2.2.1.two H4.out.1 H4.out.2.1 hown5 hgr5
  have hrow5 : w3.heap[B]? = some (.cells #[.slice ta ts.length tc, .slice pa cs.length pc] 33 (0, 0)) :=
    (app_keep' (Below.refl _ _) hgr5).row (own_not H4.out.2.2.1.1 H4.out.2.2.2 (fun cur' e' => by injection e' with _ e'; exact absurd e' (by decide))) H4.out.2.2.2
  have hb5 : Below w1.heap.size w1 w3 := Hb13.out.grown hgr5 Hb13.out.size (fun k hk => (H4.out.2.2.1.1.lt k hk).1)
  have k0 : w3.cell? ⟨B, 0, none⟩ = some (.slice ta ts.length tc) := by rw [cell_of_row _ _ _ _ _ _ hrow5]; rfl
  have k1 : w3.cell? ⟨B, 1, none⟩ = some (.slice pa cs.length pc) := by rw [cell_of_row _ _ _ _ _ _ hrow5]; rfl
  have k2 : w3.frozen? ⟨B, 1, none⟩ = false := frozen_of_row _ _ _ _ _ hrow5
  obtain ⟨W5, hW5⟩ : ∃ W5, W5 = w3.setCell ⟨B, 1, none⟩ (.slice pa2 (cs.length + 2) pc2) := ⟨_, rfl⟩
  have hcs6 : CsOwn w1.heap.size W5 (.slice pa2 (cs.length + 2) pc2) (cs ++ [⟨some ⟨W.heap.size, 0, none⟩, 1, [⟨0, 1, false⟩]⟩] ++ [⟨some ⟨W.heap.size + 1, 0, none⟩, 1, [⟨2, 3, true⟩]⟩]) := by rw [hW5]; exact hcs5.box hrow5 _
  have hb15 : Below w1.heap.size w1 W5 := by rw [hW5]; exact hb5.setCell (p := ⟨B, 1, none⟩) hBB _
  have q0 : W5.cell? ⟨B, 0, none⟩ = some (.slice ta ts.length tc) := by rw [hW5]; exact set_other (.inr (by omega)) k0
  have q1 : W5.cell? ⟨B, 1, none⟩ = some (.slice pa2 (cs.length + 2) pc2) := by rw [hW5]; exact set_same k1
  go_upto_region 4 with fail
  rw [← hW5]
  clear hW5 hcs5 hrow5 hb5 k0 k1 k2 hown5 hgr5 H4 Hb13 p0 p1 hown4
  have Hno : Hid (∀ c, soundB ts c = true → allHoldB c (cs ++ [⟨some ⟨W.heap.size, 0, none⟩, 1, [⟨0, 1, false⟩]⟩] ++ [⟨some ⟨W.heap.size + 1, 0, none⟩, 1, [⟨2, 3, true⟩]⟩]) = true → False) := fun c h1 h2 => miss_no Hf4.out rfl rfl h1 h2
  have Hcl2 : Hid (clausesB ts.length (cs ++ [⟨some ⟨W.heap.size, 0, none⟩, 1, [⟨0, 1, false⟩]⟩] ++ [⟨some ⟨W.heap.size + 1, 0, none⟩, 1, [⟨2, 3, true⟩]⟩]) = true) := by
    refine clausesB_snoc (clausesB_snoc Hcl.out (by omega) ?_) (by simp; omega) ?_
    · refine clauseB_yes (by simp) (fun k hk => ?_)
      have : k = 0 := by simpa using hk
      subst this
      simp [litOk, belowB]
      omega
    · refine clauseB_yes (by simp) (fun k hk => ?_)
      have : k = 0 := by simpa using hk
      subst this
      simp [litOk, belowB]
      omega
  have Hl2 : Hid ((cs ++ [(⟨some ⟨W.heap.size, 0, none⟩, 1, [⟨0, 1, false⟩]⟩ : Cl)] ++ [(⟨some ⟨W.heap.size + 1, 0, none⟩, 1, [⟨2, 3, true⟩]⟩ : Cl)]).length = cs.length + 2) := by show _ = _; simp
  generalize (cs ++ [(⟨some ⟨W.heap.size, 0, none⟩, 1, [⟨0, 1, false⟩]⟩ : Cl)] ++ [(⟨some ⟨W.heap.size + 1, 0, none⟩, 1, [⟨2, 3, true⟩]⟩ : Cl)]) = cs2 at *
  rw [← Hl2.out] at hcs6 q1
  obtain ⟨pa3, pc3, e3, hcA⟩ := hcs6.at
  injection e3 with e4 _ e5
  subst e4
  subst e5
  have hr0 : refuseI ts cs2 = 0 := by simp [refuseI, Hts.out, Hcl2.out]
  obtain ⟨sts, hsol, hne, hlen, hfol, hemp⟩ := solve_no hr0 Hno.out
  have hT5 := Ht1.out.below hb15
  have Hcon : Hid (Calls Try.prog 29 #[.agg #[.slice ta ts.length tc, .slice pa2 cs2.length pc2]] W5 fun e w' => ∃ ca cc la lc, e = .returned (.tuple #[.agg #[.bool false, .slice ca 0 cc, .slice la sts.length lc], .int .i64 0]) ∧
      w'.ownsRow W5.heap.size 62 5 (.slice la sts.length lc) sts.length (stCells sts) ∧ Below W5.heap.size W5 w') :=
    (solve_any cutHolds ta pa2 tc pc2 ts cs2 W5 hT5 hcA hr0 hsol).mono (fun e w' ⟨ca, cc, la, lc, h1, _, h3, h4⟩ => ⟨ca, cc, la, lc, h1, h3, h4⟩)
  have Hr0 := hide hr0
  have hs0 : sts.length ≠ 0 := fun e => hne (List.eq_nil_of_length_eq_zero e)
  have Hfol := hide hfol
  have Hemp := hide hemp
  have Hne := hide hne
  have hbW5 : Below w.heap.size w W5 := Hbw.out.trans (hb15.mono Hbw.out.size)
  clear hr0 hsol hne hfol hemp hcs6 Hno Hcl2 Hbw hb15 Hl2 hs13 HWs
  go_wp2_with fail
  refine Hcon.out.mono ?_
  rintro e w6 ⟨ca, cc, la, lc, rfl, ho2, hb6⟩
  clear Hcon
  obtain ⟨g, hla, hcap⟩ : ∃ g, la = some ⟨g, 0, none⟩ ∧ sts.length ≤ lc := by
    rcases ho2.2 with ⟨_, h0⟩ | ⟨g, cap, cur, hv, _, _, h1, _⟩
    · exact absurd h0 hs0
    · injection hv with e1 _ e2
      exact ⟨g, e1, by omega⟩
  subst hla
  obtain ⟨W7, hW7⟩ : ∃ W7, W7 = w6.alloc (.cells #[.bool false, .slice ca 0 cc, .slice (some ⟨g, 0, none⟩) sts.length lc] 69) := ⟨_, rfl⟩
  have hb7 : Below w6.heap.size w6 W7 := by rw [hW7]; exact below_alloc _ _
  have a0 : W7.cell? ⟨w6.heap.size, 0, none⟩ = some (.bool false) := by rw [hW7]; simp
  have a2 : W7.cell? ⟨w6.heap.size, 2, none⟩ = some (.slice (some ⟨g, 0, none⟩) sts.length lc) := by rw [hW7]; simp
  have hb57 : Below W5.heap.size W5 W7 := hb6.trans (hb7.mono hb6.size)
  have r0 := cell_below hb57 q0
  have r1 := cell_below hb57 q1
  have hT7 := hT5.below hb57
  have hC7 := hcA.below hb57
  have ho7 := own_below ho2 hb7
  have hbW7 : Below w.heap.size w W7 := hbW5.trans (hb57.mono hbW5.size)
  go_upto_region 5 with fail
  rw [← hW7]
  clear hW7 hb7 hb57 hb6 ho2 q0 q1 hT5 hcA hbW5
  generalize w6.heap.size = G at *
  generalize W5.heap.size = B5 at *
  obtain ⟨n1, _, n3⟩ := chk_full Hr0.out Hfol.out
  have hcon := check_any ta pa2 (some ⟨g, 0, none⟩) tc pc2 lc ts cs2 sts W7 hT7 hC7 (stepsAt_of_own ho7) hlen
  rw [n1, n3 Hne.out Hemp.out] at hcon
  have Hcon := hide hcon
  clear hcon n1 n3
  go_wp2_with fail
  refine Hcon.out.mono ?_
  rintro e w8 ⟨rfl, hb8⟩
  have c0 := cell_below hb8 r0
  have c1 := cell_below hb8 r1
  have b0 := cell_below hb8 a0
  have b2 := cell_below hb8 a2
  have hT8 := hT7.below hb8
  have hC8 := hC7.below hb8
  have ho8 := own_below ho7 hb8
  have hbW8 : Below w.heap.size w w8 := hbW7.trans (hb8.mono hbW7.size)
  clear Hcon r0 r1 a0 a2 hT7 hC7 ho7 hb8 hbW7
  have f1 : ((sts.length : Int) != (sts.length : Int)) = false := by simp
  have f2 : ((sts.length : Int) == 0) = false := by rw [beq_eq_false_iff_ne]; omega
  go_wp2_with fail
  refine (pick_any cut sts.length _ hc1 hc2 (by omega) (by omega)).mono ?_
  rintro e w' ⟨r, hr, rfl, rfl⟩
  have hrn : r < sts.length := by omega
  have Hrn := hide hrn
  clear f1 f2 hc1 hc2
  have hst8 := stepsAt_of_own ho8
  have s0 : (0 : Int) ≤ (r : Int) := by omega
  have s1 : (r : Int) ≤ (lc : Int) := by omega
  have s2 : r ≤ lc := by omega
  have s3 : (r : Int) ≤ (sts.length : Int) := by omega
  have hlr : (sts.take r).length = r := by rw [List.length_take]; omega
  have ht1 : (followL ts cs2 (sts.take r) []).length = (sts.take r).length := by simpa using run_fol_take ts cs2 sts [] r (by simpa using Hfol.out)
  obtain ⟨n1, n2, _⟩ := chk_full Hr0.out ht1
  have hcon := check_any ta pa2 (some ⟨g, 0, none⟩) tc pc2 lc ts cs2 (sts.take r) w'.drew (hT8.below (Below.refl _ _).drew) (hC8.below (Below.refl _ _).drew) ((Steps.take hst8 r).below (Below.refl _ _).drew) (by omega)
  rw [n1, hlr] at hcon
  have Hk : Hid (chkE ts cs2 (sts.take r) = 0 ∨ (chkE ts cs2 (sts.take r) = 5 ∧ (r : Int) = r)) := n2.elim .inl (fun h => .inr ⟨h, rfl⟩)
  generalize chkE ts cs2 (sts.take r) = ck at *
  have Hcon := hide hcon
  clear hcon n1 n2 ht1 hlr
  go_upto_region 9 with fail
  go_cut [14, 15] from 72 to 80 (fun s14 s15 wx => s14 = .int .i64 r ∧ s15 = .int .i64 ck ∧ Below w'.heap.size w' wx)
  case first =>
    go_region_with (go_at_call 15; refine Hcon.out.mono ?_; rintro e w9 ⟨rfl, hb9⟩)
    all_goals
      go_wp2_with fail
      go_meet
      exact ⟨rfl, rfl, ((Below.refl _ _).drew).trans hb9⟩
  case rest =>
    obtain ⟨rfl, rfl, hb9⟩ := hcut
    have d0 := cell_below hb9 c0
    have d1 := cell_below hb9 c1
    have e2 := cell_below hb9 b2
    have hT9 := hT8.below hb9
    have hC9 := hC8.below hb9
    have ho9 := own_below ho8 hb9
    have hbW9 : Below w.heap.size w wc := hbW8.trans (hb9.mono hbW8.size)
    clear Hcon c0 c1 b0 b2 hT8 hC8 ho8 hb9 hbW8 hst8
    have hst9 := stepsAt_of_own ho9
    obtain ⟨r1, hr1, hw2, t0, t1, t2, t3⟩ := succ_nat Hrn.out hlen hcap
    have hlr : (sts.take (r + 1)).length = r1 := by rw [List.length_take, hr1]; omega
    have hrs : r1 - 1 = r := by omega
    have ht1 : (followL ts cs2 (sts.take (r + 1)) []).length = (sts.take (r + 1)).length := by simpa using run_fol_take ts cs2 sts [] (r + 1) (by simpa using Hfol.out)
    obtain ⟨kE, kN, kL⟩ := cls_full Hr0.out ht1 (by omega)
    have Hnl : Hid (r + 1 = sts.length → (clsL ts cs2 (sts.take (r + 1))).length = 0) := fun e => by
      rw [kL, e, List.take_length, inOrd_none Hemp.out]; rfl
    have hcon := clause_any ta pa2 (some ⟨g, 0, none⟩) tc pc2 lc ts cs2 (sts.take (r + 1)) wc.drew (hT9.below (Below.refl _ _).drew) (hC9.below (Below.refl _ _).drew) ((Steps.take hst9 (r + 1)).below (Below.refl _ _).drew) (by omega)
    rw [kE, kN, hlr, hrs] at hcon
    generalize clsL ts cs2 (sts.take (r + 1)) = L at *
    have Hcon := hide hcon
    have Hr1 := hide hr1
    clear hcon kE kN kL ht1 hlr hr1 hrs
    clear hr hrn
    go_upto_region 10 with fail
    go_cut [16, 17, 18] from 81 to 91 (fun s16 s17 s18 wx => ∃ va vc, s16 = .slice va L.length vc ∧ s17 = .int .i64 r ∧ s18 = .int .i64 0 ∧ Below wc.heap.size wc wx)
    case first =>
      clear hT9 hC9 ho9 hst9 hbW9 Hnl hi2 hx0 hx1 hx2 hi3 hy0 hy1 hy2 hlen hs0 hcap Hk Hrn Hne Hemp Hfol Hr0 Hts Hcl Hf4 Ht1 Hwf Hwq s0 s1 s2 s3 hn4 hlt1 hn1 h8 h7 hBB Hr1
      go_region_with (go_at_call 28; refine Hcon.out.mono ?_; rintro e w9 ⟨va, vc, rfl, _, _, hb9⟩)
      all_goals
        go_wp2_with fail
        go_meet
        exact ⟨va, vc, rfl, rfl, rfl, ((Below.refl _ _).drew).trans hb9⟩
    case rest =>
      obtain ⟨va, vc, rfl, rfl, rfl, hb10⟩ := hcut
      have d0' := cell_below hb10 d0
      have d1' := cell_below hb10 d1
      have e2' := cell_below hb10 e2
      have hT10 := hT9.below hb10
      have hC10 := hC9.below hb10
      have ho10 := own_below ho9 hb10
      have hbW10 : Below w.heap.size w wc := hbW9.trans (hb10.mono hbW9.size)
      clear Hcon d0 d1 e2 hT9 hC9 ho9 hb10 hbW9 hst9 hw2 t0 t1 t2 t3 s0 s1 s2 s3
      have f1 : ((r : Int) != (r : Int)) = false := by simp
      have f3 : ((r : Int) == (r : Int)) = true := by simp
      have HO := hide ho10
      have HT := hide (And.intro hT10 hC10)
      have hone : ∀ u ∈ stCells sts, u.oneCell' = true := by
        intro u hu
        simp only [stCells, List.mem_flatMap] at hu
        obtain ⟨t, _, hu⟩ := hu
        exact siCells_one t u hu
      have Hone := hide hone
      have Hcells : Hid (∀ j u, (stCells sts)[j]? = some u → wc.cell? ((⟨g, 0, none⟩ : Addr).add j) = some u) := ho10.cells (g := g) rfl
      clear ho10 hT10 hC10 hone
      have Hfin : Hid (∀ (v' : Value) (wy : World), wy.ownsRow wc.heap.size 62 5 v' (0 + sts.length) ([] ++ stCells sts) → wc.grownBy wy (Value.slice none 0 0).ownBlock → ∃ g2 c2, v' = .slice (some ⟨g2, 0, none⟩) sts.length c2 ∧ wy.cell? ⟨g2, r * 5, none⟩ = some (.int .i64 (sts.getD r st0).r) ∧ wy.frozen? ⟨g2, r * 5, none⟩ = false ∧
          wy.cell? ⟨B, 0, none⟩ = some (.slice ta ts.length tc) ∧ wy.cell? ⟨B, 1, none⟩ = some (.slice pa2 cs2.length pc2) ∧ B ≠ g2 ∧
          (Calls Try.prog 15 #[.agg #[.slice ta ts.length tc, .slice pa2 cs2.length pc2], .slice (some ⟨g2, 0, none⟩) sts.length c2] (wy.setCell ⟨g2, r * 5, none⟩ (.int .i64 5)) fun e w' => e = .returned (.tuple #[.int .i64 r, .int .i64 4]) ∧ Below w.heap.size w w')) := by
        intro v' wy ho hg
        rw [Nat.zero_add, List.nil_append] at ho
        obtain ⟨a2, c2, rfl⟩ := own_val ho
        have hby : Below wc.heap.size wc wy := (Below.refl _ _).grown hg (Nat.le_refl _) (fun k hk => by cases hk)
        obtain ⟨g2, hg2⟩ : ∃ g2, a2 = some ⟨g2, 0, none⟩ := by
          rcases ho.2 with ⟨_, h0⟩ | ⟨g2, cap, cur, hv, _⟩
          · exact absurd h0 hs0
          · injection hv with e1; exact ⟨g2, e1⟩
        subst hg2
        obtain ⟨u1, u2, u3, u4⟩ := own_turn ho Hrn.out 5
        have hb2 : Below wc.heap.size wc (wy.setCell ⟨g2, r * 5, none⟩ (.int .i64 5)) := hby.setCell (p := ⟨g2, r * 5, none⟩) u4 _
        have hBl := block_lt d0'
        have hft := fol_turned (ts := ts) (cs := cs2) Hfol.out Hrn.out { sts.getD r st0 with r := 5 } rfl
        obtain ⟨n1, n2⟩ := chk_bad Hr0.out hft (by rw [List.length_set]; exact Hrn.out)
        have hchk := check_any ta pa2 (some ⟨g2, 0, none⟩) tc pc2 c2 ts cs2 _ _ (HT.out.1.below hb2) (HT.out.2.below hb2) u1 (by rw [List.length_set]; exact hlen)
        rw [n1, n2, List.length_set] at hchk
        refine ⟨g2, c2, rfl, u2, u3, cell_below hby d0', cell_below hby d1', by omega, hchk.mono ?_⟩
        rintro e w11 ⟨rfl, hb11⟩
        exact ⟨rfl, (hbW10.trans (hb2.mono hbW10.size)).trans (hb11.mono (by have := hb2.size; have := hbW10.size; omega))⟩
      have hrl : (r : Int) < (sts.length : Int) := by have := Hrn.out; omega
      have hr0 : (0 : Int) ≤ (r : Int) := by omega
      have hck : ck = 0 ∨ ck = 5 := Hk.out.elim .inl (fun h => .inr h.1)
      have hL' : (decide ((r : Int) < (sts.length : Int) - 1) = true ∧ Hid True) ∨ (decide ((r : Int) < (sts.length : Int) - 1) = false ∧ ((L.length : Int) == 0) = true) := by
        by_cases hq : r + 1 = sts.length
        · exact .inr ⟨by simp; omega, by rw [Hnl.out hq]; rfl⟩
        · exact .inl ⟨by have := Hrn.out; simp; omega, trivial⟩
      have hL := hide hL'
      clear hs0 hcap hbW10 hL'
      rcases hck with rfl | rfl
      all_goals
        go_upto_region 17 with (at_builtin; refine wpList_append_own _ rfl (.tmp 106) (.tmp 108) 34 rfl wc.heap.size 62 i3 (.agg #[.int .i64 0, .int .i64 0, .int .i64 0, .int .i64 0, .int .i64 0]) 5 40 Try.underlying34 hi3 hy0 hy1 hy2 rfl (by decide) (.slice none 0 0) 0 [] rfl (World.ownsRow_nil _ _ _ _) ⟨g, 0, none⟩ sts.length lc (stCells sts) rfl (stCells_length _) Hcells.out Hone.out (by unfold maxLen; omega) (by omega) (Nat.le_refl _) ?_; intro v' wy ho hg hz; clear hz)
        obtain ⟨g2, c2, rfl, x0, x1, x2, x3, x4, x5⟩ := Hfin.out v' wy ho hg
        have X5 := hide x5
        have x6 := set_other (v := .int .i64 5) (b := g2) (o := r * 5) (.inl x4) x2
        have x7 := set_other (v := .int .i64 5) (b := g2) (o := r * 5) (.inl x4) x3
        clear x5 ho hg Hfin Hcells Hone HO HT
        go_wp2_with fail
        refine X5.out.mono ?_
        rintro e w11 ⟨rfl, hb11⟩
        rcases hL.out with ⟨hL1, _⟩ | ⟨hL1, hL2⟩
        all_goals
          go_wp2_with fail
          go_ret
          exact ⟨rfl, hb11⟩
end Go.Proofs.Ytjebhhoibofmfaa
