import Derived.Test.YtjebhhoibofmfaaLsA
namespace Go.Proofs.Ytjebhhoibofmfaa
open Go.RowKit

theorem pairOk_made {q n : Nat} (hq : small50 q) (hn : 1 ≤ n) : pairOk n ⟨(q : Int) % n, (wrap64 ((q : Int) / 16)).tmod n⟩ = true := by
  unfold small50 at hq
  unfold pairOk
  have h0 : 0 ≤ (q : Int) / 16 := by omega
  rw [wrap64_small h0 (by omega), Int.tmod_eq_emod_of_nonneg h0, Bool.and_eq_true]
  exact ⟨belowB_iff.2 ⟨Int.emod_nonneg _ (by omega), Int.emod_lt_of_pos _ (by omega)⟩, belowB_iff.2 ⟨Int.emod_nonneg _ (by omega), Int.emod_lt_of_pos _ (by omega)⟩⟩

theorem holdsB_litP (d : List Int) (p : Pr) : holdsB d [litP p] = eqB d p.x p.y := by
  simp [holdsB, anyB, litB, litP]

theorem LS.clauses {n : Nat} {w wr : World} {tsl pv qv : Value} {ps : List Pr} {cs : List Cl} (h : LS n w wr tsl pv qv ps cs) (h12 : ps.length ≤ 12) :
    clausesB n cs = true ∧ pairsB n ps = true ∧ ∀ d, allHoldB d cs = pairsHold d ps := by
  obtain ⟨h1, h2, h3, h4, h5, h6, h7⟩ := h
  refine ⟨clausesB_yes (by omega) (fun k hk => ?_), pairsB_yes (by omega) h6, fun d => ?_⟩
  · rw [h5 k hk]
    refine clauseB_yes (by simp) (fun t ht => ?_)
    have : t = 0 := by simpa using ht
    subst this
    exact h6 k (by omega)
  · unfold allHoldB pairsHold
    rw [Bool.eq_iff_iff, allB_iff, allB_iff]
    constructor
    · intro h t ht
      have := h t (by omega)
      rw [h5 t (by omega), holdsB_litP] at this
      exact this
    · intro h t ht
      rw [h5 t ht, holdsB_litP]
      exact h t (by omega)

theorem kdiv {k n : Nat} (hk : k < n * n) (hb : n ≤ 1000) : ∃ A, A < n ∧ wrap64 ((k : Int) / n) = (A : Int) := by
  have h1 : k / n < n := Nat.div_lt_of_lt_mul hk
  have e : (k : Int) / n = ((k / n : Nat) : Int) := (Int.natCast_ediv k n).symm
  generalize k / n = d at *
  exact ⟨d, h1, by rw [e, wrap64_small (by omega) (by omega)]⟩

set_option maxRecDepth 100000 in
set_option maxHeartbeats 1000000 in
theorem least_any (ra qa : Option Addr) (rc qc : Nat) (rs qs : List Int) (w : World) (hr : IntsAt w ra rs) (hq : IntsAt w qa qs)
    (hwf : ∀ i, i < rs.length → -9223372036854775808 ≤ rs.getD i 0 ∧ rs.getD i 0 ≤ 9223372036854775807) (hwq : ∀ i, i < qs.length → -9223372036854775808 ≤ qs.getD i 0 ∧ qs.getD i 0 ≤ 9223372036854775807) :
    Calls Try.prog 6 #[.slice ra rs.length rc, .slice qa qs.length qc] w fun e w' => e = .returned (.bool true) ∧ Below w.heap.size w w' := by
  obtain ⟨i1, hi1, hy0, hy1, hy2⟩ := info_parts info_pair
  obtain ⟨i2, hi2, hx0, hx1, hx2⟩ := info_parts info_lits
  have Hwf := hide hwf
  have Hwq := hide hwq
  clear hwf hwq
  go_enter Try.func6, Try.ntmps6
  go_wp2_with fail
  refine (kterms_any ra rc rs _ hr Hwf.out).mono ?_
  rintro e w1 ⟨ta, tc, ts, rfl, ht, hts, hf4, h7, hb1⟩
  have hn1 := (len_of hts).1
  have hlt1 : ts.length ≤ 9 := by omega
  have hq1 := hq.below hb1
  have Hts := hide hts
  clear hts hf4
  go_upto_block 0 with fail
  go_cut [7] (fun s wx => ∃ ps cs pa pc, LS ts.length w1 wx (.slice ta ts.length tc) (.slice pa cs.length pc) s ps cs ∧ Hid (ps.length ≤ 12))
  case first =>
    go_wp2_with fail
    go_loopg [7, 8] 12 (fun g v s wr => ∃ (i : Nat) (ps : List Pr) (cs : List Cl) (pa : Option Addr) (pc : Nat), g = 12 - i ∧ i ≤ 12 ∧ s = .int .i64 i ∧ ps.length = i ∧ LS ts.length w1 wr (.slice ta ts.length tc) (.slice pa cs.length pc) v ps cs)
    case atStart => exact ⟨0, [], [], none, 0, rfl, by omega, rfl, rfl, LS.start _ _ _⟩
    case round =>
      obtain ⟨i, ps, cs, pa, pc, rfl, hi, rfl, hn, hP⟩ := hrel
      have Hn := hide hn
      clear hn
      obtain ⟨va, vc, rfl⟩ := own_val hP.2.2.1
      by_cases hlt : i < qs.length ∧ i < 12
      · obtain ⟨hlt, hi3⟩ := hlt
        obtain ⟨rb, ro, rfl, rcell⟩ := (hq1.below hP.2.2.2.2.2.2).get hlt
        have r1 := rcell i hlt
        obtain ⟨w1', w2'⟩ := Hwq.out i hlt
        generalize qs.getD i 0 = x at *
        clear rcell
        go_wp2_with fail
        refine (pick_any x 1099511627776 _ w1' w2' (by omega) (by omega)).mono ?_
        rintro e w' ⟨r, hr1, rfl, rfl⟩
        have Hr1 : Hid (small50 r) := by unfold small50; show (r : Int) < _; omega
        have hn0 : ¬ ts.length = 0 := by omega
        clear hr1 w1' w2'
        go_upto_region 8 with fail
        go_region
        go_upto_region 9 with fail
        obtain ⟨p, hp⟩ : ∃ p : Pr, p = ⟨(r : Int) % ts.length, (wrap64 ((r : Int) / 16)).tmod ts.length⟩ := ⟨_, rfl⟩
        have Hok : Hid (pairOk ts.length p = true) := by show pairOk ts.length p = true; rw [hp]; exact pairOk_made Hr1.out hn1
        rw [show (r : Int) % ts.length = p.x by rw [hp], show (wrap64 ((r : Int) / 16)).tmod ts.length = p.y by rw [hp]]
        clear hp Hr1
        have hsz := hP.2.2.2.2.2.2.size
        have hszw : w1.heap.size + 1 ≤ w'.heap.size := by have := (Array.getElem?_eq_some_iff.1 hP.1).1; omega
        have h12 : ps.length ≤ 12 := by have := Hn.out; omega
        go_upto_region 10 with (at_builtin; refine wpList_append_own _ rfl (.tmp 49) (.tmp 51) 23 rfl (w1.heap.size + 1) 29 i1 (.agg #[.int .i64 0, .int .i64 0]) 2 16 Try.underlying23 hi1 hy0 hy1 hy2 rfl (by decide) (.slice va ps.length vc) ps.length (psCells ps) rfl ((hP.2.2.1.alloc _).drew.alloc _) ⟨w'.heap.size + 1, 0, none⟩ 1 1 (prCells p) rfl rfl (by simpa using new_pr (w'.alloc (.cells #[.int .i64 p.x, .int .i64 p.y] 29)) p 29) (prCells_one _) (by unfold maxLen; omega) (by omega) (by simp; omega) ?_; intro qv w2 hown2 hgr2 hz2; clear hz2)
        have hbA : Below w'.heap.size w' ((w'.alloc (.cells #[.int .i64 p.x, .int .i64 p.y] 29)).drew.alloc (.cells #[.int .i64 p.x, .int .i64 p.y] 29)) := ((Below.refl _ _).alloc (Nat.le_refl _) _).drew.alloc (by simp) _
        have hM := hP.mid hbA hown2 hgr2 Hok.out
        have hne : ∀ q, (Value.slice va ps.length vc).ownBlock = some q → q < w'.heap.size := fun q hq => (hP.2.2.1.lt q hq).2
        have c0 : w2.cell? ⟨w'.heap.size, 0, none⟩ = some (.int .i64 p.x) := hgr2.cell (by simp) (fun e => absurd (hne _ e.symm) (Nat.lt_irrefl _))
        have c1 : w2.cell? ⟨w'.heap.size, 1, none⟩ = some (.int .i64 p.y) := hgr2.cell (by simp) (fun e => absurd (hne _ e.symm) (Nat.lt_irrefl _))
        have cp : w2.cell? ⟨w1.heap.size, 1, none⟩ = some (.slice pa cs.length pc) := by rw [cell_of_row _ _ _ _ _ _ hM.1]; rfl
        have hcl := hM.2.1.1
        have hszM : w1.heap.size + 1 ≤ w2.heap.size := by have := (Array.getElem?_eq_some_iff.1 hM.1).1; omega
        have h12c : cs.length ≤ 12 := by have := hP.2.2.2.1; omega
        obtain ⟨qa2, qc2, hqv⟩ := own_val hown2
        subst hqv
        have hlits : (((w2.alloc (.cells #[.int .i64 p.x, .int .i64 p.y, .bool false] 50)).alloc (.cells #[.slice (some ⟨w2.heap.size, 0, none⟩) 1 1] 43))).ownsRow (w1.heap.size + 1) 50 3 (.slice (some ⟨w2.heap.size, 0, none⟩) 1 1) 1 (lsCells [litP p]) :=
          ⟨rfl, .inr ⟨w2.heap.size, 1, _, rfl, hszM, heap_at_old _ _ (heap_at_new _ _ _ rfl), Nat.le_refl _, (by show 1 ≤ 9223372036854775807; omega), rfl, rfl⟩⟩
        have hb2 : Below w2.heap.size w2 ((w2.alloc (.cells #[.int .i64 p.x, .int .i64 p.y, .bool false] 50)).alloc (.cells #[.slice (some ⟨w2.heap.size, 0, none⟩) 1 1] 43)) := ((Below.refl _ _).alloc (Nat.le_refl _) _).alloc (by simp) _
        have Hlits := hide hlits
        have HM := hide hM
        have HP := hide hP
        clear hlits hgr2 hown2 hne hbA hM hP
        go_wp2_with (at_builtin; refine wpList_append_own _ rfl (.tmp 54) (.tmp 61) 31 rfl (w1.heap.size + 1) 43 i2 (.slice none 0 0) 1 24 Try.underlying31 hi2 hx0 hx1 hx2 rfl (by decide) (.slice pa cs.length pc) cs.length (csCells cs) rfl ((hcl.alloc _).alloc _) ⟨w2.heap.size + 1, 0, none⟩ 1 1 [.slice (some ⟨w2.heap.size, 0, none⟩) 1 1] rfl rfl (by simpa using new_one (w2.alloc (.cells #[.int .i64 p.x, .int .i64 p.y, .bool false] 50)) (.slice (some ⟨w2.heap.size, 0, none⟩) 1 1) 43) (fun u hu => by simp at hu; subst hu; rfl) (by unfold maxLen; omega) (by omega) (by simp; omega) ?_)
        intro pv w3 hown3 hgr3 hz3
        clear hz3
        obtain ⟨hheap, hLS⟩ := HM.out.step (p := p) (by rw [show cs.length = ps.length from HP.out.2.2.2.1]; exact getD_snoc_eq _ _ _) hb2 Hlits.out hown3 hgr3
        have k1 : w3.cell? ⟨w1.heap.size, 1, none⟩ = some (.slice pa cs.length pc) := by rw [cell_of_row _ _ _ _ _ _ hheap]; rfl
        have k2 : w3.frozen? ⟨w1.heap.size, 1, none⟩ = false := frozen_of_row _ _ _ _ _ hheap
        obtain ⟨oa, oc, hov⟩ := own_val hown3
        subst hov
        have HLS := hide hLS
        clear hLS hown3 hgr3
        go_wp2_with fail
        go_roundg (12 - (i + 1))
        case measure => omega
        case rel => exact ⟨i + 1, ps ++ [p], cs ++ [⟨some ⟨w2.heap.size, 0, none⟩, 1, [litP p]⟩], oa, oc, rfl, by omega, by go_num, by have := Hn.out; simp; omega, by simpa using HLS.out⟩
      · have Hlt := hide hlt
        clear hlt
        have Hfin : Hid (ps.length ≤ 12) := by have := Hn.out; show ps.length ≤ 12; omega
        by_cases hlt : i < qs.length
        · have h3 : ¬ i < 12 := fun h => Hlt.out ⟨hlt, h⟩
          go_wp2_with fail
          go_meet
          exact ⟨ps, cs, pa, pc, hP, Hfin⟩
        · go_wp2_with fail
          go_meet
          exact ⟨ps, cs, pa, pc, hP, Hfin⟩
  case rest =>
    obtain ⟨ps, cs, pa, pc, hLS, H12⟩ := hcut
    obtain ⟨hcl, hpr, hsame⟩ := hLS.clauses H12.out
    obtain ⟨va, vc, hvv⟩ := own_val hLS.2.2.1
    subst hvv
    have hbc := hLS.2.2.2.2.2.2
    have htc := ht.below hbc
    have hpa := pairsAt_of_own hLS.2.2.1
    obtain ⟨pa', pc', epa, hca⟩ := hLS.2.1.at
    injection epa with e1 e3 e2
    clear e3
    subst e1
    subst e2
    have p0 : wc.cell? ⟨w1.heap.size, 0, none⟩ = some (.slice ta ts.length tc) := by rw [cell_of_row _ _ _ _ _ _ hLS.1]; rfl
    have p1 : wc.cell? ⟨w1.heap.size, 1, none⟩ = some (.slice pa cs.length pc) := by rw [cell_of_row _ _ _ _ _ _ hLS.1]; rfl
    have hbw : Below w.heap.size w wc := hb1.trans (hbc.mono hb1.size)
    have Hcl := hide hcl
    have Hpr := hide hpr
    have Hsame := hide hsame
    clear hLS hcl hpr hsame hbc
    have hcloseC := close_any ta va tc vc ts ps wc htc hpa
    have HcloseC := hide hcloseC
    clear hcloseC
    go_wp2_with fail
    refine HcloseC.out.mono ?_
    rintro e w4 ⟨hce, hb4⟩
    rcases hce with ⟨h1, _⟩ | ⟨_, h1, _⟩ | ⟨_, _, g, c, rfl, hrow, hg, hco⟩
    · rw [Hts.out] at h1; cases h1
    · rw [Hpr.out] at h1; cases h1
    · have q0 := cell_below hb4 p0
      have q1 := cell_below hb4 p1
      have ht4 := htc.below hb4
      have hc4 := hca.below hb4
      have Hco := hide hco
      have hbw4 : Below w.heap.size w w4 := hbw.trans (hb4.mono hbw.size)
      clear hco hb4 htc hca hpa p0 p1 hbw HcloseC
      have hmod := models_any ta pa tc pc ts cs w4 ht4 hc4 Hts.out Hcl.out
      have Hmod := hide hmod
      clear hmod
      go_wp2_with fail
      refine Hmod.out.mono ?_
      rintro e w5 ⟨ya, yc, ys, rfl, hys, hyl, hall, hb5⟩
      have hrow5 : Row w5 g c := hrow.below hb5 hrow.lt
      have hbw5 : Below w.heap.size w w5 := hbw4.trans (hb5.mono hbw4.size)
      have Hall := hide hall
      have Hyl := hide hyl
      clear hall hyl hb5 hrow q0 q1 ht4 hc4 Hmod
      go_wp2_with fail
      have Hlc : Hid (c.length = ts.length) := Hco.out.1
      have hyl := Hyl.out
      have hn81 : (ts.length : Int) * ts.length ≤ 81 := by
        have h1 : ts.length * ts.length ≤ 9 * 9 := Nat.mul_le_mul hlt1 hlt1
        have h2 : ((ts.length * ts.length : Nat) : Int) ≤ 81 := by omega
        simpa using h2
      have hn00 : (0 : Int) ≤ (ts.length : Int) * ts.length := Int.mul_nonneg (by omega) (by omega)
      go_loopg [14, 15] ys.length (fun q s14 s15 wx => ∃ (i : Nat) (f : Bool), q = ys.length - i ∧ i ≤ ys.length ∧ s15 = .int .i64 i ∧ s14 = .bool f ∧ Hid (∀ t, t < i → (ys.getD t wy0).xs = c → f = true) ∧ ∃ n, wx = w5.drewN n)
      case atStart => exact ⟨0, false, rfl, by omega, rfl, rfl, (fun t ht => by omega), 0, rfl⟩
      case round =>
        obtain ⟨i, f, rfl, hi, rfl, rfl, Hf, n0, rfl⟩ := hrel
        by_cases hlt : i < ys.length
        · obtain ⟨yb, yo, rfl, ycell⟩ := hys.get hlt
          obtain ⟨y1, y2⟩ := ycell i hlt
          obtain ⟨m1, m2, m3⟩ := Hall.out.1 i hlt
          generalize hyy : ys.getD i wy0 = y at *
          obtain ⟨za, zc, zx⟩ := y
          simp only [wyVal] at y1
          simp only at y2 m1 m2 m3
          have Hyy := hide hyy
          have Hm2 := hide m2
          rw [m2] at y1
          have Hfine : Hid (∀ a b, a < ts.length → b < ts.length → c.getD a 0 = c.getD b 0 → zx.getD a 0 = zx.getD b 0) := by
            unfold fitsB at m3
            rw [Bool.and_eq_true, Hsame.out] at m3
            exact Hco.out.2.2.2.2 zx m2 m3.1 m3.2
          have hsm := same_any za _ zc ts.length zx c (w5.drewN n0) y2 hrow5.at (by rw [m2]; omega)
          rw [m2, Hlc.out] at hsm
          have Hsm := hide hsm
          clear hyy ycell m1 m2 m3 hsm
          go_wp2_with fail
          refine Hsm.out.mono ?_
          rintro e w6 ⟨rfl, n1, rfl⟩
          have Hf2 : Hid (∀ t, t < i + 1 → (ys.getD t wy0).xs = c → (f || decide (zx = c)) = true) := by
            intro t ht he
            rcases Nat.lt_succ_iff_lt_or_eq.1 ht with h3 | h3
            · rw [Hf.out t h3 he]; rfl
            · subst h3
              rw [Hyy.out] at he
              rw [decide_eq_true he]; simp
          generalize decide (zx = c) = is at *
          cases f
          all_goals
            go_wp2_with fail
            go_loopg [17] (ts.length * ts.length) (fun q s wx => ∃ k : Nat, q = ts.length * ts.length - k ∧ k ≤ ts.length * ts.length ∧ s = .int .i64 k ∧ ∃ n, wx = w5.drewN n)
            case atStart => exact ⟨0, rfl, by omega, rfl, _, rfl⟩
            case round =>
              obtain ⟨k, rfl, hk, rfl, n2, rfl⟩ := hrel
              by_cases hkl : k < ts.length * ts.length
              · have hkl' : (k : Int) < (ts.length : Int) * ts.length := by
                  have h2 : ((k : Nat) : Int) < ((ts.length * ts.length : Nat) : Int) := by omega
                  simpa using h2
                go_upto_region 26 with fail
                obtain ⟨A, hA, eA⟩ := kdiv hkl (by omega)
                obtain ⟨B, hB, eB⟩ := mod_nat (k : Int) ts.length (by omega)
                rw [eA, eB]
                have hB' : B < ts.length := by omega
                have cA := hrow5.cell (k := A) (by rw [Hlc.out]; exact hA)
                have cB := hrow5.cell (k := B) (by rw [Hlc.out]; exact hB')
                obtain ⟨zb, zo, rfl, zcell⟩ := y2.get (i := A) (by rw [Hm2.out]; exact hA)
                have zA := zcell A (by rw [Hm2.out]; exact hA)
                have zB := zcell B (by rw [Hm2.out]; exact hB')
                have Hne := Hfine.out A B hA hB'
                clear eA eB zcell hB
                by_cases he : c.getD A 0 = c.getD B 0
                · have he1 : (c.getD A 0 == c.getD B 0) = true := beq_iff_eq.2 he
                  have he2 : (zx.getD A 0 != zx.getD B 0) = false := by rw [Hne he]; exact bne_self_eq_false _
                  clear he Hne
                  generalize c.getD A 0 = a1 at *
                  generalize c.getD B 0 = a2 at *
                  generalize zx.getD A 0 = a3 at *
                  generalize zx.getD B 0 = a4 at *
                  go_quiet (fail)
                  go_wp2_with fail
                  go_roundg (ts.length * ts.length - (k + 1))
                  case measure => omega
                  case rel => exact ⟨k + 1, rfl, by omega, by go_num, _, rfl⟩
                · have he1 : (c.getD A 0 == c.getD B 0) = false := beq_eq_false_iff_ne.2 he
                  clear he Hne
                  generalize c.getD A 0 = a1 at *
                  generalize c.getD B 0 = a2 at *
                  go_quiet (fail)
                  go_wp2_with fail
                  go_roundg (ts.length * ts.length - (k + 1))
                  case measure => omega
                  case rel => exact ⟨k + 1, rfl, by omega, by go_num, _, rfl⟩
              · have hkl' : ¬ (k : Int) < (ts.length : Int) * ts.length := by
                  have h2 : ¬ ((k : Nat) : Int) < ((ts.length * ts.length : Nat) : Int) := by omega
                  simpa using h2
                go_wp2_with fail
                go_roundg (ys.length - (i + 1))
                case measure => omega
                case rel => exact ⟨i + 1, _, rfl, by omega, by go_num, rfl, Hf2, _, rfl⟩
        · have Hfin : Hid (f = true) := by
            obtain ⟨t, ht, he⟩ := Hall.out.2 c Hco.out.2.1 Hlc.out (by unfold fitsB; rw [Hsame.out, Hco.out.2.2.1, Hco.out.2.2.2.1]; rfl)
            exact Hf.out t (by omega) he
          go_wp2_with fail
          go_ret
          exact ⟨ret_bool Hfin.out, below_drewN hbw5 _⟩
end Go.Proofs.Ytjebhhoibofmfaa
