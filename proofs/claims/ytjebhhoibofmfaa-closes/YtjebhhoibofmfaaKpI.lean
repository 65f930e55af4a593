import Derived.Test.YtjebhhoibofmfaaKpH
import Derived.Deep.CutBlock
namespace Go.Proofs.Ytjebhhoibofmfaa
open Go.RowKit

theorem info_int : (Try.prog.info? 3).map (fun i => (i.zero, i.size, i.bytes)) = some (some (.int .i64 0), 1, 8) := by kernel_rfl

theorem trueB_of {ts : List Tm} {cs : List Cl} {c : List Int} (h1 : termsB ts = true) (h2 : clausesB ts.length cs = true) (h3 : Rg c) (h4 : c.length = ts.length) :
    trueB ts cs c = (soundB ts c && allHoldB c cs) ∧ trueE ts cs c = 0 := by
  have e1 : refuseI ts cs = 0 := by simp [refuseI, h1, h2]
  have e2 : classesB c ts.length = true := by simp [classesB, h4, rgs_of h3]
  exact ⟨by simp [trueB, e1, e2], by simp [trueE, e1, e2]⟩

def upto (n i : Nat) : List Int := tab n (fun t => if t < i then (t : Int) else 0)
theorem upto_zero (n : Nat) : upto n 0 = zeros n := tab_congr (fun t _ => by rw [if_neg (by omega)])
theorem upto_all (n : Nat) : upto n n = apart n := tab_congr (fun t h => by rw [if_pos h])
theorem upto_set (n i : Nat) : (upto n i).set i (i : Int) = upto n (i + 1) := by
  unfold upto
  rw [tab_set]
  refine tab_congr (fun t _ => ?_)
  by_cases h : t = i
  · subst h; rw [if_pos rfl, if_pos (by omega)]
  · rw [if_neg h]
    by_cases h2 : t < i
    · rw [if_pos h2, if_pos (by omega)]
    · rw [if_neg h2, if_neg (by omega)]

set_option maxRecDepth 100000 in
set_option maxHeartbeats 1000000 in
theorem judged_any (ra qa : Option Addr) (rc qc : Nat) (rs qs : List Int) (k : Int) (w : World) (hr : IntsAt w ra rs) (hq : IntsAt w qa qs)
    (hwf : ∀ i, i < rs.length → -9223372036854775808 ≤ rs.getD i 0 ∧ rs.getD i 0 ≤ 9223372036854775807) (hwq : ∀ i, i < qs.length → -9223372036854775808 ≤ qs.getD i 0 ∧ qs.getD i 0 ≤ 9223372036854775807)
    (hk1 : -9223372036854775808 ≤ k) (hk2 : k ≤ 9223372036854775807) :
    Calls Try.prog 7 #[.slice ra rs.length rc, .slice qa qs.length qc, .int .i64 k] w fun e w' => e = .returned (.bool true) ∧ Below w.heap.size w w' := by
  obtain ⟨i1, hi1, hy0, hy1, hy2⟩ := info_parts info_int
  have Hwf := hide hwf
  have Hwq := hide hwq
  have Hk1 := hide hk1
  have Hk2 := hide hk2
  clear hwf hwq hk1 hk2
  go_enter Try.func7, Try.ntmps7
  go_wp2_with fail
  refine (kterms_any ra rc rs _ hr Hwf.out).mono ?_
  rintro e w1 ⟨ta, tc, ts, rfl, ht, hts, _, h7, hb1⟩
  have hn1 := (len_of hts).1
  have hlt1 : ts.length ≤ 9 := by omega
  go_wp2_with fail
  refine (kproblem_any ta qa tc qc ts.length qs _ hn1 hlt1 (hq.below hb1) Hwq.out).mono ?_
  rintro e w2 ⟨pv, cs, rfl, hcs, hcl, h8, hb2⟩
  obtain ⟨pa, pc, rfl, hcA⟩ := hcs.at
  have ht2 := ht.below hb2
  have hb12 : Below w.heap.size w w2 := hb1.trans (hb2.mono hb1.size)
  have Hts := hide hts
  have Hcl := hide hcl
  clear hts hcl ht hcs hb1 hb2
  go_wp2_with (at_make; refine wpList_make_row _ rfl _ _ 24 rfl 3 i1 (.int .i64 0) Try.underlying24 hi1 hy0 hy1 rfl _ _ ts.length rfl rfl (by rw [hy2]; omega) (by omega) ?_)
  obtain ⟨W, hW⟩ : ∃ W, W = w2.alloc (.cells #[.slice ta ts.length tc, .slice pa cs.length pc] 33) := ⟨_, rfl⟩
  rw [← hW]
  have hWs : W.heap.size = w2.heap.size + 1 := by rw [hW]; simp
  have hbW : Below w2.heap.size w2 W := by rw [hW]; exact (Below.refl _ _).alloc (Nat.le_refl _) _
  have p0 : W.cell? ⟨w2.heap.size, 0, none⟩ = some (.slice ta ts.length tc) := by rw [hW]; simp
  have p1 : W.cell? ⟨w2.heap.size, 1, none⟩ = some (.slice pa cs.length pc) := by rw [hW]; simp
  have ht3 := ht2.below hbW
  have hc3 := hcA.below hbW
  have hbw : Below w.heap.size w W := hb12.trans (hbW.mono hb12.size)
  have HWs := hide hWs
  clear hW ht2 hcA hbW hb12 hWs
  refine (pick_any k 900 _ Hk1.out Hk2.out (by omega) (by omega)).mono ?_
  rintro e w3 ⟨kk, hkk, rfl, hw3⟩
  have hrow3 : Row w3 (w2.heap.size + 1) (zeros ts.length) := by
    rw [hw3]; unfold Row; rw [← made_zeros]; exact heap_at_new _ _ _ HWs.out.symm
  have hb3 : Below (w2.heap.size + 1) W w3 := by rw [hw3]; exact (Below.refl _ _).alloc (by rw [HWs.out]; exact Nat.le_refl _) _
  clear hw3
  go_upto_block 0 with fail
  go_cut [10] (fun s wx => ∃ c, Hid (Rg c) ∧ Hid (c.length = ts.length) ∧ Row wx (w2.heap.size + 1) c ∧ Below (w2.heap.size + 1) W wx)
  case first =>
    go_wp2_with fail
    go_loopg [10] kk (fun q s wr => ∃ c, s = .int .i64 q ∧ q ≤ 900 ∧ Hid (Rg c) ∧ Hid (c.length = ts.length) ∧ Row wr (w2.heap.size + 1) c ∧ Below (w2.heap.size + 1) W wr)
    case atStart => exact ⟨zeros ts.length, rfl, by omega, Rg.zeros hlt1, zeros_length _, hrow3, hb3⟩
    case round =>
      obtain ⟨c, rfl, hq9, Hrg, Hlen, hrow, hbr⟩ := hrel
      cases gk with
      | zero =>
        go_wp2_with fail
        go_meet
        exact ⟨c, Hrg, Hlen, hrow, hbr⟩
      | succ p =>
        rw [show ((p + 1 : Nat) : Int) = (p : Int) + 1 by omega]
        have hnext := next_any (w2.heap.size + 1) c wr hrow (by have := Hlen.out; omega) (by have := Hlen.out; omega) (fun i hi => by have := Hrg.out.le hi; have := Hlen.out; omega)
        rw [Hlen.out] at hnext
        have Hnext := hide hnext
        clear hnext
        go_wp2_with fail
        refine Hnext.out.mono ?_
        rintro e w5 ⟨hgr, hor⟩
        have hb5 : Below (w2.heap.size + 1) W w5 := hbr.grown hgr (by have := hrow.lt; omega) (fun q hq => by injection hq with hq; omega)
        rcases hor with ⟨i, hbu, hrw, rfl⟩ | ⟨hno, hrw, rfl⟩
        · have Hrg2 : Hid (Rg (bump c i ts.length)) := by show Rg (bump c i ts.length); rw [← Hlen.out]; exact Hrg.out.bump hbu
          go_wp2_with fail
          go_roundg p
          case measure => omega
          case rel => exact ⟨bump c i ts.length, by go_num, by omega, Hrg2, (bump_length _ _ _).trans Hlen.out, hrw, hb5⟩
        · go_wp2_with fail
          go_meet
          exact ⟨c, Hrg, Hlen, hrw, hb5⟩
  case rest =>
    obtain ⟨c, Hrg, Hlen, hrow, hbr⟩ := hcut
    have hbr' : Below W.heap.size W wc := by rw [HWs.out]; exact hbr
    have hin : ArgsIn ts c.length := argsIn_of Hts.out (by rw [Hlen.out]; exact Nat.le_refl _)
    have hIA := hrow.at
    have htc := ht3.below hbr'
    have hcc := hc3.below hbr'
    have c1 := cell_below hbr' p1
    have c0 := cell_below hbr' p0
    have hsnd := ksound_any ta _ tc ts.length ts c wc htc hIA (by rw [Hlen.out]; exact Nat.le_refl _) hlt1 hin
    rw [Hlen.out] at hsnd
    have Hsnd := hide hsnd
    have Hin := hide hin
    have Hst : Hid (trueB ts cs c = (soundB ts c && allHoldB c cs) ∧ trueE ts cs c = 0) := trueB_of Hts.out Hcl.out Hrg.out Hlen.out
    clear hsnd hin hrow3 hb3
    go_wp2_with fail
    refine Hsnd.out.mono ?_
    rintro e w6 ⟨rfl, n6, rfl⟩
    go_upto_block 2 with fail
    go_cut [12] (fun s wx => s = .bool (soundB ts c && allHoldB c cs) ∧ ∃ n, wx = wc.drewN n)
    case first =>
      go_wp2_with fail
      go_loopg [12, 13] cs.length (fun q s12 s13 wx => ∃ (i : Nat) (f : Bool), q = cs.length - i ∧ i ≤ cs.length ∧ s13 = .int .i64 i ∧ s12 = .bool f ∧
        Hid (f = true → soundB ts c = true ∧ ∀ t, t < i → holdsB c (cs.getD t cl0).ls = true) ∧ Hid (f = false → (soundB ts c && allHoldB c cs) = false) ∧ ∃ n, wx = wc.drewN n)
      case atStart => exact ⟨0, _, rfl, by omega, rfl, rfl, (fun h => ⟨h, fun t ht => by omega⟩), (fun h => by rw [h]; rfl), n6, rfl⟩
      case round =>
        obtain ⟨i, f, rfl, hi, rfl, rfl, Ht, Hf, n7, rfl⟩ := hrel
        cases f
        · have hff := hide (Hf.out rfl)
          go_wp2_with fail
          go_meet
          exact ⟨by rw [hff.out], _, rfl⟩
        · obtain ⟨ht1, ht2⟩ := Ht.out rfl
          have Ht1 := hide ht1
          have Ht2 := hide ht2
          clear ht1 ht2
          by_cases hlt : i < cs.length
          · obtain ⟨sb, so, rfl, scell⟩ := hcc.get hlt
            obtain ⟨s1, s2⟩ := scell i hlt
            have hci := (clausesIn_of Hcl.out).2 i hlt
            generalize hq : cs.getD i cl0 = y at *
            obtain ⟨ya, yc, yl⟩ := y
            have Hq := hide hq
            simp only at s1 s2 hci
            have hsm := some_any ya _ yc ts.length yl c (wc.drewN n7) s2 hIA (by rw [Hlen.out]; exact hci)
            rw [Hlen.out] at hsm
            have Hsm := hide hsm
            clear hq scell hci hsm
            go_wp2_with fail
            refine Hsm.out.mono ?_
            rintro e w7 ⟨rfl, n8, rfl⟩
            go_wp2_with fail
            go_roundg (cs.length - (i + 1))
            case measure => omega
            case rel =>
              refine ⟨i + 1, _, rfl, by omega, by go_num, rfl, ?_, ?_, _, rfl⟩
              · intro hv
                exact ⟨Ht1.out, upto_succ Ht2.out (by rw [Hq.out]; exact hv)⟩
              · intro hv
                rw [allHoldB, allB_no i hlt (by rw [Hq.out]; exact hv)]; simp
          · have Hfin : Hid ((soundB ts c && allHoldB c cs) = true) := by
              show (soundB ts c && allHoldB c cs) = true
              rw [Ht1.out, allHoldB, allB_yes (fun t ht => Ht2.out t (by omega))]; rfl
            go_wp2_with fail
            go_meet
            exact ⟨by rw [Hfin.out], _, rfl⟩
    case rest =>
      obtain ⟨rfl, n9, rfl⟩ := hcut
      have htr := true_any ta pa _ tc pc ts.length ts cs c (wc.drewN n9) htc hcc hIA
      rw [Hlen.out, Hst.out.1, Hst.out.2] at htr
      have Htr := hide htr
      clear htr
      go_wp2_with fail
      refine Htr.out.mono ?_
      rintro e w10 ⟨rfl, hb9⟩
      have hb10 : Below wc.heap.size wc w10 := (below_drewN (Below.refl _ _) n9).trans hb9
      clear hb9
      have hbw10 : Below w.heap.size w w10 := (hbw.trans ((hbr'.trans (hb10.mono hbr'.size)).mono hbw.size))
      have ht10 := htc.below hb10
      clear hb10 htc hcc hIA c1 c0 hbr' hbr hrow ht3 hc3 p0 p1 Hsnd Hrg Hlen Htr
      generalize (soundB ts c && allHoldB c cs) = fin at *
      go_wp2_with (at_make; refine wpList_make_row _ rfl _ _ 24 rfl 3 i1 (.int .i64 0) Try.underlying24 hi1 hy0 hy1 rfl _ _ ts.length rfl rfl (by rw [hy2]; omega) (by omega) ?_)
      have hrow0 : Row (w10.alloc (.cells (madeCells #[.int .i64 0] ts.length) 3)) w10.heap.size (upto ts.length 0) := by
        unfold Row; rw [upto_zero, ← made_zeros]; exact heap_at_new _ _ _ rfl
      have hb0 : Below w10.heap.size w10 (w10.alloc (.cells (madeCells #[.int .i64 0] ts.length) 3)) := (Below.refl _ _).alloc (Nat.le_refl _) _
      go_loopg [17] ts.length (fun q s wx => ∃ i : Nat, q = ts.length - i ∧ i ≤ ts.length ∧ s = .int .i64 i ∧ Row wx w10.heap.size (upto ts.length i) ∧ Below w10.heap.size w10 wx)
      case atStart => exact ⟨0, rfl, by omega, rfl, hrow0, hb0⟩
      case round =>
        obtain ⟨i, rfl, hi, rfl, hrow, hbx⟩ := hrel
        by_cases hlt : i < ts.length
        · have ci := hrow.cell (k := i) (by unfold upto; rw [tab_length]; exact hlt)
          have fi := hrow.frozen i
          generalize (upto ts.length i).getD i 0 = cv at *
          go_wp2_with fail
          go_roundg (ts.length - (i + 1))
          case measure => omega
          case rel => exact ⟨i + 1, rfl, by omega, by go_num, by rw [← upto_set]; exact hrow.set _ _, hbx.setCell (Nat.le_refl _) _⟩
        · have hin2 : i = ts.length := by omega
          have hrow2 : Row wr w10.heap.size (apart ts.length) := by rw [← upto_all]; rw [hin2] at hrow; exact hrow
          have hla : (apart ts.length).length = ts.length := apart_length _
          have Hla := hide hla
          have ht11 := ht10.below hbx
          have hsnd := ksound_any ta _ tc ts.length ts (apart ts.length) wr ht11 hrow2.at (by rw [Hla.out]; exact Nat.le_refl _) hlt1 (argsIn_of Hts.out (by rw [Hla.out]; exact Nat.le_refl _))
          rw [Hla.out] at hsnd
          have Hsnd := hide hsnd
          have Hta : Hid (trueB ts [] (apart ts.length) = (soundB ts (apart ts.length) && allHoldB (apart ts.length) []) ∧ trueE ts [] (apart ts.length) = 0) := trueB_of Hts.out rfl (Rg.apart hlt1) Hla.out
          have Hin2 := hide hin2
          have Hrow2 := hide hrow2
          clear hsnd hla hin2 hrow hrow0 hb0 hrow2
          go_wp2_with fail
          refine Hsnd.out.mono ?_
          rintro e w12 ⟨rfl, n12, rfl⟩
          have htr := true_any ta none _ tc 0 ts.length ts [] (apart ts.length) (wr.drewN n12) ht11 (.inl rfl) (Row.at Hrow2.out)
          rw [Hla.out, Hta.out.1, Hta.out.2] at htr
          have Htr := hide htr
          clear htr
          go_wp2_with fail
          refine Htr.out.mono ?_
          rintro e w13 ⟨rfl, hb13⟩
          have hb14 : Below w.heap.size w w13 := hbw10.trans (((hbx.trans (((below_drewN (Below.refl _ _) n12).trans hb13).mono hbx.size))).mono hbw10.size)
          generalize soundB ts (apart ts.length) = snd at *
          go_wp2_with fail
          go_ret
          exact ⟨ret_bool (by cases snd <;> rfl), hb14⟩
end Go.Proofs.Ytjebhhoibofmfaa
