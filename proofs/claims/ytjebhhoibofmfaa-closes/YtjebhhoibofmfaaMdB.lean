import Derived.Test.YtjebhhoibofmfaaMdA
namespace Go.Proofs.Ytjebhhoibofmfaa
open Go.RowKit

theorem Row.news {w : World} {g : Nat} {c : List Int} (h : Row w g c) : ∀ j u, (intCells c)[j]? = some u → w.cell? ((⟨g, 0, none⟩ : Addr).add j) = some u := by
  intro j u hj
  have hadd : (⟨g, 0, none⟩ : Addr).add j = ⟨g, j, none⟩ := by unfold Addr.add; split <;> simp_all
  by_cases hl : j < c.length
  · rw [hadd, h.cell hl]
    simpa [intCells, hl] using hj
  · rw [List.getElem?_eq_none (by simp [intCells]; omega)] at hj; cases hj

theorem intCells_one (xs : List Int) : ∀ u ∈ intCells xs, u.oneCell' = true := by
  intro u hu
  simp [intCells] at hu
  obtain ⟨x, _, rfl⟩ := hu
  rfl

set_option maxRecDepth 100000 in
set_option maxHeartbeats 1000000 in
theorem models_any (ta sa : Option Addr) (tc sc : Nat) (ts : List Tm) (cs : List Cl) (w : World) (ht : TermsAt w ta ts) (hcs : ClausesAt w sa cs) (hts : termsB ts = true) (hcl : clausesB ts.length cs = true) :
    Calls Try.prog 21 #[.agg #[.slice ta ts.length tc, .slice sa cs.length sc]] w fun e w' => ∃ a cap ys, e = .returned (.slice a ys.length cap) ∧ WaysAt w' a ys ∧ ys.length ≤ 1000000000 ∧ GoneAll ts.length (fitsB ts cs) ys ∧ Below w.heap.size w w' := by
  obtain ⟨i1, hi1, hy0, hy1, hy2⟩ := info_parts info_int
  obtain ⟨i2, hi2, hx0, hx1, hx2⟩ := info_parts info_ints
  have hlt1 := (len_of hts).2
  have hn1 := (len_of hts).1
  have h16 := (clausesIn_of hcl).1
  have Hts := hide hts
  have Hcl := hide hcl
  clear hts hcl
  go_enter Try.func21, Try.ntmps21
  go_wp2_with (at_make; refine wpList_make_row _ rfl _ _ 24 rfl 3 i1 (.int .i64 0) Try.underlying24 hi1 hy0 hy1 rfl _ _ ts.length rfl rfl (by rw [hy2]; omega) (by omega) ?_)
  obtain ⟨W, hW⟩ : ∃ W, W = w.alloc (.cells #[.slice ta ts.length tc, .slice sa cs.length sc] 33) := ⟨_, rfl⟩
  rw [← hW]
  have hWs : W.heap.size = w.heap.size + 1 := by rw [hW]; simp
  have hbW : Below w.heap.size w W := by rw [hW]; exact (Below.refl _ _).alloc (Nat.le_refl _) _
  have p0 : W.cell? ⟨w.heap.size, 0, none⟩ = some (.slice ta ts.length tc) := by rw [hW]; simp
  have p1 : W.cell? ⟨w.heap.size, 1, none⟩ = some (.slice sa cs.length sc) := by rw [hW]; simp
  have ht3 := ht.below hbW
  have hc3 := hcs.below hbW
  have HWs := hide hWs
  clear hW ht hcs hWs
  have hrow3 : Row (W.alloc (.cells (madeCells #[.int .i64 0] ts.length) 3)) (w.heap.size + 1) (zeros ts.length) := by
    unfold Row; rw [← made_zeros]; exact heap_at_new _ _ _ HWs.out.symm
  have hb3 : Below (w.heap.size + 1) W (W.alloc (.cells (madeCells #[.int .i64 0] ts.length) 3)) := (Below.refl _ _).alloc (by rw [HWs.out]; exact Nat.le_refl _) _
  go_loopg [3] (leftN (zeros ts.length)) (fun q v wx => ∃ (c : List Int) (ys : List Wy), q = leftN c ∧ Hid (Rg c) ∧ Hid (c.length = ts.length) ∧ Row wx (w.heap.size + 1) c ∧ YsOwn (w.heap.size + 1 + 1) wx v ys ∧
    Hid (Gone ts.length (fitsB ts cs) ys c) ∧ Hid (ys.length ≤ valTo c ts.length) ∧ Below (w.heap.size + 1) W wx)
  case atStart => exact ⟨_, [], rfl, Rg.zeros hlt1, zeros_length _, hrow3, ⟨World.ownsRow_nil _ _ _ _, fun i hi => by simp at hi⟩, Gone.start _ _, Nat.zero_le _, hb3⟩
  case round =>
    obtain ⟨c, ys, rfl, Hrg, Hlen, hrow, hys, Hgone, Hcnt, hbr⟩ := hrel
    have hbr' : Below W.heap.size W wr := by rw [HWs.out]; exact hbr
    have hin : ArgsIn ts c.length := argsIn_of Hts.out (by rw [Hlen.out]; exact Nat.le_refl _)
    have hIA := hrow.at
    have htc := ht3.below hbr'
    have hcc := hc3.below hbr'
    have c1 := cell_below hbr' p1
    have c0 := cell_below hbr' p0
    have hsnd := ksound_any ta _ tc ts.length ts c wr htc hIA (by rw [Hlen.out]; exact Nat.le_refl _) hlt1 hin
    rw [Hlen.out] at hsnd
    have Hsnd := hide hsnd
    clear hsnd hin
    obtain ⟨va, vc, rfl⟩ := own_val hys.1
    go_wp2_with fail
    refine Hsnd.out.mono ?_
    rintro e w6 ⟨rfl, n6, rfl⟩
    go_upto_block 2 with fail
    go_cut [5] (fun s wx => s = .bool (fitsB ts cs c) ∧ ∃ n, wx = wr.drewN n)
    case first =>
      go_wp2_with fail
      go_loopg [5, 6] cs.length (fun q s12 s13 wx => ∃ (i : Nat) (f : Bool), q = cs.length - i ∧ i ≤ cs.length ∧ s13 = .int .i64 i ∧ s12 = .bool f ∧
        Hid (f = true → soundB ts c = true ∧ ∀ t, t < i → holdsB c (cs.getD t cl0).ls = true) ∧ Hid (f = false → (soundB ts c && allHoldB c cs) = false) ∧ ∃ n, wx = wr.drewN n)
      case atStart => exact ⟨0, _, rfl, by omega, rfl, rfl, (fun h => ⟨h, fun t ht => by omega⟩), (fun h => by rw [h]; rfl), n6, rfl⟩
      case round =>
        obtain ⟨i, f, rfl, hi, rfl, rfl, Ht, Hf, n7, rfl⟩ := hrel
        cases f
        · have hff := hide (Hf.out rfl)
          go_wp2_with fail
          go_meet
          exact ⟨by unfold fitsB; rw [hff.out], _, rfl⟩
        · obtain ⟨ht1, ht2⟩ := Ht.out rfl
          have Ht1 := hide ht1
          have Ht2 := hide ht2
          clear ht1 ht2
          by_cases hlt : i < cs.length
          · obtain ⟨sb, so, rfl, scell⟩ := hcc.get hlt
            obtain ⟨s1, s2⟩ := scell i hlt
            have hci := (clausesIn_of Hcl.out).2 i hlt
            generalize hq : cs.getD i cl0 = y at *
            obtain ⟨ya, yc, yl⟩ := y
            have Hq := hide hq
            simp only at s1 s2 hci
            have hsm := some_any ya _ yc ts.length yl c (wr.drewN n7) s2 hIA (by rw [Hlen.out]; exact hci)
            rw [Hlen.out] at hsm
            have Hsm := hide hsm
            clear hq scell hci hsm
            go_wp2_with fail
            refine Hsm.out.mono ?_
            rintro e w7 ⟨rfl, n8, rfl⟩
            go_wp2_with fail
            go_roundg (cs.length - (i + 1))
            case measure => omega
            case rel =>
              refine ⟨i + 1, _, rfl, by omega, by go_num, rfl, ?_, ?_, _, rfl⟩
              · intro hv
                exact ⟨Ht1.out, upto_succ Ht2.out (by rw [Hq.out]; exact hv)⟩
              · intro hv
                rw [allHoldB, allB_no i hlt (by rw [Hq.out]; exact hv)]; simp
          · have Hfin : Hid ((soundB ts c && allHoldB c cs) = true) := by
              show (soundB ts c && allHoldB c cs) = true
              rw [Ht1.out, allHoldB, allB_yes (fun t ht => Ht2.out t (by omega))]; rfl
            go_wp2_with fail
            go_meet
            exact ⟨by unfold fitsB; rw [Hfin.out], _, rfl⟩
    case rest =>
      obtain ⟨rfl, n9, rfl⟩ := hcut
      have hval : Hid (valTo c ts.length < 1000000000) := by
        show valTo c ts.length < 1000000000
        have h1 := valTo_lt Hrg.out c.length (Nat.le_refl _)
        have h2 := pow_small (n := c.length) (by rw [Hlen.out]; exact hlt1)
        rw [← Hlen.out]; omega
      have hrow9 : Row (wr.drewN n9) (w.heap.size + 1) c := hrow
      clear htc hcc c1 c0 Hsnd
      have hnx : ∀ w8, Row w8 (w.heap.size + 1) c → Calls Try.prog 24 #[.slice (some ⟨w.heap.size + 1, 0, none⟩) ts.length ts.length] w8 fun e w' => w8.grownBy w' (some (w.heap.size + 1)) ∧
          ((∃ i, BumpAt c i ∧ Row w' (w.heap.size + 1) (bump c i ts.length) ∧ e = .returned (.bool true)) ∨ (NoBump c ∧ Row w' (w.heap.size + 1) c ∧ e = .returned (.bool false))) := by
        intro w8 hr8
        have h := next_any (w.heap.size + 1) c w8 hr8 (by rw [Hlen.out]; exact hlt1) (by rw [Hlen.out]; exact hn1) (fun i hi => by have := Hrg.out.le hi; have := Hlen.out; omega)
        rw [Hlen.out] at h
        exact h
      have Hnx := hide hnx
      clear hnx
      cases hfit : fitsB ts cs c
      · have Hto := hide (Hgone.out.not hfit)
        go_wp2_with fail
        refine (Hnx.out _ hrow9).mono ?_
        rintro e w8 ⟨hgr, hor⟩
        have hb8 : Below (w.heap.size + 1) W w8 := (below_drewN hbr n9).grown hgr (by have := hrow.lt; simp; omega) (fun q hq => by injection hq with hq; omega)
        have hys8 : YsOwn (w.heap.size + 1 + 1) w8 (.slice va ys.length vc) ys := YsOwn.kept (w := wr.drewN n9) hys hgr
        rcases hor with ⟨i, hbu, hrw, rfl⟩ | ⟨hno, hrw, rfl⟩
        · have Hrg2 : Hid (Rg (bump c i ts.length)) := by show Rg (bump c i ts.length); rw [← Hlen.out]; exact Hrg.out.bump hbu
          have hlf := leftN_bump Hrg.out hbu
          rw [Hlen.out] at hlf
          have Hlf := hide hlf
          have Hg2 := hide (Hto.out.bump Hlen.out hbu)
          clear hlf
          go_wp2_with fail
          go_roundg (leftN (bump c i ts.length))
          case measure => exact Hlf.out.1
          case rel => exact ⟨bump c i ts.length, ys, rfl, Hrg2, (bump_length _ _ _).trans Hlen.out, hrw, hys8, Hg2, (by have := Hlf.out.2; have := Hcnt.out; exact Nat.le_trans Hcnt.out (by omega)), hb8⟩
        · have Hall := hide (Hto.out.done Hrg.out Hlen.out hn1 hno)
          obtain ⟨xa, xc, e1, hwx⟩ := hys8.at
          injection e1 with e1 e3 e2
          clear e3
          subst e1
          subst e2
          go_wp2_with fail
          go_ret
          exact ⟨va, vc, ys, rfl, hwx, by have h1 := Hcnt.out; have h2 := hval.out; omega, Hall.out, hbW.trans (hb8.mono (by omega))⟩
      · have hsz : w.heap.size + 1 + 1 ≤ wr.heap.size := by have := hrow.lt; omega
        have Hfit := hide hfit
        clear hfit
        go_upto_region 11 with (at_builtin; refine wpList_append_own _ rfl (.tmp 35) (.tmp 36) 24 rfl (w.heap.size + 1 + 1) 3 i1 (.int .i64 0) 1 8 Try.underlying24 hi1 hy0 hy1 hy2 rfl (by decide) (.slice none 0 0) 0 [] rfl (World.ownsRow_nil _ _ _ _) ⟨w.heap.size + 1, 0, none⟩ ts.length ts.length (intCells c) rfl (by rw [intCells, List.length_map, Hlen.out, Nat.mul_one]) hrow9.news (intCells_one _) (by unfold maxLen; omega) (by omega) (by simp; omega) ?_; intro dv w10 hown10 hgr10 hz10; clear hz10; obtain ⟨da, dc, hdv⟩ := own_val hown10; subst hdv)
        have hlc : Hid (c.length = ts.length) := Hlen
        have hdo : w10.ownsRow (w.heap.size + 1 + 1) 3 1 (.slice da c.length dc) c.length (intCells c) := by
          rw [Hlen.out]; simpa using hown10
        have hb10 : Below wr.heap.size wr w10 := (below_drewN (Below.refl _ _) n9).grown hgr10 (by simp) (fun q hq => by cases hq)
        have hrow10 : Row w10 (w.heap.size + 1) c := hrow.below hb10 hrow.lt
        have hys10 := hys.below hb10
        have hs10 := hb10.size
        have hcnt10 : ys.length ≤ 1000000000 := by have h1 := Hcnt.out; have h2 := hval.out; omega
        go_wp2_with (at_builtin; refine wpList_append_own _ rfl (.tmp 38) (.tmp 40) 53 rfl (w.heap.size + 1 + 1) 24 i2 (.slice none 0 0) 1 24 Try.underlying53 hi2 hx0 hx1 hx2 rfl (by decide) (.slice va ys.length vc) ys.length (ys.map wyVal) rfl (hys10.1.alloc _) ⟨w10.heap.size, 0, none⟩ 1 1 [.slice da ts.length dc] rfl rfl (new_one _ _ _) (fun u hu => by simp at hu; subst hu; rfl) (by unfold maxLen; omega) (by omega) (by simp; omega) ?_; intro ov w11 hown11 hgr11 hz11; clear hz11; obtain ⟨oa, oc, hov⟩ := own_val hown11; subst hov)
        have hrow11 : Row w11 (w.heap.size + 1) c := Row.kept (heap_at_old _ _ hrow10) hgr11 (fun e => by have := (hys.1.lt _ e.symm).1; omega)
        have hys11 : YsOwn (w.heap.size + 1 + 1) w11 (.slice oa (ys.length + 1) oc) (ys ++ [⟨da, dc, c⟩]) :=
          YsOwn.snoc hys10 ((Below.refl _ _).alloc (Nat.le_refl _) _) (hdo.alloc _) (by rw [Hlen.out]; exact hown11) hgr11
        have hb11 : Below (w.heap.size + 1) W w11 := ((hbr.trans (hb10.mono (by omega))).alloc (by omega) _).grown hgr11 (by simp; omega) (fun q hq => by have := (hys.1.lt q hq).1; omega)
        have Hto := hide (Hgone.out.yes (a := da) (cap := dc) Hrg.out Hlen.out Hfit.out)
        clear hown10 hown11 hdo hys10 hys hrow10 hcnt10
        refine (Hnx.out _ hrow11).mono ?_
        rintro e w8 ⟨hgr, hor⟩
        have hb8 : Below (w.heap.size + 1) W w8 := hb11.grown hgr (by have := hrow11.lt; omega) (fun q hq => by injection hq with hq; omega)
        have hys8 := YsOwn.kept hys11 hgr
        rcases hor with ⟨i, hbu, hrw, rfl⟩ | ⟨hno, hrw, rfl⟩
        · have Hrg2 : Hid (Rg (bump c i ts.length)) := by show Rg (bump c i ts.length); rw [← Hlen.out]; exact Hrg.out.bump hbu
          have hlf := leftN_bump Hrg.out hbu
          rw [Hlen.out] at hlf
          have Hlf := hide hlf
          have Hg2 := hide (Hto.out.bump Hlen.out hbu)
          clear hlf
          go_wp2_with fail
          go_roundg (leftN (bump c i ts.length))
          case measure => exact Hlf.out.1
          case rel => exact ⟨bump c i ts.length, ys ++ [⟨da, dc, c⟩], rfl, Hrg2, (bump_length _ _ _).trans Hlen.out, hrw, hys8, Hg2, (by have h1 := Hlf.out.2; have h2 := Hcnt.out; show (ys ++ [_]).length ≤ _; simp only [List.length_append, List.length_cons, List.length_nil]; omega), hb8⟩
        · have Hall := hide (Hto.out.done Hrg.out Hlen.out hn1 hno)
          obtain ⟨xa, xc, e1, hwx⟩ := hys8.at
          injection e1 with e1 e3 e2
          clear e3
          subst e1
          subst e2
          have hlen8 : Hid (ys.length + 1 ≤ 1000000000) := by have h1 := Hcnt.out; have h2 := hval.out; show ys.length + 1 ≤ 1000000000; omega
          go_wp2_with fail
          go_ret
          exact ⟨oa, oc, ys ++ [⟨da, dc, c⟩], by simp, hwx, by have := hlen8.out; simpa using this, Hall.out, hbW.trans (hb8.mono (by omega))⟩
end Go.Proofs.Ytjebhhoibofmfaa
