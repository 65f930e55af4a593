import Derived.Test.YtjebhhoibofmfaaXCkE
namespace Go.Proofs.Ytjebhhoibofmfaa
open Go.RowKit

set_option maxRecDepth 100000 in
set_option maxHeartbeats 8000000 in
set_option linter.unusedVariables false in
theorem one_cut_any (ta sa aa : Option Addr) (tc sc ac : Nat) (ts : List Tm) (cs qs : List Cl) (ss : List (Nat × Nat)) (s : St) (w : World) (ht : TermsAt w ta ts) (hcs : ClausesAt w sa cs) (hq : ClausesAt w aa qs) (hts : termsB ts = true) (hcl : clausesB ts.length cs = true)
    (hql : qs.length = ss.length) (hqi : ∀ i, i < ss.length → (qs.getD i cl0).ls = inOrd (ss.getD i (0, 0)).1 (ss.getD i (0, 0)).2) (hr : s.r = 4) :
    Calls Try.prog 81 #[.agg #[.slice ta ts.length tc, .slice sa cs.length sc], .agg #[.int .i64 s.r, .int .i64 s.a, .int .i64 s.b, .int .i64 s.c, .int .i64 s.d], .slice aa qs.length ac] w fun e w' => OneEnds w w' e (nextB ts cs ss s) (nextS ts cs ss s) := by
  have h9 := (len_of hts).2
  have Hts := hide hts
  have Hcl := hide hcl
  have Hqi := hide hqi
  have Hql := hide hql
  obtain ⟨r, a, b, c, d⟩ := s
  simp only at hr
  subst hr
  have hB := BX.start w (.slice ta ts.length tc) (.slice sa cs.length sc) ⟨4, a, b, c, d⟩
  go_enter Try.func81, Try.ntmps81
  go_upto_region 1 with fail
  simp only at hB
  generalize hW : (w.alloc _).alloc _ = W at *
  obtain ⟨p0, p1, q0, q1, q2, q3, q4⟩ := hB.cells
  simp only at q0 q1 q2 q3 q4
  clear hW hts hcl hqi hql
  go_upto_region 2 with fail
  go_cut [9] from 26 to 34 (fun s9 wx => s9 = .bool (belowB a (ts.length : Nat)) ∧ W = wx)
  case first =>
    by_cases h1 : 0 ≤ a
    · go_wp2_with fail
      go_meet
      exact ⟨by rw [belowB, decide_eq_true h1, Bool.true_and], rfl⟩
    · have h1' : decide (0 ≤ a) = false := by simpa using h1
      go_wp2_with fail
      go_meet
      exact ⟨by rw [belowB, h1']; rfl, rfl⟩
  case rest =>
    obtain ⟨rfl, rfl⟩ := hcut
    go_upto_region 3 with fail
    go_cut [10] from 35 to 43 (fun s9 wx => s9 = .bool (belowB b (ts.length : Nat)) ∧ W = wx)
    case first =>
      by_cases h1 : 0 ≤ b
      · go_wp2_with fail
        go_meet
        exact ⟨by rw [belowB, decide_eq_true h1, Bool.true_and], rfl⟩
      · have h1' : decide (0 ≤ b) = false := by simpa using h1
        go_wp2_with fail
        go_meet
        exact ⟨by rw [belowB, h1']; rfl, rfl⟩
    case rest =>
      obtain ⟨rfl, rfl⟩ := hcut
      go_upto_region 4 with fail
      go_cut [11] from 44 to 52 (fun s9 wx => s9 = .bool (belowB c (ts.length : Nat)) ∧ W = wx)
      case first =>
        by_cases h1 : 0 ≤ c
        · go_wp2_with fail
          go_meet
          exact ⟨by rw [belowB, decide_eq_true h1, Bool.true_and], rfl⟩
        · have h1' : decide (0 ≤ c) = false := by simpa using h1
          go_wp2_with fail
          go_meet
          exact ⟨by rw [belowB, h1']; rfl, rfl⟩
      case rest =>
        obtain ⟨rfl, rfl⟩ := hcut
        generalize hba : belowB a (ts.length : Nat) = ba at *
        generalize hbb : belowB b (ts.length : Nat) = bb at *
        generalize hbc : belowB c (ts.length : Nat) = bc at *
        have Ha := hide hba
        have Hb := hide hbb
        have Hc := hide hbc
        clear hba hbb hbc
        have Hn : Hid (nextB ts cs ss ⟨4, a, b, c, d⟩ = okX (ts.length : Nat) ss ⟨4, a, b, c, d⟩) := by show _ = _; simp [nextB]
        have Hs : Hid (nextS ts cs ss ⟨4, a, b, c, d⟩ = setX ss ⟨4, a, b, c, d⟩) := by show _ = _; simp [nextS]
        have Hok : Hid (okX (ts.length : Nat) ss ⟨4, a, b, c, d⟩ = ((belowB a (qs.length : Nat) && belowB b (qs.length : Nat) && bc && belowB d (ts.length : Nat)) && hasS (ss.getD a.toNat (0, 0)).1 (ss.getD a.toNat (0, 0)).2 ⟨c, d, false⟩ && hasS (ss.getD b.toNat (0, 0)).1 (ss.getD b.toNat (0, 0)).2 ⟨c, d, true⟩)) := by
          show _ = _
          unfold okX
          rw [allLow_2, allLow_2, Hc.out, Hql.out]
          simp [Bool.and_assoc]
        go_upto_region 37 with fail
        go_cut [278] from 242 to 277 (fun s278 wx => s278 = .bool (!(belowB a (qs.length : Nat) && belowB b (qs.length : Nat) && bc && belowB d (ts.length : Nat))) ∧ W = wx)
        case first =>
          by_cases e1 : a < 0
          · go_wp2_with fail
            go_meet
            exact ⟨by simp [belowB, e1], rfl⟩
          · have e1' : 0 ≤ a := by omega
            by_cases e2 : (qs.length : Int) ≤ a
            · go_wp2_with fail
              go_meet
              exact ⟨by simp [belowB, e2], rfl⟩
            · have e2' : a < (qs.length : Int) := by omega
              by_cases e3 : b < 0
              · go_wp2_with fail
                go_meet
                exact ⟨by simp [belowB, e3], rfl⟩
              · have e3' : 0 ≤ b := by omega
                by_cases e4 : (qs.length : Int) ≤ b
                · go_wp2_with fail
                  go_meet
                  exact ⟨by simp [belowB, e4], rfl⟩
                · have e4' : b < (qs.length : Int) := by omega
                  cases bc
                  · go_wp2_with fail
                    go_meet
                    exact ⟨by simp, rfl⟩
                  · by_cases e5 : d < 0
                    · go_wp2_with fail
                      go_meet
                      exact ⟨by simp [belowB, e5], rfl⟩
                    · have e5' : 0 ≤ d := by omega
                      by_cases e6 : (ts.length : Int) ≤ d
                      · go_wp2_with fail
                        go_meet
                        exact ⟨by simp [belowB, e6], rfl⟩
                      · have e6' : d < (ts.length : Int) := by omega
                        go_wp2_with fail
                        go_meet
                        exact ⟨by simp [belowB, e1', e2', e3', e4', e5', e6'], rfl⟩
        case rest =>
          obtain ⟨rfl, rfl⟩ := hcut
          cases hg : (belowB a (qs.length : Nat) && belowB b (qs.length : Nat) && bc && belowB d (ts.length : Nat))
          · have Hno : Hid (nextB ts cs ss ⟨4, a, b, c, d⟩ = false) := by show _ = _; rw [Hn.out, Hok.out, hg]; rfl
            go_wp2_with fail
            go_ret2
            exact ⟨none, 0, 0, (by rw [Hno.out]; rfl), (fun h => absurd (Hno.out.symm.trans h) (by decide)), hB.2.2⟩
          · have Hg := hide hg
            rw [Bool.and_eq_true, Bool.and_eq_true, Bool.and_eq_true] at hg
            obtain ⟨⟨⟨g1, g2⟩, g3⟩, g4⟩ := hg
            have ha := belowB_iff.1 g1
            have hb := belowB_iff.1 g2
            obtain ⟨na, hna⟩ := Int.eq_ofNat_of_zero_le ha.1
            obtain ⟨nb, hnb⟩ := Int.eq_ofNat_of_zero_le hb.1
            subst hna
            subst hnb
            have hla : na < qs.length := by omega
            have hlb : nb < qs.length := by omega
            have HlF : Hid (LowL 9 ⟨c, d, false⟩) := low_of h9 (Hc.out.trans g3) g4
            have HlT : Hid (LowL 9 ⟨c, d, true⟩) := low_of h9 (Hc.out.trans g3) g4
            have HqA := hide (Hqi.out na (by have := Hql.out; omega))
            have HqB := hide (Hqi.out nb (by have := Hql.out; omega))
            have Hok2 : Hid (okX (ts.length : Nat) ss ⟨4, (na : Int), (nb : Int), c, d⟩ = (hasS (ss.getD na (0, 0)).1 (ss.getD na (0, 0)).2 ⟨c, d, false⟩ && hasS (ss.getD nb (0, 0)).1 (ss.getD nb (0, 0)).2 ⟨c, d, true⟩)) := by
              show _ = _
              rw [Hok.out, Hg.out]; rfl
            have Hset : Hid (setX ss ⟨4, (na : Int), (nb : Int), c, d⟩ = (woutE (ss.getD na (0, 0)).1 ⟨c, d, false⟩ ||| woutE (ss.getD nb (0, 0)).1 ⟨c, d, true⟩, woutA (ss.getD na (0, 0)).2 ⟨c, d, false⟩ ||| woutA (ss.getD nb (0, 0)).2 ⟨c, d, true⟩)) := rfl
            clear ha hb g1 g2 g3 g4 Hok Hg Hqi
            obtain ⟨tb, tf, rfl, tcell⟩ := hq.get hla
            obtain ⟨t1, t2⟩ := tcell na hla
            obtain ⟨u1, u2⟩ := tcell nb hlb
            clear tcell
            generalize qs.getD na cl0 = tx at *
            generalize qs.getD nb cl0 = ty at *
            generalize ss.getD na (0, 0) = sx at *
            generalize ss.getD nb (0, 0) = sy at *
            obtain ⟨xa, xc, xl⟩ := tx
            obtain ⟨ya, yc, yl⟩ := ty
            simp only at t1 t2 u1 u2 HqA HqB
            have hx9 : xl.length ≤ 180 := by rw [HqA.out]; unfold inOrd; exact Nat.le_trans (List.length_filter_le _ _) (Nat.le_trans (allL_length 9) (by omega))
            have hy9 : yl.length ≤ 180 := by rw [HqB.out]; unfold inOrd; exact Nat.le_trans (List.length_filter_le _ _) (Nat.le_trans (allL_length 9) (by omega))
            have t1' := cell_below hB.2.2 t1
            have t2' := t2.below hB.2.2
            have hsW := hB.2.2.size
            go_upto_region 39 with fail
            go_cut [17, 18] from 279 to 292 (fun s17 s18 wx => ∃ oa oc, s17 = .slice oa (woutL xl ⟨c, d, false⟩).length oc ∧ s18 = .bool (wasL xl ⟨c, d, false⟩) ∧ wx.ownsRow w.heap.size 50 3 (.slice oa (woutL xl ⟨c, d, false⟩).length oc) (woutL xl ⟨c, d, false⟩).length (lsCells (woutL xl ⟨c, d, false⟩)) ∧ Below W.heap.size W wx)
            case first =>
              go_region_held3 (fun w' => w'.cell? ⟨w.heap.size + 1, 1, none⟩ = some (.int .i64 (na : Int)) ∧ w'.cell? ⟨tb, tf + na, none⟩ = some (.slice xa xl.length xc) ∧ w'.cell? ⟨w.heap.size + 1, 3, none⟩ = some (.int .i64 c) ∧ w'.cell? ⟨w.heap.size + 1, 4, none⟩ = some (.int .i64 d))
                (first | with_reducible exact ⟨drew_old q1, drew_old t1', drew_old q3, drew_old q4⟩ | with_reducible exact keepC4 hb1 (by assumption))
                (first | (go_at_call 108; refine (rWithout_any xa xc xl ⟨c, d, false⟩ _ (t2'.below (Below.refl _ _).drew) (by omega)).mono ?_; rintro e w1 ⟨oa, oc, rfl, hown1, hb1⟩))
              all_goals (go_wp2_with fail; go_meet; exact ⟨oa, oc, rfl, rfl, own_base hown1 hsW, (Below.refl _ _).drew.trans hb1⟩)
            case rest =>
              obtain ⟨oa, oc, rfl, rfl, hownX, hbX⟩ := hcut
              have hBX := hB.below hbX
              have HlX : Hid ((woutL xl ⟨c, d, false⟩).length ≤ 180) := Nat.le_trans (List.length_filter_le _ _) hx9
              have HwX : Hid (woutL xl ⟨c, d, false⟩ = inOrd (woutE sx.1 ⟨c, d, false⟩) (woutA sx.2 ⟨c, d, false⟩)) := by show _ = _; rw [HqA.out]; exact woutL_in HlF.out
              have HsX : Hid (wasL xl ⟨c, d, false⟩ = hasS sx.1 sx.2 ⟨c, d, false⟩) := by show _ = _; rw [HqA.out]; exact wasL_in HlF.out
              generalize woutL xl ⟨c, d, false⟩ = ox at *
              generalize wasL xl ⟨c, d, false⟩ = bx at *
              clear p0 p1 q0 q1 q2 q3 q4 t1' t2'
              obtain ⟨p0, p1, q0, q1, q2, q3, q4⟩ := hBX.cells
              simp only at q0 q1 q2 q3 q4
              have u1' := cell_below hBX.2.2 u1
              have u2' := u2.below hBX.2.2
              have hsX := hBX.2.2.size
              go_upto_region 40 with fail
              go_cut [19, 20] from 293 to 306 (fun s19 s20 wx => ∃ oa oc, s19 = .slice oa (woutL yl ⟨c, d, true⟩).length oc ∧ s20 = .bool (wasL yl ⟨c, d, true⟩) ∧ wx.ownsRow w.heap.size 50 3 (.slice oa (woutL yl ⟨c, d, true⟩).length oc) (woutL yl ⟨c, d, true⟩).length (lsCells (woutL yl ⟨c, d, true⟩)) ∧ Below wc.heap.size wc wx)
              case first =>
                go_region_held3 (fun w' => w'.cell? ⟨w.heap.size + 1, 2, none⟩ = some (.int .i64 (nb : Int)) ∧ w'.cell? ⟨tb, tf + nb, none⟩ = some (.slice ya yl.length yc) ∧ w'.cell? ⟨w.heap.size + 1, 3, none⟩ = some (.int .i64 c) ∧ w'.cell? ⟨w.heap.size + 1, 4, none⟩ = some (.int .i64 d))
                  (first | with_reducible exact ⟨drew_old q2, drew_old u1', drew_old q3, drew_old q4⟩ | with_reducible exact keepC4 hb1 (by assumption))
                  (first | (go_at_call 108; refine (rWithout_any ya yc yl ⟨c, d, true⟩ _ (u2'.below (Below.refl _ _).drew) (by omega)).mono ?_; rintro e w1 ⟨oa, oc, rfl, hown1, hb1⟩))
                all_goals (go_wp2_with fail; go_meet; exact ⟨oa, oc, rfl, rfl, own_base hown1 hsX, (Below.refl _ _).drew.trans hb1⟩)
              case rest =>
                rename_i wX
                obtain ⟨pa, pc, rfl, rfl, hownY, hbY⟩ := hcut
                have hBY := hBX.below hbY
                have HlY : Hid ((woutL yl ⟨c, d, true⟩).length ≤ 180) := Nat.le_trans (List.length_filter_le _ _) hy9
                have HwY : Hid (woutL yl ⟨c, d, true⟩ = inOrd (woutE sy.1 ⟨c, d, true⟩) (woutA sy.2 ⟨c, d, true⟩)) := by show _ = _; rw [HqB.out]; exact woutL_in HlT.out
                have HsY : Hid (wasL yl ⟨c, d, true⟩ = hasS sy.1 sy.2 ⟨c, d, true⟩) := by show _ = _; rw [HqB.out]; exact wasL_in HlT.out
                generalize woutL yl ⟨c, d, true⟩ = oy at *
                generalize wasL yl ⟨c, d, true⟩ = by' at *
                have hLx := litsAt_of_own (own_below hownX hbY)
                have hLy := litsAt_of_own hownY
                clear p0 p1 q0 q1 q2 q3 q4 u1' u2'
                have Hnx : Hid (nextB ts cs ss ⟨4, (na : Int), (nb : Int), c, d⟩ = (bx && by')) := by show _ = _; rw [Hn.out, Hok2.out, HsX.out, HsY.out]
                have Hres : Hid (withs (withs [] ox) oy = inOrd (nextS ts cs ss ⟨4, (na : Int), (nb : Int), c, d⟩).1 (nextS ts cs ss ⟨4, (na : Int), (nb : Int), c, d⟩).2) := by
                  show _ = _
                  rw [Hs.out, Hset.out, HwX.out, HwY.out, withs_two]
                have hown0 : wc.ownsRow w.heap.size 50 3 (.slice none 0 0) 0 (lsCells []) := ⟨rfl, .inl ⟨rfl, rfl⟩⟩
                have hlx := HlX.out
                have hly := HlY.out
                clear Hn Hs Hset Hok2 HwX HwY HsX HsY HqA HqB HlF HlT hownX hownY
                go_wp2_with fail
                go_loopg [12, 21] ox.length (fun q v s21 wx => ∃ (i : Nat) (out : List Lt), q = ox.length - i ∧ i ≤ ox.length ∧ s21 = .int .i64 i ∧ Hid (out = withs [] (ox.take i)) ∧ Below wc.heap.size wc wx ∧ wx.ownsRow w.heap.size 50 3 v out.length (lsCells out))
                case atStart => exact ⟨0, [], by omega, by omega, rfl, rfl, Below.refl _ _, hown0⟩
                case round =>
                  obtain ⟨i, out, rfl, hi, rfl, Ho, hbr, hown⟩ := hrel
                  obtain ⟨va, vc, rfl⟩ := own_val hown
                  have hol : out.length ≤ 200 := by
                    have h1 := withs_le (ox.take i) []
                    rw [← Ho.out, List.length_take] at h1
                    simp at h1
                    omega
                  have hBr := hBY.below hbr
                  have hsr := hBr.2.2.size
                  by_cases hlt : i < ox.length
                  · obtain ⟨xb, xo, hxe, xcell⟩ := (hLx.below hbr).get hlt
                    obtain ⟨x0, x1, x2⟩ := xcell i hlt
                    subst hxe
                    have Hst : Hid (withL out (ox.getD i lt0) = withs [] (ox.take (i + 1))) := by show _ = _; rw [take_snoc hlt, withs_snoc, ← Ho.out]
                    generalize ox.getD i lt0 = t at *
                    clear xcell
                    go_wp2_with fail
                    refine (rWith_any va vc out t wr (litsAt_of_own hown) (by omega)).mono ?_
                    rintro e w1 ⟨oa1, oc1, rfl, hown1, hb1⟩
                    go_wp2_with fail
                    go_roundg (ox.length - (i + 1))
                    case measure => omega
                    case rel => exact ⟨i + 1, _, rfl, by omega, by go_num, Hst, hbr.trans (hb1.mono hbr.size), own_base hown1 hsr⟩
                  · have e : ox.take i = ox := List.take_of_length_le (by omega)
                    rw [e] at Ho
                    clear e
                    have hol2 : out.length ≤ ox.length := by
                      have h1 := withs_le ox []
                      rw [← Ho.out] at h1
                      simpa using h1
                    have hLy2 := hLy.below hbr
                    go_wp2_with fail
                    go_loopg [12, 22] oy.length (fun q v s22 wx => ∃ (k : Nat) (out2 : List Lt), q = oy.length - k ∧ k ≤ oy.length ∧ s22 = .int .i64 k ∧ Hid (out2 = withs out (oy.take k)) ∧ Below wr.heap.size wr wx ∧ wx.ownsRow w.heap.size 50 3 v out2.length (lsCells out2))
                    case atStart => exact ⟨0, out, by omega, by omega, rfl, rfl, Below.refl _ _, hown⟩
                    case round =>
                      rename_i wq
                      obtain ⟨k, out2, rfl, hk, rfl, Ho2, hbq, hownq⟩ := hrel
                      obtain ⟨za, zc, rfl⟩ := own_val hownq
                      have hol3 : out2.length ≤ 400 := by
                        have h1 := withs_le (oy.take k) out
                        rw [← Ho2.out, List.length_take] at h1
                        omega
                      have hBq := hBr.below hbq
                      have hsq := hBq.2.2.size
                      by_cases hlt2 : k < oy.length
                      · obtain ⟨yb, yo, hye, ycell⟩ := (hLy2.below hbq).get hlt2
                        obtain ⟨y0, y1, y2⟩ := ycell k hlt2
                        subst hye
                        have Hst : Hid (withL out2 (oy.getD k lt0) = withs out (oy.take (k + 1))) := by show _ = _; rw [take_snoc hlt2, withs_snoc, ← Ho2.out]
                        generalize oy.getD k lt0 = t at *
                        clear ycell
                        go_wp2_with fail
                        refine (rWith_any za zc out2 t _ (litsAt_of_own hownq) (by omega)).mono ?_
                        rintro e w1 ⟨oa1, oc1, rfl, hown1, hb1⟩
                        go_wp2_with fail
                        go_roundg (oy.length - (k + 1))
                        case measure => omega
                        case rel => exact ⟨k + 1, _, rfl, by omega, by go_num, Hst, hbq.trans (hb1.mono hbq.size), own_base hown1 hsq⟩
                      · have e : oy.take k = oy := List.take_of_length_le (by omega)
                        rw [e, Ho.out, Hres.out] at Ho2
                        clear e
                        cases bx
                        · go_wp2_with fail
                          go_ret2
                          exact ⟨za, _, zc, (by rw [Hnx.out]; rfl), (fun h => by rw [Hnx.out] at h; cases h), hBq.2.2⟩
                        · go_wp2_with fail
                          go_ret2
                          refine ⟨za, _, zc, (by rw [Hnx.out]; rfl), fun _ => ?_, hBq.2.2⟩
                          rw [← Ho2.out]
                          exact ⟨rfl, hownq⟩
end Go.Proofs.Ytjebhhoibofmfaa
