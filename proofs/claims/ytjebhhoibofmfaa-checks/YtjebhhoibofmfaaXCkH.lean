import Derived.Test.YtjebhhoibofmfaaXCkE
namespace Go.Proofs.Ytjebhhoibofmfaa
open Go.RowKit

theorem congL_set (a b : Int) (xs ys : List Int) (k : Nat) :
    inOrd (ofL (((List.range k).map fun i => (⟨xs.getD i 0, ys.getD i 0, true⟩ : Lt)) ++ [⟨a, b, false⟩]) (0, 0)).1 (ofL (((List.range k).map fun i => (⟨xs.getD i 0, ys.getD i 0, true⟩ : Lt)) ++ [⟨a, b, false⟩]) (0, 0)).2 =
      inOrd (ofL (congL a b xs ys k) (0, 0)).1 (ofL (congL a b xs ys k) (0, 0)).2 := by
  refine inOrd_congr (fun u _ => ?_)
  rw [ofL_has, ofL_has]
  unfold congL
  rw [List.any_append, List.any_cons]
  simp [Bool.or_comm]

theorem argL_low {xs ys : List Int} {n k : Nat} (h9 : n ≤ 9) (hx : ∀ i, i < k → 0 ≤ xs.getD i 0 ∧ xs.getD i 0 < (n : Int)) (hy : ∀ i, i < k → 0 ≤ ys.getD i 0 ∧ ys.getD i 0 < (n : Int)) :
    ∀ t ∈ (List.range k).map (fun i => (⟨xs.getD i 0, ys.getD i 0, true⟩ : Lt)), LowL 9 t := by
  intro t ht
  obtain ⟨i, hi, rfl⟩ := List.mem_map.1 ht
  have hi := List.mem_range.1 hi
  have h1 := hx i hi
  have h2 := hy i hi
  exact ⟨h1.1, by show xs.getD i 0 < 9; omega, h2.1, by show ys.getD i 0 < 9; omega⟩

set_option maxRecDepth 100000 in
set_option maxHeartbeats 8000000 in
set_option linter.unusedVariables false in
theorem one_cong_any (ta sa aa : Option Addr) (tc sc ac : Nat) (ts : List Tm) (cs qs : List Cl) (ss : List (Nat × Nat)) (s : St) (w : World) (ht : TermsAt w ta ts) (hcs : ClausesAt w sa cs) (hq : ClausesAt w aa qs) (hts : termsB ts = true) (hcl : clausesB ts.length cs = true)
    (hql : qs.length = ss.length) (hqi : ∀ i, i < ss.length → (qs.getD i cl0).ls = inOrd (ss.getD i (0, 0)).1 (ss.getD i (0, 0)).2) (hr : s.r = 3) :
    Calls Try.prog 81 #[.agg #[.slice ta ts.length tc, .slice sa cs.length sc], .agg #[.int .i64 s.r, .int .i64 s.a, .int .i64 s.b, .int .i64 s.c, .int .i64 s.d], .slice aa qs.length ac] w fun e w' => OneEnds w w' e (nextB ts cs ss s) (nextS ts cs ss s) := by
  have h9 := (len_of hts).2
  have Hts := hide hts
  have Hcl := hide hcl
  have Hqi := hide hqi
  have Hql := hide hql
  obtain ⟨r, a, b, c, d⟩ := s
  simp only at hr
  subst hr
  have hB := BX.start w (.slice ta ts.length tc) (.slice sa cs.length sc) ⟨3, a, b, c, d⟩
  go_enter Try.func81, Try.ntmps81
  go_upto_region 1 with fail
  simp only at hB
  generalize hW : (w.alloc _).alloc _ = W at *
  obtain ⟨p0, p1, q0, q1, q2, q3, q4⟩ := hB.cells
  simp only at q0 q1 q2 q3 q4
  clear hW hts hcl hqi hql
  go_upto_region 2 with fail
  go_cut [9] from 26 to 34 (fun s9 wx => s9 = .bool (belowB a (ts.length : Nat)) ∧ W = wx)
  case first =>
    by_cases h1 : 0 ≤ a
    · go_wp2_with fail
      go_meet
      exact ⟨by rw [belowB, decide_eq_true h1, Bool.true_and], rfl⟩
    · have h1' : decide (0 ≤ a) = false := by simpa using h1
      go_wp2_with fail
      go_meet
      exact ⟨by rw [belowB, h1']; rfl, rfl⟩
  case rest =>
    obtain ⟨rfl, rfl⟩ := hcut
    go_upto_region 3 with fail
    go_cut [10] from 35 to 43 (fun s9 wx => s9 = .bool (belowB b (ts.length : Nat)) ∧ W = wx)
    case first =>
      by_cases h1 : 0 ≤ b
      · go_wp2_with fail
        go_meet
        exact ⟨by rw [belowB, decide_eq_true h1, Bool.true_and], rfl⟩
      · have h1' : decide (0 ≤ b) = false := by simpa using h1
        go_wp2_with fail
        go_meet
        exact ⟨by rw [belowB, h1']; rfl, rfl⟩
    case rest =>
      obtain ⟨rfl, rfl⟩ := hcut
      go_upto_region 4 with fail
      go_cut [11] from 44 to 52 (fun s9 wx => s9 = .bool (belowB c (ts.length : Nat)) ∧ W = wx)
      case first =>
        by_cases h1 : 0 ≤ c
        · go_wp2_with fail
          go_meet
          exact ⟨by rw [belowB, decide_eq_true h1, Bool.true_and], rfl⟩
        · have h1' : decide (0 ≤ c) = false := by simpa using h1
          go_wp2_with fail
          go_meet
          exact ⟨by rw [belowB, h1']; rfl, rfl⟩
      case rest =>
        obtain ⟨rfl, rfl⟩ := hcut
        generalize hba : belowB a (ts.length : Nat) = ba at *
        generalize hbb : belowB b (ts.length : Nat) = bb at *
        generalize hbc : belowB c (ts.length : Nat) = bc at *
        have Ha := hide hba
        have Hb := hide hbb
        have Hc := hide hbc
        clear hba hbb hbc
        have Hn : Hid (nextB ts cs ss ⟨3, a, b, c, d⟩ = okC ts ⟨3, a, b, c, d⟩) := by show _ = _; simp [nextB]
        have Hs : Hid (nextS ts cs ss ⟨3, a, b, c, d⟩ = setC ts ⟨3, a, b, c, d⟩) := by show _ = _; simp [nextS]
        have Hok : Hid (okC ts ⟨3, a, b, c, d⟩ = ((ba && bb && (decide (c = 0) && decide (d = 0))) && alikeB (ts.getD a.toNat tm0).sym (ts.getD b.toNat tm0).sym (ts.getD a.toNat tm0).args.length (ts.getD b.toNat tm0).args.length)) := by
          show _ = _
          unfold okC
          rw [allLow_2, allNil_2, Ha.out, Hb.out]
        go_upto_region 24 with fail
        go_cut [185] from 170 to 184 (fun s185 wx => s185 = .bool (!(ba && bb && (decide (c = 0) && decide (d = 0)))) ∧ W = wx)
        case first =>
          cases ba
          · go_wp2_with fail
            go_meet
            exact ⟨rfl, rfl⟩
          · cases bb
            · go_wp2_with fail
              go_meet
              exact ⟨rfl, rfl⟩
            · by_cases e2 : c = 0
              · subst e2
                by_cases e3 : d = 0
                · subst e3
                  go_wp2_with fail
                  go_meet
                  exact ⟨rfl, rfl⟩
                · have e3' : (d != 0) = true := by simpa using e3
                  go_wp2_with fail
                  go_meet
                  exact ⟨by simp [e3], rfl⟩
              · have e2' : (c != 0) = true := by simpa using e2
                go_wp2_with fail
                go_meet
                exact ⟨by simp [e2], rfl⟩
        case rest =>
          obtain ⟨rfl, rfl⟩ := hcut
          cases hg : (ba && bb && (decide (c = 0) && decide (d = 0)))
          · have Hno : Hid (nextB ts cs ss ⟨3, a, b, c, d⟩ = false) := by show _ = _; rw [Hn.out, Hok.out, hg]; rfl
            go_wp2_with fail
            go_ret2
            exact ⟨none, 0, 0, (by rw [Hno.out]; rfl), (fun h => absurd (Hno.out.symm.trans h) (by decide)), hB.2.2⟩
          · have Hg := hide hg
            rw [Bool.and_eq_true, Bool.and_eq_true] at hg
            obtain ⟨⟨g1, g2⟩, _⟩ := hg
            have ha := belowB_iff.1 (Ha.out.trans g1)
            have hb := belowB_iff.1 (Hb.out.trans g2)
            obtain ⟨na, hna⟩ := Int.eq_ofNat_of_zero_le ha.1
            obtain ⟨nb, hnb⟩ := Int.eq_ofNat_of_zero_le hb.1
            subst hna
            subst hnb
            have hla : na < ts.length := by omega
            have hlb : nb < ts.length := by omega
            have hlow : LowL 9 ⟨(na : Int), (nb : Int), false⟩ := low_of h9 (Ha.out.trans g1) (Hb.out.trans g2)
            have Hlow := hide hlow
            have ai := argsIn_of Hts.out (Nat.le_refl _) na hla
            have aj := argsIn_of Hts.out (Nat.le_refl _) nb hlb
            have Hset : Hid (setC ts ⟨3, (na : Int), (nb : Int), c, d⟩ = ofL (congL na nb (ts.getD na tm0).args (ts.getD nb tm0).args (ts.getD na tm0).args.length) (0, 0)) := rfl
            have Hok2 : Hid (okC ts ⟨3, (na : Int), (nb : Int), c, d⟩ = alikeB (ts.getD na tm0).sym (ts.getD nb tm0).sym (ts.getD na tm0).args.length (ts.getD nb tm0).args.length) := by
              show _ = _
              rw [Hok.out, Hg.out]; rfl
            clear hlow ha hb g1 g2 Hok Hg
            obtain ⟨tb, tf, rfl, tcell⟩ := ht.get hla
            obtain ⟨t1, t2, t3⟩ := tcell na hla
            obtain ⟨u1, u2, u3⟩ := tcell nb hlb
            clear tcell
            generalize ts.getD na tm0 = tx at *
            generalize ts.getD nb tm0 = ty at *
            obtain ⟨xs, xa, xc, xl⟩ := tx
            obtain ⟨ys, ya, yc, yl⟩ := ty
            simp only at t1 t2 t3 u1 u2 u3 ai aj Hset Hok2
            have hx2 := ai.1
            have Hax := hide ai.2
            have Hay := hide aj.2
            clear ai aj
            have t1' := cell_below hB.2.2 t1
            have t2' := cell_below hB.2.2 t2
            have u1' := cell_below hB.2.2 u1
            have u2' := cell_below hB.2.2 u2
            obtain ⟨W2, hW2⟩ : ∃ W2, W2 = (W.alloc (.cells #[.int .i64 xs, .slice xa xl.length xc] 77)).alloc (.cells #[.int .i64 ys, .slice ya yl.length yc] 77) := ⟨_, rfl⟩
            have hb2 : Below W.heap.size W W2 := by rw [hW2]; exact ((Below.refl _ _).alloc (Nat.le_refl _) _).alloc (by simp) _
            have v0 : W2.cell? ⟨W.heap.size, 0, none⟩ = some (.int .i64 xs) := by rw [hW2]; simp
            have v1 : W2.cell? ⟨W.heap.size, 1, none⟩ = some (.slice xa xl.length xc) := by rw [hW2]; simp
            have v2 : W2.cell? ⟨W.heap.size + 1, 0, none⟩ = some (.int .i64 ys) := by rw [hW2]; simp
            have v3 : W2.cell? ⟨W.heap.size + 1, 1, none⟩ = some (.slice ya yl.length yc) := by rw [hW2]; simp
            have hB2 := hB.below hb2
            have z0 := block_lt p0
            have z1 := block_lt q0
            have z2 := block_lt t1'
            go_upto_region 28 with fail
            rw [← hW2]
            clear hW2 t1' t2' u1' u2' p0 p1 q0 q1 q2 q3 q4
            go_cut [211] from 198 to 210 (fun s211 wx => s211 = .bool (!alikeB xs ys xl.length yl.length) ∧ W2 = wx)
            case first =>
              by_cases e1 : xs = ys
              · subst e1
                have e1' : (xs != xs) = false := by simp
                by_cases e2 : xl.length = yl.length
                · have e2' : ((xl.length : Int) != (yl.length : Int)) = false := by simp [e2]
                  go_wp2_with fail
                  go_meet
                  exact ⟨by simp [alikeB, e2], rfl⟩
                · have e2' : ((xl.length : Int) != (yl.length : Int)) = true := by simp; omega
                  go_wp2_with fail
                  go_meet
                  exact ⟨by simp [alikeB, e2], rfl⟩
              · have e1' : (xs != ys) = true := by simpa using e1
                go_wp2_with fail
                go_meet
                exact ⟨by simp [alikeB, e1], rfl⟩
            case rest =>
              obtain ⟨rfl, rfl⟩ := hcut
              have Hnx : Hid (nextB ts cs ss ⟨3, (na : Int), (nb : Int), c, d⟩ = alikeB xs ys xl.length yl.length) := by show _ = _; rw [Hn.out, Hok2.out]
              cases hal : alikeB xs ys xl.length yl.length
              · go_wp2_with fail
                go_ret2
                exact ⟨none, 0, 0, (by rw [Hnx.out, hal]; rfl), (fun h => absurd ((Hnx.out.trans hal).symm.trans h) (by decide)), hB2.2.2⟩
              · have hll : xl.length = yl.length := by
                  simp only [alikeB, Bool.and_eq_true, decide_eq_true_eq] at hal
                  exact hal.2
                have Hll := hide hll
                have Hal := hide hal
                clear hll hal
                have hown0 : W2.ownsRow w.heap.size 50 3 (.slice none 0 0) 0 (lsCells []) := ⟨rfl, .inl ⟨rfl, rfl⟩⟩
                go_wp2_with fail
                go_loopg [12, 16] xl.length (fun q v s16 wx => ∃ (i : Nat) (out : List Lt), q = xl.length - i ∧ i ≤ xl.length ∧ s16 = .int .i64 i ∧ Hid (out = withs [] ((List.range i).map fun k => (⟨xl.getD k 0, yl.getD k 0, true⟩ : Lt))) ∧ Below W2.heap.size W2 wx ∧ wx.ownsRow w.heap.size 50 3 v out.length (lsCells out))
                case atStart => exact ⟨0, [], by omega, by omega, rfl, rfl, Below.refl _ _, hown0⟩
                case round =>
                  obtain ⟨i, out, rfl, hi, rfl, Ho, hbr, hown⟩ := hrel
                  obtain ⟨va, vc, rfl⟩ := own_val hown
                  have hBr := hB2.below hbr
                  have v0' := cell_below hbr v0
                  have v1' := cell_below hbr v1
                  have v2' := cell_below hbr v2
                  have v3' := cell_below hbr v3
                  have hol : out.length ≤ 2 := by
                    have h1 := withs_le ((List.range i).map fun k => (⟨xl.getD k 0, yl.getD k 0, true⟩ : Lt)) []
                    rw [← Ho.out, List.length_map, List.length_range] at h1
                    simp at h1
                    omega
                  have hsr := hBr.2.2.size
                  by_cases hlt : i < xl.length
                  · have hlt2 : i < yl.length := by have := Hll.out; omega
                    obtain ⟨xb, xo, hxe, xcell⟩ := (t3.below hBr.2.2).get hlt
                    obtain ⟨yb, yo, hye, ycell⟩ := (u3.below hBr.2.2).get hlt2
                    have x1 := xcell i hlt
                    have y1 := ycell i hlt2
                    subst hxe
                    subst hye
                    have Hst : Hid (withL out ⟨xl.getD i 0, yl.getD i 0, true⟩ = withs [] ((List.range (i + 1)).map fun k => (⟨xl.getD k 0, yl.getD k 0, true⟩ : Lt))) := by
                      show _ = _
                      rw [List.range_succ, List.map_append, List.map_singleton, withs_snoc, ← Ho.out]
                    generalize xl.getD i 0 = gx at *
                    generalize yl.getD i 0 = gy at *
                    clear xcell ycell
                    go_upto_region 33 with fail
                    go_region_held3 (fun w' => w'.cell? ⟨W.heap.size, 1, none⟩ = some (.slice (some ⟨xb, xo, none⟩) xl.length xc) ∧ w'.cell? ⟨W.heap.size + 1, 1, none⟩ = some (.slice (some ⟨yb, yo, none⟩) yl.length yc) ∧ w'.cell? ⟨xb, xo + i, none⟩ = some (.int .i64 gx) ∧ w'.cell? ⟨yb, yo + i, none⟩ = some (.int .i64 gy))
                      (first | with_reducible exact ⟨drew_old v1', drew_old v3', drew_old x1, drew_old y1⟩ | with_reducible exact keepC4 hb1 (by assumption))
                      (first | (go_at_call 107; refine (rWith_any va vc out ⟨gx, gy, true⟩ _ ((litsAt_of_own hown).below (Below.refl _ _).drew) (by omega)).mono ?_; rintro e w1 ⟨oa, oc, rfl, hown1, hb1⟩))
                    go_wp2_with fail
                    go_roundg (xl.length - (i + 1))
                    case measure => omega
                    case rel => exact ⟨i + 1, _, rfl, by omega, by go_num, Hst, hbr.trans (((Below.refl _ _).drew.trans hb1).mono hbr.size), own_base hown1 hsr⟩
                  · have e : i = xl.length := by omega
                    subst e
                    obtain ⟨p0, p1, q0, q1, q2, q3, q4⟩ := hBr.cells
                    simp only at q0 q1 q2 q3 q4
                    go_wp2_with fail
                    refine (rWith_any va vc out ⟨(na : Int), (nb : Int), false⟩ wr (litsAt_of_own hown) (by omega)).mono ?_
                    rintro e w1 ⟨oa, oc, rfl, hown1, hb1⟩
                    have hB1 := hBr.below hb1
                    have He : Hid (withL out ⟨(na : Int), (nb : Int), false⟩ = inOrd (nextS ts cs ss ⟨3, (na : Int), (nb : Int), c, d⟩).1 (nextS ts cs ss ⟨3, (na : Int), (nb : Int), c, d⟩).2) := by
                      show _ = _
                      rw [Hs.out, Hset.out, ← congL_set, Ho.out, ← withs_snoc]
                      refine withs_all (fun t ht => ?_)
                      rcases List.mem_append.1 ht with h | h
                      · exact argL_low h9 Hax.out (fun i hi => Hay.out i (by have := Hll.out; omega)) t h
                      · rw [List.mem_singleton.1 h]; exact Hlow.out
                    generalize withL out ⟨(na : Int), (nb : Int), false⟩ = res at *
                    go_wp2_with fail
                    go_ret2
                    refine ⟨oa, _, oc, (by rw [Hnx.out, Hal.out]; rfl), fun _ => ?_, hB1.2.2⟩
                    rw [← He.out]
                    exact ⟨rfl, own_base hown1 hsr⟩
end Go.Proofs.Ytjebhhoibofmfaa
