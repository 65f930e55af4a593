import Derived.Test.YtmampmbnjdncjaaDMCx
namespace Go.Proofs.Ytmampmbnjdncjaa
open Go.RowKit
theorem congL_set (a b : Int) (xs ys : List Int) (k : Nat) :
    inOrd (ofL (((List.range k).map fun i => (⟨xs.getD i 0, ys.getD i 0, true⟩ : Lt)) ++ [⟨a, b, false⟩]) (0, 0)).1 (ofL (((List.range k).map fun i => (⟨xs.getD i 0, ys.getD i 0, true⟩ : Lt)) ++ [⟨a, b, false⟩]) (0, 0)).2 =
      inOrd (ofL (congL a b xs ys k) (0, 0)).1 (ofL (congL a b xs ys k) (0, 0)).2 := by
  refine inOrd_congr (fun u _ => ?_)
  rw [ofL_has, ofL_has]
  unfold congL
  rw [List.any_append, List.any_cons]
  simp [Bool.or_comm]
theorem argL_low {xs ys : List Int} {n k : Nat} (h9 : n ≤ 9) (hx : ∀ i, i < k → 0 ≤ xs.getD i 0 ∧ xs.getD i 0 < (n : Int)) (hy : ∀ i, i < k → 0 ≤ ys.getD i 0 ∧ ys.getD i 0 < (n : Int)) :
    ∀ t ∈ (List.range k).map (fun i => (⟨xs.getD i 0, ys.getD i 0, true⟩ : Lt)), LowL 9 t := by
  intro t ht
  obtain ⟨i, hi, rfl⟩ := List.mem_map.1 ht
  have hi := List.mem_range.1 hi
  have h1 := hx i hi
  have h2 := hy i hi
  exact ⟨h1.1, by show xs.getD i 0 < 9; omega, h2.1, by show ys.getD i 0 < 9; omega⟩
set_option maxRecDepth 100000 in
set_option maxHeartbeats 8000000 in
set_option linter.unusedVariables false in
theorem one_cong_any (ta sa aa : Option Addr) (tc sc ac : Nat) (ts : List Tm) (cs qs : List Cl) (ss : List (Nat × Nat)) (s : St) (w : World) (ht : TermsAt w ta ts) (hcs : ClausesAt w sa cs) (hq : ClausesAt w aa qs) (hts : termsB ts = true) (hcl : clausesB ts.length cs = true)
    (hql : qs.length = ss.length) (hqi : ∀ i, i < ss.length → (qs.getD i cl0).ls = inOrd (ss.getD i (0, 0)).1 (ss.getD i (0, 0)).2) (hr : s.r = 3) :
    Calls Try.prog 75 #[.agg #[.slice ta ts.length tc, .slice sa cs.length sc], .agg #[.int .i64 s.r, .int .i64 s.a, .int .i64 s.b, .int .i64 s.c, .int .i64 s.d], .slice aa qs.length ac] w fun e w' => OneEnds w w' e (nextB ts cs ss s) (nextS ts cs ss s) := by
  have h9 := (len_of hts).2
  have Hts := hide hts
  have Hcl := hide hcl
  have Hqi := hide hqi
  have Hql := hide hql
  obtain ⟨r, a, b, c, d⟩ := s
  simp only at hr
  subst hr
  have hB := BX.start w (.slice ta ts.length tc) (.slice sa cs.length sc) ⟨3, a, b, c, d⟩
  go_enter Try.func75, Try.ntmps75
  go_upto_region 1 with fail
  simp only at hB
  generalize hW : (w.alloc _).alloc _ = W at *
  obtain ⟨p0, p1, q0, q1, q2, q3, q4⟩ := hB.cells
  simp only at q0 q1 q2 q3 q4
  clear hW hts hcl hqi hql
  go_upto_region 2 with fail
  go_cut [9] from 26 to 34 (fun s9 wx => s9 = .bool (belowB a (ts.length : Nat)) ∧ W = wx)
  case first =>
    by_cases h1 : 0 ≤ a
    · go_wp2_with fail
      go_meet
      exact ⟨by rw [belowB, decide_eq_true h1, Bool.true_and], rfl⟩
    · have h1' : decide (0 ≤ a) = false := by simpa using h1
      go_wp2_with fail
      go_meet
      exact ⟨by rw [belowB, h1']; rfl, rfl⟩
  case rest =>
    obtain ⟨rfl, rfl⟩ := hcut
    go_upto_region 3 with fail
    go_cut [10] from 35 to 43 (fun s9 wx => s9 = .bool (belowB b (ts.length : Nat)) ∧ W = wx)
    case first =>
      by_cases h1 : 0 ≤ b
      · go_wp2_with fail
        go_meet
        exact ⟨by rw [belowB, decide_eq_true h1, Bool.true_and], rfl⟩
      · have h1' : decide (0 ≤ b) = false := by simpa using h1
        go_wp2_with fail
        go_meet
        exact ⟨by rw [belowB, h1']; rfl, rfl⟩
    case rest =>
      obtain ⟨rfl, rfl⟩ := hcut
      go_upto_region 4 with fail
      go_cut [11] from 44 to 52 (fun s9 wx => s9 = .bool (belowB c (ts.length : Nat)) ∧ W = wx)
      case first =>
        by_cases h1 : 0 ≤ c
        · go_wp2_with fail
          go_meet
          exact ⟨by rw [belowB, decide_eq_true h1, Bool.true_and], rfl⟩
        · have h1' : decide (0 ≤ c) = false := by simpa using h1
          go_wp2_with fail
          go_meet
          exact ⟨by rw [belowB, h1']; rfl, rfl⟩
      case rest =>
        obtain ⟨rfl, rfl⟩ := hcut
        generalize hba : belowB a (ts.length : Nat) = ba at *
        generalize hbb : belowB b (ts.length : Nat) = bb at *
        generalize hbc : belowB c (ts.length : Nat) = bc at *
        have Ha := hide hba
        have Hb := hide hbb
        have Hc := hide hbc
        clear hba hbb hbc
        have Hn : Hid (nextB ts cs ss ⟨3, a, b, c, d⟩ = okC ts ⟨3, a, b, c, d⟩) := by show _ = _; simp [nextB]
        have Hs : Hid (nextS ts cs ss ⟨3, a, b, c, d⟩ = setC ts ⟨3, a, b, c, d⟩) := by show _ = _; simp [nextS]
        have Hok : Hid (okC ts ⟨3, a, b, c, d⟩ = ((ba && bb && (decide (c = 0) && decide (d = 0))) && alikeB (ts.getD a.toNat tm0).sym (ts.getD b.toNat tm0).sym (ts.getD a.toNat tm0).args.length (ts.getD b.toNat tm0).args.length)) := by
          show _ = _
          unfold okC
          rw [allLow_2, allNil_2, Ha.out, Hb.out]
        go_upto_region 24 with fail
        go_cut [185] from 170 to 184 (fun s185 wx => s185 = .bool (!(ba && bb && (decide (c = 0) && decide (d = 0)))) ∧ W = wx)
        case first =>
          cases ba
          · go_wp2_with fail
            go_meet
            exact ⟨rfl, rfl⟩
          · cases bb
            · go_wp2_with fail
              go_meet
              exact ⟨rfl, rfl⟩
            · by_cases e2 : c = 0
              · subst e2
                by_cases e3 : d = 0
                · subst e3
                  go_wp2_with fail
                  go_meet
                  exact ⟨rfl, rfl⟩
                · have e3' : (d != 0) = true := by simpa using e3
                  go_wp2_with fail
                  go_meet
                  exact ⟨by simp [e3], rfl⟩
              · have e2' : (c != 0) = true := by simpa using e2
                go_wp2_with fail
                go_meet
                exact ⟨by simp [e2], rfl⟩
        case rest =>
          obtain ⟨rfl, rfl⟩ := hcut
          cases hg : (ba && bb && (decide (c = 0) && decide (d = 0)))
          · have Hno : Hid (nextB ts cs ss ⟨3, a, b, c, d⟩ = false) := by show _ = _; rw [Hn.out, Hok.out, hg]; rfl
            go_wp2_with fail
            go_ret2
            exact ⟨none, 0, 0, (by rw [Hno.out]; rfl), (fun h => absurd (Hno.out.symm.trans h) (by decide)), hB.2.2⟩
          · have Hg := hide hg
            rw [Bool.and_eq_true, Bool.and_eq_true] at hg
            obtain ⟨⟨g1, g2⟩, _⟩ := hg
            have ha := belowB_iff.1 (Ha.out.trans g1)
            have hb := belowB_iff.1 (Hb.out.trans g2)
            obtain ⟨na, hna⟩ := Int.eq_ofNat_of_zero_le ha.1
            obtain ⟨nb, hnb⟩ := Int.eq_ofNat_of_zero_le hb.1
            subst hna
            subst hnb
            have hla : na < ts.length := by omega
            have hlb : nb < ts.length := by omega
            have hlow : LowL 9 ⟨(na : Int), (nb : Int), false⟩ := low_of h9 (Ha.out.trans g1) (Hb.out.trans g2)
            have Hlow := hide hlow
            have ai := argsIn_of Hts.out (Nat.le_refl _) na hla
            have aj := argsIn_of Hts.out (Nat.le_refl _) nb hlb
            have Hset : Hid (setC ts ⟨3, (na : Int), (nb : Int), c, d⟩ = ofL (congL na nb (ts.getD na tm0).args (ts.getD nb tm0).args (ts.getD na tm0).args.length) (0, 0)) := rfl
            have Hok2 : Hid (okC ts ⟨3, (na : Int), (nb : Int), c, d⟩ = alikeB (ts.getD na tm0).sym (ts.getD nb tm0).sym (ts.getD na tm0).args.length (ts.getD nb tm0).args.length) := by
              show _ = _
              rw [Hok.out, Hg.out]; rfl
            clear hlow ha hb g1 g2 Hok Hg
            obtain ⟨tb, tf, rfl, tcell⟩ := ht.get hla
            obtain ⟨t1, t2, t3⟩ := tcell na hla
            obtain ⟨u1, u2, u3⟩ := tcell nb hlb
            clear tcell
            generalize ts.getD na tm0 = tx at *
            generalize ts.getD nb tm0 = ty at *
            obtain ⟨xs, xa, xc, xl⟩ := tx
            obtain ⟨ys, ya, yc, yl⟩ := ty
            simp only at t1 t2 t3 u1 u2 u3 ai aj Hset Hok2
            have hx2 := ai.1
            have Hax := hide ai.2
            have Hay := hide aj.2
            clear ai aj
            have t1' := cell_below hB.2.2 t1
            have t2' := cell_below hB.2.2 t2
            have u1' := cell_below hB.2.2 u1
            have u2' := cell_below hB.2.2 u2
            obtain ⟨W2, hW2⟩ : ∃ W2, W2 = (W.alloc (.cells #[.int .i64 xs, .slice xa xl.length xc] 73)).alloc (.cells #[.int .i64 ys, .slice ya yl.length yc] 73) := ⟨_, rfl⟩
            have hb2 : Below W.heap.size W W2 := by rw [hW2]; exact ((Below.refl _ _).alloc (Nat.le_refl _) _).alloc (by simp) _
            have v0 : W2.cell? ⟨W.heap.size, 0, none⟩ = some (.int .i64 xs) := by rw [hW2]; simp
            have v1 : W2.cell? ⟨W.heap.size, 1, none⟩ = some (.slice xa xl.length xc) := by rw [hW2]; simp
            have v2 : W2.cell? ⟨W.heap.size + 1, 0, none⟩ = some (.int .i64 ys) := by rw [hW2]; simp
            have v3 : W2.cell? ⟨W.heap.size + 1, 1, none⟩ = some (.slice ya yl.length yc) := by rw [hW2]; simp
            have hB2 := hB.below hb2
            have z0 := block_lt p0
            have z1 := block_lt q0
            have z2 := block_lt t1'
            go_upto_region 28 with fail
            rw [← hW2]
            clear hW2 t1' t2' u1' u2' p0 p1 q0 q1 q2 q3 q4
            go_cut [211] from 198 to 210 (fun s211 wx => s211 = .bool (!alikeB xs ys xl.length yl.length) ∧ W2 = wx)
            case first =>
              by_cases e1 : xs = ys
              · subst e1
                have e1' : (xs != xs) = false := by simp
                by_cases e2 : xl.length = yl.length
                · have e2' : ((xl.length : Int) != (yl.length : Int)) = false := by simp [e2]
                  go_wp2_with fail
                  go_meet
                  exact ⟨by simp [alikeB, e2], rfl⟩
                · have e2' : ((xl.length : Int) != (yl.length : Int)) = true := by simp; omega
                  go_wp2_with fail
                  go_meet
                  exact ⟨by simp [alikeB, e2], rfl⟩
              · have e1' : (xs != ys) = true := by simpa using e1
                go_wp2_with fail
                go_meet
                exact ⟨by simp [alikeB, e1], rfl⟩
            case rest =>
              obtain ⟨rfl, rfl⟩ := hcut
              have Hnx : Hid (nextB ts cs ss ⟨3, (na : Int), (nb : Int), c, d⟩ = alikeB xs ys xl.length yl.length) := by show _ = _; rw [Hn.out, Hok2.out]
              cases hal : alikeB xs ys xl.length yl.length
              · go_wp2_with fail
                go_ret2
                exact ⟨none, 0, 0, (by rw [Hnx.out, hal]; rfl), (fun h => absurd ((Hnx.out.trans hal).symm.trans h) (by decide)), hB2.2.2⟩
              · have hll : xl.length = yl.length := by
                  simp only [alikeB, Bool.and_eq_true, decide_eq_true_eq] at hal
                  exact hal.2
                have Hll := hide hll
                have Hal := hide hal
                clear hll hal
                have hown0 : W2.ownsRow w.heap.size 50 3 (.slice none 0 0) 0 (lsCells []) := ⟨rfl, .inl ⟨rfl, rfl⟩⟩
                go_wp2_with fail
                go_loopg [12, 16] xl.length (fun q v s16 wx => ∃ (i : Nat) (out : List Lt), q = xl.length - i ∧ i ≤ xl.length ∧ s16 = .int .i64 i ∧ Hid (out = withs [] ((List.range i).map fun k => (⟨xl.getD k 0, yl.getD k 0, true⟩ : Lt))) ∧ Below W2.heap.size W2 wx ∧ wx.ownsRow w.heap.size 50 3 v out.length (lsCells out))
                case atStart => exact ⟨0, [], by omega, by omega, rfl, rfl, Below.refl _ _, hown0⟩
                case round =>
                  obtain ⟨i, out, rfl, hi, rfl, Ho, hbr, hown⟩ := hrel
                  obtain ⟨va, vc, rfl⟩ := own_val hown
                  have hBr := hB2.below hbr
                  have v0' := cell_below hbr v0
                  have v1' := cell_below hbr v1
                  have v2' := cell_below hbr v2
                  have v3' := cell_below hbr v3
                  have hol : out.length ≤ 2 := by
                    have h1 := withs_le ((List.range i).map fun k => (⟨xl.getD k 0, yl.getD k 0, true⟩ : Lt)) []
                    rw [← Ho.out, List.length_map, List.length_range] at h1
                    simp at h1
                    omega
                  have hsr := hBr.2.2.size
                  by_cases hlt : i < xl.length
                  · have hlt2 : i < yl.length := by have := Hll.out; omega
                    obtain ⟨xb, xo, hxe, xcell⟩ := (t3.below hBr.2.2).get hlt
                    obtain ⟨yb, yo, hye, ycell⟩ := (u3.below hBr.2.2).get hlt2
                    have x1 := xcell i hlt
                    have y1 := ycell i hlt2
                    subst hxe
                    subst hye
                    have Hst : Hid (withL out ⟨xl.getD i 0, yl.getD i 0, true⟩ = withs [] ((List.range (i + 1)).map fun k => (⟨xl.getD k 0, yl.getD k 0, true⟩ : Lt))) := by
                      show _ = _
                      rw [List.range_succ, List.map_append, List.map_singleton, withs_snoc, ← Ho.out]
                    generalize xl.getD i 0 = gx at *
                    generalize yl.getD i 0 = gy at *
                    clear xcell ycell
                    go_upto_region 33 with fail
                    go_region_held3 (fun w' => w'.cell? ⟨W.heap.size, 1, none⟩ = some (.slice (some ⟨xb, xo, none⟩) xl.length xc) ∧ w'.cell? ⟨W.heap.size + 1, 1, none⟩ = some (.slice (some ⟨yb, yo, none⟩) yl.length yc) ∧ w'.cell? ⟨xb, xo + i, none⟩ = some (.int .i64 gx) ∧ w'.cell? ⟨yb, yo + i, none⟩ = some (.int .i64 gy))
                      (first | with_reducible exact ⟨drew_old v1', drew_old v3', drew_old x1, drew_old y1⟩ | with_reducible exact keepC4 hb1 (by assumption))
                      (first | (go_at_call 84; refine (rWith_any va vc out ⟨gx, gy, true⟩ _ ((litsAt_of_own hown).below (Below.refl _ _).drew) (by omega)).mono ?_; rintro e w1 ⟨oa, oc, rfl, hown1, hb1⟩))
                    go_wp2_with fail
                    go_roundg (xl.length - (i + 1))
                    case measure => omega
                    case rel => exact ⟨i + 1, _, rfl, by omega, by go_num, Hst, hbr.trans (((Below.refl _ _).drew.trans hb1).mono hbr.size), own_base hown1 hsr⟩
                  · have e : i = xl.length := by omega
                    subst e
                    obtain ⟨p0, p1, q0, q1, q2, q3, q4⟩ := hBr.cells
                    simp only at q0 q1 q2 q3 q4
                    go_wp2_with fail
                    refine (rWith_any va vc out ⟨(na : Int), (nb : Int), false⟩ wr (litsAt_of_own hown) (by omega)).mono ?_
                    rintro e w1 ⟨oa, oc, rfl, hown1, hb1⟩
                    have hB1 := hBr.below hb1
                    have He : Hid (withL out ⟨(na : Int), (nb : Int), false⟩ = inOrd (nextS ts cs ss ⟨3, (na : Int), (nb : Int), c, d⟩).1 (nextS ts cs ss ⟨3, (na : Int), (nb : Int), c, d⟩).2) := by
                      show _ = _
                      rw [Hs.out, Hset.out, ← congL_set, Ho.out, ← withs_snoc]
                      refine withs_all (fun t ht => ?_)
                      rcases List.mem_append.1 ht with h | h
                      · exact argL_low h9 Hax.out (fun i hi => Hay.out i (by have := Hll.out; omega)) t h
                      · rw [List.mem_singleton.1 h]; exact Hlow.out
                    generalize withL out ⟨(na : Int), (nb : Int), false⟩ = res at *
                    go_wp2_with fail
                    go_ret2
                    refine ⟨oa, _, oc, (by rw [Hnx.out, Hal.out]; rfl), fun _ => ?_, hB1.2.2⟩
                    rw [← He.out]
                    exact ⟨rfl, own_base hown1 hsr⟩
end Go.Proofs.Ytmampmbnjdncjaa
namespace Go.Proofs.Ytmampmbnjdncjaa
open Go.RowKit
set_option maxRecDepth 100000 in
set_option maxHeartbeats 8000000 in
set_option linter.unusedVariables false in
theorem one_cut_any (ta sa aa : Option Addr) (tc sc ac : Nat) (ts : List Tm) (cs qs : List Cl) (ss : List (Nat × Nat)) (s : St) (w : World) (ht : TermsAt w ta ts) (hcs : ClausesAt w sa cs) (hq : ClausesAt w aa qs) (hts : termsB ts = true) (hcl : clausesB ts.length cs = true)
    (hql : qs.length = ss.length) (hqi : ∀ i, i < ss.length → (qs.getD i cl0).ls = inOrd (ss.getD i (0, 0)).1 (ss.getD i (0, 0)).2) (hr : s.r = 4) :
    Calls Try.prog 75 #[.agg #[.slice ta ts.length tc, .slice sa cs.length sc], .agg #[.int .i64 s.r, .int .i64 s.a, .int .i64 s.b, .int .i64 s.c, .int .i64 s.d], .slice aa qs.length ac] w fun e w' => OneEnds w w' e (nextB ts cs ss s) (nextS ts cs ss s) := by
  have h9 := (len_of hts).2
  have Hts := hide hts
  have Hcl := hide hcl
  have Hqi := hide hqi
  have Hql := hide hql
  obtain ⟨r, a, b, c, d⟩ := s
  simp only at hr
  subst hr
  have hB := BX.start w (.slice ta ts.length tc) (.slice sa cs.length sc) ⟨4, a, b, c, d⟩
  go_enter Try.func75, Try.ntmps75
  go_upto_region 1 with fail
  simp only at hB
  generalize hW : (w.alloc _).alloc _ = W at *
  obtain ⟨p0, p1, q0, q1, q2, q3, q4⟩ := hB.cells
  simp only at q0 q1 q2 q3 q4
  clear hW hts hcl hqi hql
  go_upto_region 2 with fail
  go_cut [9] from 26 to 34 (fun s9 wx => s9 = .bool (belowB a (ts.length : Nat)) ∧ W = wx)
  case first =>
    by_cases h1 : 0 ≤ a
    · go_wp2_with fail
      go_meet
      exact ⟨by rw [belowB, decide_eq_true h1, Bool.true_and], rfl⟩
    · have h1' : decide (0 ≤ a) = false := by simpa using h1
      go_wp2_with fail
      go_meet
      exact ⟨by rw [belowB, h1']; rfl, rfl⟩
  case rest =>
    obtain ⟨rfl, rfl⟩ := hcut
    go_upto_region 3 with fail
    go_cut [10] from 35 to 43 (fun s9 wx => s9 = .bool (belowB b (ts.length : Nat)) ∧ W = wx)
    case first =>
      by_cases h1 : 0 ≤ b
      · go_wp2_with fail
        go_meet
        exact ⟨by rw [belowB, decide_eq_true h1, Bool.true_and], rfl⟩
      · have h1' : decide (0 ≤ b) = false := by simpa using h1
        go_wp2_with fail
        go_meet
        exact ⟨by rw [belowB, h1']; rfl, rfl⟩
    case rest =>
      obtain ⟨rfl, rfl⟩ := hcut
      go_upto_region 4 with fail
      go_cut [11] from 44 to 52 (fun s9 wx => s9 = .bool (belowB c (ts.length : Nat)) ∧ W = wx)
      case first =>
        by_cases h1 : 0 ≤ c
        · go_wp2_with fail
          go_meet
          exact ⟨by rw [belowB, decide_eq_true h1, Bool.true_and], rfl⟩
        · have h1' : decide (0 ≤ c) = false := by simpa using h1
          go_wp2_with fail
          go_meet
          exact ⟨by rw [belowB, h1']; rfl, rfl⟩
      case rest =>
        obtain ⟨rfl, rfl⟩ := hcut
        generalize hba : belowB a (ts.length : Nat) = ba at *
        generalize hbb : belowB b (ts.length : Nat) = bb at *
        generalize hbc : belowB c (ts.length : Nat) = bc at *
        have Ha := hide hba
        have Hb := hide hbb
        have Hc := hide hbc
        clear hba hbb hbc
        have Hn : Hid (nextB ts cs ss ⟨4, a, b, c, d⟩ = okX (ts.length : Nat) ss ⟨4, a, b, c, d⟩) := by show _ = _; simp [nextB]
        have Hs : Hid (nextS ts cs ss ⟨4, a, b, c, d⟩ = setX ss ⟨4, a, b, c, d⟩) := by show _ = _; simp [nextS]
        have Hok : Hid (okX (ts.length : Nat) ss ⟨4, a, b, c, d⟩ = ((belowB a (qs.length : Nat) && belowB b (qs.length : Nat) && bc && belowB d (ts.length : Nat)) && hasS (ss.getD a.toNat (0, 0)).1 (ss.getD a.toNat (0, 0)).2 ⟨c, d, false⟩ && hasS (ss.getD b.toNat (0, 0)).1 (ss.getD b.toNat (0, 0)).2 ⟨c, d, true⟩)) := by
          show _ = _
          unfold okX
          rw [allLow_2, allLow_2, Hc.out, Hql.out]
          simp [Bool.and_assoc]
        go_upto_region 37 with fail
        go_cut [278] from 242 to 277 (fun s278 wx => s278 = .bool (!(belowB a (qs.length : Nat) && belowB b (qs.length : Nat) && bc && belowB d (ts.length : Nat))) ∧ W = wx)
        case first =>
          by_cases e1 : a < 0
          · go_wp2_with fail
            go_meet
            exact ⟨by simp [belowB, e1], rfl⟩
          · have e1' : 0 ≤ a := by omega
            by_cases e2 : (qs.length : Int) ≤ a
            · go_wp2_with fail
              go_meet
              exact ⟨by simp [belowB, e2], rfl⟩
            · have e2' : a < (qs.length : Int) := by omega
              by_cases e3 : b < 0
              · go_wp2_with fail
                go_meet
                exact ⟨by simp [belowB, e3], rfl⟩
              · have e3' : 0 ≤ b := by omega
                by_cases e4 : (qs.length : Int) ≤ b
                · go_wp2_with fail
                  go_meet
                  exact ⟨by simp [belowB, e4], rfl⟩
                · have e4' : b < (qs.length : Int) := by omega
                  cases bc
                  · go_wp2_with fail
                    go_meet
                    exact ⟨by simp, rfl⟩
                  · by_cases e5 : d < 0
                    · go_wp2_with fail
                      go_meet
                      exact ⟨by simp [belowB, e5], rfl⟩
                    · have e5' : 0 ≤ d := by omega
                      by_cases e6 : (ts.length : Int) ≤ d
                      · go_wp2_with fail
                        go_meet
                        exact ⟨by simp [belowB, e6], rfl⟩
                      · have e6' : d < (ts.length : Int) := by omega
                        go_wp2_with fail
                        go_meet
                        exact ⟨by simp [belowB, e1', e2', e3', e4', e5', e6'], rfl⟩
        case rest =>
          obtain ⟨rfl, rfl⟩ := hcut
          cases hg : (belowB a (qs.length : Nat) && belowB b (qs.length : Nat) && bc && belowB d (ts.length : Nat))
          · have Hno : Hid (nextB ts cs ss ⟨4, a, b, c, d⟩ = false) := by show _ = _; rw [Hn.out, Hok.out, hg]; rfl
            go_wp2_with fail
            go_ret2
            exact ⟨none, 0, 0, (by rw [Hno.out]; rfl), (fun h => absurd (Hno.out.symm.trans h) (by decide)), hB.2.2⟩
          · have Hg := hide hg
            rw [Bool.and_eq_true, Bool.and_eq_true, Bool.and_eq_true] at hg
            obtain ⟨⟨⟨g1, g2⟩, g3⟩, g4⟩ := hg
            have ha := belowB_iff.1 g1
            have hb := belowB_iff.1 g2
            obtain ⟨na, hna⟩ := Int.eq_ofNat_of_zero_le ha.1
            obtain ⟨nb, hnb⟩ := Int.eq_ofNat_of_zero_le hb.1
            subst hna
            subst hnb
            have hla : na < qs.length := by omega
            have hlb : nb < qs.length := by omega
            have HlF : Hid (LowL 9 ⟨c, d, false⟩) := low_of h9 (Hc.out.trans g3) g4
            have HlT : Hid (LowL 9 ⟨c, d, true⟩) := low_of h9 (Hc.out.trans g3) g4
            have HqA := hide (Hqi.out na (by have := Hql.out; omega))
            have HqB := hide (Hqi.out nb (by have := Hql.out; omega))
            have Hok2 : Hid (okX (ts.length : Nat) ss ⟨4, (na : Int), (nb : Int), c, d⟩ = (hasS (ss.getD na (0, 0)).1 (ss.getD na (0, 0)).2 ⟨c, d, false⟩ && hasS (ss.getD nb (0, 0)).1 (ss.getD nb (0, 0)).2 ⟨c, d, true⟩)) := by
              show _ = _
              rw [Hok.out, Hg.out]; rfl
            have Hset : Hid (setX ss ⟨4, (na : Int), (nb : Int), c, d⟩ = (woutE (ss.getD na (0, 0)).1 ⟨c, d, false⟩ ||| woutE (ss.getD nb (0, 0)).1 ⟨c, d, true⟩, woutA (ss.getD na (0, 0)).2 ⟨c, d, false⟩ ||| woutA (ss.getD nb (0, 0)).2 ⟨c, d, true⟩)) := rfl
            clear ha hb g1 g2 g3 g4 Hok Hg Hqi
            obtain ⟨tb, tf, rfl, tcell⟩ := hq.get hla
            obtain ⟨t1, t2⟩ := tcell na hla
            obtain ⟨u1, u2⟩ := tcell nb hlb
            clear tcell
            generalize qs.getD na cl0 = tx at *
            generalize qs.getD nb cl0 = ty at *
            generalize ss.getD na (0, 0) = sx at *
            generalize ss.getD nb (0, 0) = sy at *
            obtain ⟨xa, xc, xl⟩ := tx
            obtain ⟨ya, yc, yl⟩ := ty
            simp only at t1 t2 u1 u2 HqA HqB
            have hx9 : xl.length ≤ 180 := by rw [HqA.out]; unfold inOrd; exact Nat.le_trans (List.length_filter_le _ _) (Nat.le_trans (allL_length 9) (by omega))
            have hy9 : yl.length ≤ 180 := by rw [HqB.out]; unfold inOrd; exact Nat.le_trans (List.length_filter_le _ _) (Nat.le_trans (allL_length 9) (by omega))
            have t1' := cell_below hB.2.2 t1
            have t2' := t2.below hB.2.2
            have hsW := hB.2.2.size
            go_upto_region 39 with fail
            go_cut [17, 18] from 279 to 292 (fun s17 s18 wx => ∃ oa oc, s17 = .slice oa (woutL xl ⟨c, d, false⟩).length oc ∧ s18 = .bool (wasL xl ⟨c, d, false⟩) ∧ wx.ownsRow w.heap.size 50 3 (.slice oa (woutL xl ⟨c, d, false⟩).length oc) (woutL xl ⟨c, d, false⟩).length (lsCells (woutL xl ⟨c, d, false⟩)) ∧ Below W.heap.size W wx)
            case first =>
              go_region_held3 (fun w' => w'.cell? ⟨w.heap.size + 1, 1, none⟩ = some (.int .i64 (na : Int)) ∧ w'.cell? ⟨tb, tf + na, none⟩ = some (.slice xa xl.length xc) ∧ w'.cell? ⟨w.heap.size + 1, 3, none⟩ = some (.int .i64 c) ∧ w'.cell? ⟨w.heap.size + 1, 4, none⟩ = some (.int .i64 d))
                (first | with_reducible exact ⟨drew_old q1, drew_old t1', drew_old q3, drew_old q4⟩ | with_reducible exact keepC4 hb1 (by assumption))
                (first | (go_at_call 85; refine (rWithout_any xa xc xl ⟨c, d, false⟩ _ (t2'.below (Below.refl _ _).drew) (by omega)).mono ?_; rintro e w1 ⟨oa, oc, rfl, hown1, hb1⟩))
              all_goals (go_wp2_with fail; go_meet; exact ⟨oa, oc, rfl, rfl, own_base hown1 hsW, (Below.refl _ _).drew.trans hb1⟩)
            case rest =>
              obtain ⟨oa, oc, rfl, rfl, hownX, hbX⟩ := hcut
              have hBX := hB.below hbX
              have HlX : Hid ((woutL xl ⟨c, d, false⟩).length ≤ 180) := Nat.le_trans (List.length_filter_le _ _) hx9
              have HwX : Hid (woutL xl ⟨c, d, false⟩ = inOrd (woutE sx.1 ⟨c, d, false⟩) (woutA sx.2 ⟨c, d, false⟩)) := by show _ = _; rw [HqA.out]; exact woutL_in HlF.out
              have HsX : Hid (wasL xl ⟨c, d, false⟩ = hasS sx.1 sx.2 ⟨c, d, false⟩) := by show _ = _; rw [HqA.out]; exact wasL_in HlF.out
              generalize woutL xl ⟨c, d, false⟩ = ox at *
              generalize wasL xl ⟨c, d, false⟩ = bx at *
              clear p0 p1 q0 q1 q2 q3 q4 t1' t2'
              obtain ⟨p0, p1, q0, q1, q2, q3, q4⟩ := hBX.cells
              simp only at q0 q1 q2 q3 q4
              have u1' := cell_below hBX.2.2 u1
              have u2' := u2.below hBX.2.2
              have hsX := hBX.2.2.size
              go_upto_region 40 with fail
              go_cut [19, 20] from 293 to 306 (fun s19 s20 wx => ∃ oa oc, s19 = .slice oa (woutL yl ⟨c, d, true⟩).length oc ∧ s20 = .bool (wasL yl ⟨c, d, true⟩) ∧ wx.ownsRow w.heap.size 50 3 (.slice oa (woutL yl ⟨c, d, true⟩).length oc) (woutL yl ⟨c, d, true⟩).length (lsCells (woutL yl ⟨c, d, true⟩)) ∧ Below wc.heap.size wc wx)
              case first =>
                go_region_held3 (fun w' => w'.cell? ⟨w.heap.size + 1, 2, none⟩ = some (.int .i64 (nb : Int)) ∧ w'.cell? ⟨tb, tf + nb, none⟩ = some (.slice ya yl.length yc) ∧ w'.cell? ⟨w.heap.size + 1, 3, none⟩ = some (.int .i64 c) ∧ w'.cell? ⟨w.heap.size + 1, 4, none⟩ = some (.int .i64 d))
                  (first | with_reducible exact ⟨drew_old q2, drew_old u1', drew_old q3, drew_old q4⟩ | with_reducible exact keepC4 hb1 (by assumption))
                  (first | (go_at_call 85; refine (rWithout_any ya yc yl ⟨c, d, true⟩ _ (u2'.below (Below.refl _ _).drew) (by omega)).mono ?_; rintro e w1 ⟨oa, oc, rfl, hown1, hb1⟩))
                all_goals (go_wp2_with fail; go_meet; exact ⟨oa, oc, rfl, rfl, own_base hown1 hsX, (Below.refl _ _).drew.trans hb1⟩)
              case rest =>
                rename_i wX
                obtain ⟨pa, pc, rfl, rfl, hownY, hbY⟩ := hcut
                have hBY := hBX.below hbY
                have HlY : Hid ((woutL yl ⟨c, d, true⟩).length ≤ 180) := Nat.le_trans (List.length_filter_le _ _) hy9
                have HwY : Hid (woutL yl ⟨c, d, true⟩ = inOrd (woutE sy.1 ⟨c, d, true⟩) (woutA sy.2 ⟨c, d, true⟩)) := by show _ = _; rw [HqB.out]; exact woutL_in HlT.out
                have HsY : Hid (wasL yl ⟨c, d, true⟩ = hasS sy.1 sy.2 ⟨c, d, true⟩) := by show _ = _; rw [HqB.out]; exact wasL_in HlT.out
                generalize woutL yl ⟨c, d, true⟩ = oy at *
                generalize wasL yl ⟨c, d, true⟩ = by' at *
                have hLx := litsAt_of_own (own_below hownX hbY)
                have hLy := litsAt_of_own hownY
                clear p0 p1 q0 q1 q2 q3 q4 u1' u2'
                have Hnx : Hid (nextB ts cs ss ⟨4, (na : Int), (nb : Int), c, d⟩ = (bx && by')) := by show _ = _; rw [Hn.out, Hok2.out, HsX.out, HsY.out]
                have Hres : Hid (withs (withs [] ox) oy = inOrd (nextS ts cs ss ⟨4, (na : Int), (nb : Int), c, d⟩).1 (nextS ts cs ss ⟨4, (na : Int), (nb : Int), c, d⟩).2) := by
                  show _ = _
                  rw [Hs.out, Hset.out, HwX.out, HwY.out, withs_two]
                have hown0 : wc.ownsRow w.heap.size 50 3 (.slice none 0 0) 0 (lsCells []) := ⟨rfl, .inl ⟨rfl, rfl⟩⟩
                have hlx := HlX.out
                have hly := HlY.out
                clear Hn Hs Hset Hok2 HwX HwY HsX HsY HqA HqB HlF HlT hownX hownY
                go_wp2_with fail
                go_loopg [12, 21] ox.length (fun q v s21 wx => ∃ (i : Nat) (out : List Lt), q = ox.length - i ∧ i ≤ ox.length ∧ s21 = .int .i64 i ∧ Hid (out = withs [] (ox.take i)) ∧ Below wc.heap.size wc wx ∧ wx.ownsRow w.heap.size 50 3 v out.length (lsCells out))
                case atStart => exact ⟨0, [], by omega, by omega, rfl, rfl, Below.refl _ _, hown0⟩
                case round =>
                  obtain ⟨i, out, rfl, hi, rfl, Ho, hbr, hown⟩ := hrel
                  obtain ⟨va, vc, rfl⟩ := own_val hown
                  have hol : out.length ≤ 200 := by
                    have h1 := withs_le (ox.take i) []
                    rw [← Ho.out, List.length_take] at h1
                    simp at h1
                    omega
                  have hBr := hBY.below hbr
                  have hsr := hBr.2.2.size
                  by_cases hlt : i < ox.length
                  · obtain ⟨xb, xo, hxe, xcell⟩ := (hLx.below hbr).get hlt
                    obtain ⟨x0, x1, x2⟩ := xcell i hlt
                    subst hxe
                    have Hst : Hid (withL out (ox.getD i lt0) = withs [] (ox.take (i + 1))) := by show _ = _; rw [take_snoc hlt, withs_snoc, ← Ho.out]
                    generalize ox.getD i lt0 = t at *
                    clear xcell
                    go_wp2_with fail
                    refine (rWith_any va vc out t wr (litsAt_of_own hown) (by omega)).mono ?_
                    rintro e w1 ⟨oa1, oc1, rfl, hown1, hb1⟩
                    go_wp2_with fail
                    go_roundg (ox.length - (i + 1))
                    case measure => omega
                    case rel => exact ⟨i + 1, _, rfl, by omega, by go_num, Hst, hbr.trans (hb1.mono hbr.size), own_base hown1 hsr⟩
                  · have e : ox.take i = ox := List.take_of_length_le (by omega)
                    rw [e] at Ho
                    clear e
                    have hol2 : out.length ≤ ox.length := by
                      have h1 := withs_le ox []
                      rw [← Ho.out] at h1
                      simpa using h1
                    have hLy2 := hLy.below hbr
                    go_wp2_with fail
                    go_loopg [12, 22] oy.length (fun q v s22 wx => ∃ (k : Nat) (out2 : List Lt), q = oy.length - k ∧ k ≤ oy.length ∧ s22 = .int .i64 k ∧ Hid (out2 = withs out (oy.take k)) ∧ Below wr.heap.size wr wx ∧ wx.ownsRow w.heap.size 50 3 v out2.length (lsCells out2))
                    case atStart => exact ⟨0, out, by omega, by omega, rfl, rfl, Below.refl _ _, hown⟩
                    case round =>
                      rename_i wq
                      obtain ⟨k, out2, rfl, hk, rfl, Ho2, hbq, hownq⟩ := hrel
                      obtain ⟨za, zc, rfl⟩ := own_val hownq
                      have hol3 : out2.length ≤ 400 := by
                        have h1 := withs_le (oy.take k) out
                        rw [← Ho2.out, List.length_take] at h1
                        omega
                      have hBq := hBr.below hbq
                      have hsq := hBq.2.2.size
                      by_cases hlt2 : k < oy.length
                      · obtain ⟨yb, yo, hye, ycell⟩ := (hLy2.below hbq).get hlt2
                        obtain ⟨y0, y1, y2⟩ := ycell k hlt2
                        subst hye
                        have Hst : Hid (withL out2 (oy.getD k lt0) = withs out (oy.take (k + 1))) := by show _ = _; rw [take_snoc hlt2, withs_snoc, ← Ho2.out]
                        generalize oy.getD k lt0 = t at *
                        clear ycell
                        go_wp2_with fail
                        refine (rWith_any za zc out2 t _ (litsAt_of_own hownq) (by omega)).mono ?_
                        rintro e w1 ⟨oa1, oc1, rfl, hown1, hb1⟩
                        go_wp2_with fail
                        go_roundg (oy.length - (k + 1))
                        case measure => omega
                        case rel => exact ⟨k + 1, _, rfl, by omega, by go_num, Hst, hbq.trans (hb1.mono hbq.size), own_base hown1 hsq⟩
                      · have e : oy.take k = oy := List.take_of_length_le (by omega)
                        rw [e, Ho.out, Hres.out] at Ho2
                        clear e
                        cases bx
                        · go_wp2_with fail
                          go_ret2
                          exact ⟨za, _, zc, (by rw [Hnx.out]; rfl), (fun h => by rw [Hnx.out] at h; cases h), hBq.2.2⟩
                        · go_wp2_with fail
                          go_ret2
                          refine ⟨za, _, zc, (by rw [Hnx.out]; rfl), fun _ => ?_, hBq.2.2⟩
                          rw [← Ho2.out]
                          exact ⟨rfl, hownq⟩
end Go.Proofs.Ytmampmbnjdncjaa
namespace Go.Proofs.Ytmampmbnjdncjaa
open Go.RowKit
set_option maxRecDepth 100000 in
set_option maxHeartbeats 8000000 in
set_option linter.unusedVariables false in
theorem one_none_any (ta sa aa : Option Addr) (tc sc ac : Nat) (ts : List Tm) (cs qs : List Cl) (ss : List (Nat × Nat)) (s : St) (w : World) (ht : TermsAt w ta ts) (hcs : ClausesAt w sa cs) (hq : ClausesAt w aa qs) (hts : termsB ts = true) (hcl : clausesB ts.length cs = true)
    (hql : qs.length = ss.length) (hqi : ∀ i, i < ss.length → (qs.getD i cl0).ls = inOrd (ss.getD i (0, 0)).1 (ss.getD i (0, 0)).2) (n0 : ¬ s.r = 0) (n1 : ¬ s.r = 1) (n2 : ¬ s.r = 2) (n3 : ¬ s.r = 3) (n4 : ¬ s.r = 4) :
    Calls Try.prog 75 #[.agg #[.slice ta ts.length tc, .slice sa cs.length sc], .agg #[.int .i64 s.r, .int .i64 s.a, .int .i64 s.b, .int .i64 s.c, .int .i64 s.d], .slice aa qs.length ac] w fun e w' => OneEnds w w' e (nextB ts cs ss s) (nextS ts cs ss s) := by
  have h9 := (len_of hts).2
  have Hts := hide hts
  have Hcl := hide hcl
  have Hqi := hide hqi
  have Hql := hide hql
  have Hn : Hid (nextB ts cs ss s = false) := by
    show _ = _
    unfold nextB
    rw [if_neg n0, if_neg n1, if_neg n2, if_neg n3, if_neg n4]
  obtain ⟨r, a, b, c, d⟩ := s
  simp only at n0 n1 n2 n3 n4
  have hB := BX.start w (.slice ta ts.length tc) (.slice sa cs.length sc) ⟨r, a, b, c, d⟩
  go_enter Try.func75, Try.ntmps75
  go_upto_region 1 with fail
  simp only at hB
  generalize hW : (w.alloc _).alloc _ = W at *
  obtain ⟨p0, p1, q0, q1, q2, q3, q4⟩ := hB.cells
  simp only at q0 q1 q2 q3 q4
  clear hW hts hcl hqi hql
  go_upto_region 2 with fail
  go_cut [9] from 26 to 34 (fun s9 wx => s9 = .bool (belowB a (ts.length : Nat)) ∧ W = wx)
  case first =>
    by_cases h1 : 0 ≤ a
    · go_wp2_with fail
      go_meet
      exact ⟨by rw [belowB, decide_eq_true h1, Bool.true_and], rfl⟩
    · have h1' : decide (0 ≤ a) = false := by simpa using h1
      go_wp2_with fail
      go_meet
      exact ⟨by rw [belowB, h1']; rfl, rfl⟩
  case rest =>
    obtain ⟨rfl, rfl⟩ := hcut
    go_upto_region 3 with fail
    go_cut [10] from 35 to 43 (fun s9 wx => s9 = .bool (belowB b (ts.length : Nat)) ∧ W = wx)
    case first =>
      by_cases h1 : 0 ≤ b
      · go_wp2_with fail
        go_meet
        exact ⟨by rw [belowB, decide_eq_true h1, Bool.true_and], rfl⟩
      · have h1' : decide (0 ≤ b) = false := by simpa using h1
        go_wp2_with fail
        go_meet
        exact ⟨by rw [belowB, h1']; rfl, rfl⟩
    case rest =>
      obtain ⟨rfl, rfl⟩ := hcut
      go_upto_region 4 with fail
      go_cut [11] from 44 to 52 (fun s9 wx => s9 = .bool (belowB c (ts.length : Nat)) ∧ W = wx)
      case first =>
        by_cases h1 : 0 ≤ c
        · go_wp2_with fail
          go_meet
          exact ⟨by rw [belowB, decide_eq_true h1, Bool.true_and], rfl⟩
        · have h1' : decide (0 ≤ c) = false := by simpa using h1
          go_wp2_with fail
          go_meet
          exact ⟨by rw [belowB, h1']; rfl, rfl⟩
      case rest =>
        obtain ⟨rfl, rfl⟩ := hcut
        generalize hba : belowB a (ts.length : Nat) = ba at *
        generalize hbb : belowB b (ts.length : Nat) = bb at *
        generalize hbc : belowB c (ts.length : Nat) = bc at *
        have Ha := hide hba
        have Hb := hide hbb
        have Hc := hide hbc
        clear hba hbb hbc
        have n0' : (r == 0) = false := by simpa using n0
        have n1' : (r == 1) = false := by simpa using n1
        have n2' : (r == 2) = false := by simpa using n2
        have n3' : (r == 3) = false := by simpa using n3
        have n4' : (r == 4) = false := by simpa using n4
        go_wp2_with fail
        go_ret2
        exact ⟨none, 0, 0, (by rw [Hn.out]; rfl), (fun h => absurd (Hn.out.symm.trans h) (by decide)), hB.2.2⟩
end Go.Proofs.Ytmampmbnjdncjaa
