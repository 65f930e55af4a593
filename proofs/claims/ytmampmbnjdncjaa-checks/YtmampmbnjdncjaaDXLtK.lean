import Derived.Test.YtmampmbnjdncjaaDMLt
import Derived.Test.YtmampmbnjdncjaaDMKp
namespace Go.Proofs.Ytmampmbnjdncjaa
open Go.RowKit
def okC (ts : List Tm) (s : St) : Bool := allLow (ts.length : Nat) [s.a, s.b] && allNil [s.c, s.d] && alikeB (ts.getD s.a.toNat tm0).sym (ts.getD s.b.toNat tm0).sym (ts.getD s.a.toNat tm0).args.length (ts.getD s.b.toNat tm0).args.length
def congL (a b : Int) (xs ys : List Int) (k : Nat) : List Lt := ⟨a, b, false⟩ :: (List.range k).map fun i => ⟨xs.getD i 0, ys.getD i 0, true⟩
def setC (ts : List Tm) (s : St) : Nat × Nat := ofL (congL s.a s.b (ts.getD s.a.toNat tm0).args (ts.getD s.b.toNat tm0).args (ts.getD s.a.toNat tm0).args.length) (0, 0)
theorem ofL_append (l m : List Lt) (s : Nat × Nat) : ofL (l ++ m) s = ofL m (ofL l s) := by
  induction l generalizing s with
  | nil => rfl
  | cons t l ih => exact ih _
theorem congL_succ (a b : Int) (xs ys : List Int) (k : Nat) : congL a b xs ys (k + 1) = congL a b xs ys k ++ [⟨xs.getD k 0, ys.getD k 0, true⟩] := by
  simp [congL, List.range_succ]
set_option maxHeartbeats 1000000 in
theorem cong_any (ta : Option Addr) (tc : Nat) (ts : List Tm) (s : St) (w : World) (ht : TermsAt w ta ts) (hts : termsB ts = true) :
    Calls Try.prog 82 #[.slice ta ts.length tc, .agg #[.int .i64 s.r, .int .i64 s.a, .int .i64 s.b, .int .i64 s.c, .int .i64 s.d]] w fun e w' =>
      e = .returned (.tuple #[.agg #[.int .u64 (yes (setC ts s) (okC ts s)).1, .int .u64 (yes (setC ts s) (okC ts s)).2], .bool (okC ts s)]) ∧ Below w.heap.size w w' := by
  have hbox := Box.new w s
  go_enter Try.func82, Try.ntmps82
  go_upto_region 1 with fail
  generalize hW : (w.alloc (.cells #[.int .i64 s.r, .int .i64 s.a, .int .i64 s.b, .int .i64 s.c, .int .i64 s.d] 62)).alloc (.cells #[.int .u64 0, .int .u64 0] 80) = W at *
  clear hW
  generalize hB : w.heap.size = B at *
  have hb1 := hbox.below (below_alloc W (.cells #[.int .i64 s.a, .int .i64 s.b] 3))
  have hs1 := ints_two (w := W.alloc (.cells #[.int .i64 s.a, .int .i64 s.b] 3)) (g := W.heap.size) (x := s.a) (y := s.b) (by simp) (by simp)
  obtain ⟨c0, c1, c2, c3, c4, r0, r1, f0, f1, hsz, hb0⟩ := id hbox
  have HB := hide hB
  clear hB
  go_wp2_with fail
  refine (allBelow_any (ts.length : Nat) _ 2 [s.a, s.b] _ hs1 (by simp)).mono ?_
  rintro e w' ⟨rfl, rfl⟩
  clear c0 c1 c2 c3 c4 r0 r1 f0 f1 hsz hb0 hbox hs1
  generalize W.alloc (.cells #[.int .i64 s.a, .int .i64 s.b] 3) = W1 at *
  obtain ⟨c0, c1, c2, c3, c4, r0, r1, f0, f1, hsz, hb0⟩ := id hb1
  cases hA : allLow (ts.length : Nat) [s.a, s.b]
  · have ho : Hid (okC ts s = false) := by show okC ts s = false; simp [okC, hA]
    go_wp2_with fail
    exact bodyPost_ret (v := .tuple #[.agg #[.int .u64 0, .int .u64 0], .bool false]) (by simp [results, Try.results82, go_sem, r0, r1]) rfl ⟨by rw [ho.out, yes_no]; rfl, hb1.end HB.out⟩
  · have hlow : belowB s.a (ts.length : Nat) = true ∧ belowB s.b (ts.length : Nat) = true := ⟨allB_iff.1 hA 0 (by simp), allB_iff.1 hA 1 (by simp)⟩
    have z0 : B < W1.heap.size := by omega
    have z1 : B + 1 < W1.heap.size := by omega
    have hb2 := hb1.below (below_alloc W1 (.cells #[.int .i64 s.c, .int .i64 s.d] 3))
    have hs2 := ints_two (w := W1.alloc (.cells #[.int .i64 s.c, .int .i64 s.d] 3)) (g := W1.heap.size) (x := s.c) (y := s.d) (by simp) (by simp)
    have Hlow := hide hlow
    have HA := hide hA
    clear hlow hA
    go_wp2_with fail
    refine (allZero_any _ 2 [s.c, s.d] _ hs2 (by simp)).mono ?_
    rintro e w' ⟨rfl, rfl⟩
    clear c0 c1 c2 c3 c4 r0 r1 f0 f1 hsz hb0 hb1 hs2 z0 z1
    generalize W1.alloc (.cells #[.int .i64 s.c, .int .i64 s.d] 3) = W2 at *
    obtain ⟨c0, c1, c2, c3, c4, r0, r1, f0, f1, hsz, hb0⟩ := id hb2
    cases hZ : allNil [s.c, s.d]
    · have ho : Hid (okC ts s = false) := by show okC ts s = false; simp [okC, hZ]
      go_wp2_with fail
      exact bodyPost_ret (v := .tuple #[.agg #[.int .u64 0, .int .u64 0], .bool false]) (by simp [results, Try.results82, go_sem, r0, r1]) rfl ⟨by rw [ho.out, yes_no]; rfl, hb2.end HB.out⟩
    · have hlow := Hlow.out
      simp [belowB] at hlow
      obtain ⟨⟨x0, x9⟩, y0, y9⟩ := hlow
      obtain ⟨i, hi⟩ := Int.eq_ofNat_of_zero_le x0
      obtain ⟨j, hj⟩ := Int.eq_ofNat_of_zero_le y0
      have hil : i < ts.length := by omega
      have hjl : j < ts.length := by omega
      have hbw : Below w.heap.size w W2 := by rw [HB.out]; exact hb0
      obtain ⟨tb, tf, rfl, tcell⟩ := (ht.below hbw).get hil
      obtain ⟨t1, t2, t3⟩ := tcell i hil
      obtain ⟨u1, u2, u3⟩ := tcell j hjl
      have n9 := (len_of hts).2
      have ai := argsIn_of hts (Nat.le_refl _) i hil
      have aj := argsIn_of hts (Nat.le_refl _) j hjl
      have Hs : Hid (setC ts s = ofL (congL i j (ts.getD i tm0).args (ts.getD j tm0).args (ts.getD i tm0).args.length) (0, 0)) := by show _ = _; unfold setC; rw [hi, hj]; rfl
      have Ho : Hid (okC ts s = alikeB (ts.getD i tm0).sym (ts.getD j tm0).sym (ts.getD i tm0).args.length (ts.getD j tm0).args.length) := by show okC ts s = _; unfold okC; rw [HA.out, hZ, hi, hj]; rfl
      generalize ts.getD i tm0 = x at *
      generalize ts.getD j tm0 = y at *
      obtain ⟨xs, xa, xc, xl⟩ := x
      obtain ⟨ys, ya, yc, yl⟩ := y
      simp only at t1 t2 t3 u1 u2 u3 ai aj Hs Ho
      have c1' := c1
      have c2' := c2
      rw [hi] at c1'
      rw [hj] at c2'
      clear tcell hbw x0 x9 y0 y9 hZ
      have Hi := hide hi
      have Hj := hide hj
      clear hi hj c0 c1 c2 c3 c4 r0 r1 f0 f1
      have v0 : tb < W2.heap.size := block_lt t1
      go_upto_region 3 with fail
      go_cut [6, 7] (fun s6 s7 wx => ∃ ba bb, s6 = .pointer (some ⟨ba, 0, none⟩) ∧ s7 = .pointer (some ⟨bb, 0, none⟩) ∧ wx.cell? ⟨ba, 0, none⟩ = some (.int .i64 xs) ∧ wx.cell? ⟨ba, 1, none⟩ = some (.slice xa xl.length xc) ∧
        wx.cell? ⟨bb, 0, none⟩ = some (.int .i64 ys) ∧ wx.cell? ⟨bb, 1, none⟩ = some (.slice ya yl.length yc) ∧ Below W2.heap.size W2 wx)
      case first =>
        have e0 := World.new_ne W2 _ c1'
        have e1 := World.new_ne W2 _ c2'
        have e2 := World.new_ne W2 _ t1
        have e3 := World.new_ne W2 _ t2
        have e4 := World.new_ne W2 _ u1
        have e5 := World.new_ne W2 _ u2
        go_region_held3 (fun w' => w'.cell? ⟨B, 1, none⟩ = some (.int .i64 i) ∧ w'.cell? ⟨B, 2, none⟩ = some (.int .i64 j) ∧ w'.cell? ⟨tb, tf + i * 2, none⟩ = some (.int .i64 xs) ∧ w'.cell? ⟨tb, tf + i * 2 + 1, none⟩ = some (.slice xa xl.length xc) ∧
          w'.cell? ⟨tb, tf + j * 2, none⟩ = some (.int .i64 ys) ∧ w'.cell? ⟨tb, tf + j * 2 + 1, none⟩ = some (.slice ya yl.length yc)) (go_keep) (fail)
        all_goals
          go_wp2_with fail
          go_meet
          exact ⟨_, _, rfl, rfl, by simp, by simp, by simp, by simp, (((Below.refl _ _).alloc (Nat.le_refl _) _).alloc (by simp) _).drew⟩
      case rest =>
        obtain ⟨ba, bb, rfl, rfl, m1, m2, m3, m4, hbc⟩ := hcut
        have hbx := hb2.below hbc
        have t3' := t3.below hbc
        have u3' := u3.below hbc
        clear t1 t2 t3 u1 u2 u3 c1' c2' v0 hb2 hbc hb0 hsz
        go_wp2_with fail
        refine (alike_any xs ys xa ya _ _ xc yc _).mono ?_
        rintro e w3 ⟨rfl, hb⟩
        replace hbx := hbx.below hb
        replace t3' := t3'.below hb
        replace u3' := u3'.below hb
        replace m1 := cell_below hb m1
        replace m2 := cell_below hb m2
        replace m3 := cell_below hb m3
        replace m4 := cell_below hb m4
        clear hb
        obtain ⟨c0, c1, c2, c3, c4, r0, r1, f0, f1, hsz, hb0⟩ := id hbx
        cases hal : alikeB xs ys xl.length yl.length
        · have ho : Hid (okC ts s = false) := by show okC ts s = false; rw [Ho.out, hal]
          go_wp2_with fail
          exact bodyPost_ret (v := .tuple #[.agg #[.int .u64 0, .int .u64 0], .bool false]) (by simp [results, Try.results82, go_sem, r0, r1]) rfl ⟨by rw [ho.out, yes_no]; rfl, hbx.end HB.out⟩
        · have ho : Hid (okC ts s = true) := by show okC ts s = true; rw [Ho.out, hal]
          have hll : xl.length = yl.length := by simp [alikeB] at hal; exact hal.2
          have Hll := hide hll
          rw [Hi.out] at c1
          rw [Hj.out] at c2
          clear hal hll
          go_wp2_with fail
          refine (equal_any i j _).mono ?_
          rintro e w4 ⟨rfl, hb⟩
          replace hbx := hbx.below hb
          replace t3' := t3'.below hb
          replace u3' := u3'.below hb
          replace m1 := cell_below hb m1
          replace m2 := cell_below hb m2
          replace m3 := cell_below hb m3
          replace m4 := cell_below hb m4
          clear hb c0 c1 c2 c3 c4 r0 r1 f0 f1 hsz hb0
          have hlit := lits_one (w := w4.alloc (.cells #[.int .i64 i, .int .i64 j, .bool false] 50)) (g := w4.heap.size) (t := ⟨i, j, false⟩) (by simp) (by simp) (by simp)
          have hlw : LowL 9 ⟨i, j, false⟩ := ⟨by show (0 : Int) ≤ i; omega, by show (i : Int) < 9; omega, by show (0 : Int) ≤ j; omega, by show (j : Int) < 9; omega⟩
          have hba := below_alloc w4 (.cells #[.int .i64 i, .int .i64 j, .bool false] 50)
          go_wp2_with fail
          refine (of_any _ 1 [⟨i, j, false⟩] _ hlit (by intro t ht; simp at ht; rw [ht]; exact hlw) (by simp)).mono ?_
          rintro e w5 ⟨rfl, hb⟩
          replace hb := hba.trans (hb.mono hba.size)
          replace hbx := hbx.below hb
          replace t3' := t3'.below hb
          replace u3' := u3'.below hb
          replace m1 := cell_below hb m1
          replace m2 := cell_below hb m2
          replace m3 := cell_below hb m3
          replace m4 := cell_below hb m4
          have Hq : Hid (ofL (congL i j xl yl 0) (0, 0) = ofL [⟨i, j, false⟩] (0, 0)) := rfl
          have hq9 := ofL_lt [⟨i, j, false⟩] (0, 0) (by intro t ht; simp at ht; rw [ht]; exact hlw) (by decide) (by decide)
          clear hb hba hlit hlw
          generalize ofL [⟨i, j, false⟩] (0, 0) = q at *
          obtain ⟨q1, q2⟩ := q
          obtain ⟨w6, hw6⟩ : ∃ w6, w6 = w5.alloc (.cells #[.int .u64 q1, .int .u64 q2] 80) := ⟨_, rfl⟩
          have hba : Below w5.heap.size w5 w6 := by rw [hw6]; exact below_alloc _ _
          have n0 : w6.cell? ⟨w5.heap.size, 0, none⟩ = some (.int .u64 q1) := by rw [hw6]; simp
          have n1 : w6.cell? ⟨w5.heap.size, 1, none⟩ = some (.int .u64 q2) := by rw [hw6]; simp
          have n2 : w6.frozen? ⟨w5.heap.size, 0, none⟩ = false := by rw [hw6]; simp
          have n3 : w6.frozen? ⟨w5.heap.size, 1, none⟩ = false := by rw [hw6]; simp
          have n4 : w5.heap.size < w6.heap.size := by rw [hw6]; simp
          have m2w := cell_below hba m2
          go_upto_region 7 with fail
          rw [← hw6]
          have hg : w5.heap.size < w6.heap.size := n4
          have hxg : ba ≠ w5.heap.size ∧ bb < w5.heap.size ∧ B + 1 + 1 ≤ w5.heap.size := by
            refine ⟨fun h => ?_, block_lt m3, ?_⟩
            · have := block_lt m1; omega
            · obtain ⟨_, _, _, _, _, _, _, _, _, hsz, _⟩ := hbx; exact hsz
          have Hx6 : Hid (∀ wr, Below w5.heap.size w6 wr → Box w B s wr ∧ IntsAt wr xa xl ∧ IntsAt wr ya yl ∧ wr.cell? ⟨bb, 1, none⟩ = some (.slice ya yl.length yc)) := by
            intro wr h
            have h' := hba.trans h
            exact ⟨hbx.below h', t3'.below h', u3'.below h', cell_below h' m4⟩
          have Hyb : Hid (∀ b o, ya = some ⟨b, o, none⟩ → 0 < yl.length → b < w5.heap.size) := by
            intro b o hy h0
            obtain ⟨b', o', e, hc⟩ := u3'.get h0
            rw [hy] at e
            injection e with e; injection e with e
            rw [e]; exact block_lt (hc 0 h0)
          clear hw6 hba m1 m2 m3 m4 hbx t3' u3'
          generalize w5.heap.size = g at *
          go_wp2_with fail
          go_loopg [55] xl.length (fun q v wr => ∃ k : Nat, q = xl.length - k ∧ k ≤ xl.length ∧ v = .int .i64 k ∧
            (∃ E A : Nat, Hid (ofL (congL i j xl yl k) (0, 0) = (E, A)) ∧ Hid (E < 18446744073709551616 ∧ A < 18446744073709551616) ∧ wr.cell? ⟨g, 0, none⟩ = some (.int .u64 E) ∧ wr.cell? ⟨g, 1, none⟩ = some (.int .u64 A)) ∧
            wr.frozen? ⟨g, 0, none⟩ = false ∧ wr.frozen? ⟨g, 1, none⟩ = false ∧ Below g w6 wr ∧ g < wr.heap.size)
          case atStart => exact ⟨0, by omega, Nat.zero_le _, rfl, ⟨q1, q2, Hq, hq9, n0, n1⟩, n2, n3, Below.refl _ _, n4⟩
          case round =>
            obtain ⟨k, rfl, hk, rfl, ⟨E, A, HEA, HEA9, p0, p1⟩, p2, p3, hbr, hgw⟩ := hrel
            clear n0 n1 n2 n3 n4 hg m2w
            obtain ⟨hbx, t3', u3', m4⟩ := Hx6.out wr hbr
            by_cases hlt : k < xl.length
            · have hly : k < yl.length := by have := Hll.out; omega
              obtain ⟨xb, xo, rfl, xcell⟩ := t3'.get hlt
              obtain ⟨yb, yo, rfl, ycell⟩ := u3'.get hly
              have x1 := xcell k hlt
              have y1 := ycell k hly
              have bx := ai.2 k hlt
              have bY := aj.2 k hly
              have Hst : Hid (ofL (congL i j xl yl (k + 1)) (0, 0) = (withE E ⟨xl.getD k 0, yl.getD k 0, true⟩, withA A ⟨xl.getD k 0, yl.getD k 0, true⟩)) := by
                show _ = _
                rw [congL_succ, ofL_append, HEA.out]; rfl
              generalize xl.getD k 0 = vx at *
              generalize yl.getD k 0 = vy at *
              clear xcell ycell t3' u3'
              have hw := with_any vx vy true E A
              have Hw := hide hw
              have hE9 := withE_lt (t := ⟨vx, vy, true⟩) HEA9.out.1 ⟨bx.1, by show vx < 9; omega, bY.1, by show vy < 9; omega⟩
              have hA9 := withA_lt (t := ⟨vx, vy, true⟩) HEA9.out.2 ⟨bx.1, by show vx < 9; omega, bY.1, by show vy < 9; omega⟩
              have HE9 : Hid (withE E ⟨vx, vy, true⟩ < 18446744073709551616 ∧ withA A ⟨vx, vy, true⟩ < 18446744073709551616) := ⟨hE9, hA9⟩
              clear hw hE9 hA9
              have e0 : (0 : Int) ≤ (k : Int) := by omega
              have e1 : (k : Int) < (yl.length : Int) := by omega
              have e2 : g ≠ bb := by omega
              have e3 : g ≠ yb := by have := Hyb.out yb yo rfl (by omega); omega
              go_upto_region 10 with fail
              replace hbr := hbr.drew
              go_region_with
                (first
                  | (go_at_call 90; refine (apart_any _ _ _).mono ?_; rintro e w' ⟨rfl, hb⟩; have p0 := cell_below hb p0; have p1 := cell_below hb p1; have p2 := frozen_below hb hgw p2; have p3 := frozen_below hb hgw p3; have hbr := hbr.trans (hb.mono (Nat.le_of_lt hgw)); have hgw := Nat.lt_of_lt_of_le hgw hb.size)
                  | (go_at_call 91; refine (Hw.out _ bx.1 (by omega) bY.1 (by omega) HEA9.out.1 HEA9.out.2).mono ?_; rintro e w' ⟨rfl, hb⟩; have p0 := cell_below hb p0; have p1 := cell_below hb p1; have p2 := frozen_below hb hgw p2; have p3 := frozen_below hb hgw p3; have hbr := hbr.trans (hb.mono (Nat.le_of_lt hgw)); have hgw := Nat.lt_of_lt_of_le hgw hb.size))
              all_goals
                generalize withE E ⟨vx, vy, true⟩ = E' at *
                generalize withA A ⟨vx, vy, true⟩ = A' at *
                go_wp2_with fail
                go_roundg (xl.length - (k + 1))
                case measure => omega
                case rel =>
                  exact ⟨k + 1, rfl, by omega, by go_num, ⟨E', A', Hst, HE9, set_other (by omega) (set_same p0), set_same (set_other (by omega) p1)⟩, set_frozen (set_frozen p2), set_frozen (set_frozen p3),
                    (hbr.setCell (p := ⟨g, 0, none⟩) (Nat.le_refl _) _).setCell (p := ⟨g, 1, none⟩) (Nat.le_refl _) _, by simp; exact hgw⟩
            · have Hfin : Hid (setC ts s = (E, A)) := by
                show _ = _
                have hkx : k = xl.length := by omega
                rw [Hs.out, ← HEA.out, hkx]
              clear t3' u3' m4
              obtain ⟨c0, c1, c2, c3, c4, r0, r1, f0, f1, hsz, hb0⟩ := id hbx
              have z9 : ¬ (B + 1 = g) := by omega
              go_wp2_with fail
              exact bodyPost_ret (v := .tuple #[.agg #[.int .u64 E, .int .u64 A], .bool true]) (by simp [results, Try.results82, go_sem, set_same r0, set_other, r1]) rfl ⟨by rw [ho.out, yes_yes, Hfin.out], hbx.end HB.out⟩
end Go.Proofs.Ytmampmbnjdncjaa
