import Derived.Test.YtmampmbnjdncjaaDMLt
namespace Go.Proofs.Ytmampmbnjdncjaa
open Go.RowKit
set_option maxHeartbeats 8000000 in
theorem cut_any (n : Int) (sa : Option Addr) (sc : Nat) (ss : List (Nat × Nat)) (s : St) (w : World) (hn : n ≤ 9) (hss : SetsAt w sa ss) (h64 : ∀ p ∈ ss, p.1 < 18446744073709551616 ∧ p.2 < 18446744073709551616) :
    Calls Try.prog 83 #[.int .i64 n, .slice sa ss.length sc, .agg #[.int .i64 s.r, .int .i64 s.a, .int .i64 s.b, .int .i64 s.c, .int .i64 s.d]] w fun e w' =>
      e = .returned (.tuple #[.agg #[.int .u64 (yes (setX ss s) (okX n ss s)).1, .int .u64 (yes (setX ss s) (okX n ss s)).2], .bool (okX n ss s)]) ∧ Below w.heap.size w w' := by
  have hbox := Box.new w s
  go_enter Try.func83, Try.ntmps83
  go_upto_region 1 with fail
  generalize hW : (w.alloc (.cells #[.int .i64 s.r, .int .i64 s.a, .int .i64 s.b, .int .i64 s.c, .int .i64 s.d] 62)).alloc (.cells #[.int .u64 0, .int .u64 0] 80) = W at *
  clear hW
  generalize hB : w.heap.size = B at *
  have hb1 := hbox.below (below_alloc W (.cells #[.int .i64 s.a, .int .i64 s.b] 3))
  have hs1 := ints_two (w := W.alloc (.cells #[.int .i64 s.a, .int .i64 s.b] 3)) (g := W.heap.size) (x := s.a) (y := s.b) (by simp) (by simp)
  obtain ⟨c0, c1, c2, c3, c4, r0, r1, f0, f1, hsz, hb0⟩ := id hbox
  have HB := hide hB
  clear hB
  go_wp2_with fail
  refine (allBelow_any (ss.length : Nat) _ 2 [s.a, s.b] _ hs1 (by simp)).mono ?_
  rintro e w' ⟨rfl, rfl⟩
  clear c0 c1 c2 c3 c4 r0 r1 f0 f1 hsz hb0 hbox hs1
  generalize W.alloc (.cells #[.int .i64 s.a, .int .i64 s.b] 3) = W1 at *
  obtain ⟨c0, c1, c2, c3, c4, r0, r1, f0, f1, hsz, hb0⟩ := id hb1
  cases hA : allLow (ss.length : Nat) [s.a, s.b]
  · have ho : Hid (okX n ss s = false) := by show okX n ss s = false; simp [okX, hA]
    go_wp2_with fail
    exact bodyPost_ret (v := .tuple #[.agg #[.int .u64 0, .int .u64 0], .bool false]) (by simp [results, Try.results83, go_sem, r0, r1]) rfl ⟨by rw [ho.out, yes_no]; rfl, hb1.end HB.out⟩
  · have hlow : belowB s.a (ss.length : Nat) = true ∧ belowB s.b (ss.length : Nat) = true := ⟨allB_iff.1 hA 0 (by simp), allB_iff.1 hA 1 (by simp)⟩
    have z0 : B < W1.heap.size := by omega
    have z1 : B + 1 < W1.heap.size := by omega
    have hb2 := hb1.below (below_alloc W1 (.cells #[.int .i64 s.c, .int .i64 s.d] 3))
    have hs2 := ints_two (w := W1.alloc (.cells #[.int .i64 s.c, .int .i64 s.d] 3)) (g := W1.heap.size) (x := s.c) (y := s.d) (by simp) (by simp)
    have Hlow := hide hlow
    have HA := hide hA
    clear hlow hA
    go_wp2_with fail
    refine (allBelow_any n _ 2 [s.c, s.d] _ hs2 (by simp)).mono ?_
    rintro e w' ⟨rfl, rfl⟩
    clear c0 c1 c2 c3 c4 r0 r1 f0 f1 hsz hb0 hb1 hs2 z0 z1
    generalize W1.alloc (.cells #[.int .i64 s.c, .int .i64 s.d] 3) = W2 at *
    obtain ⟨c0, c1, c2, c3, c4, r0, r1, f0, f1, hsz, hb0⟩ := id hb2
    cases hZ : allLow n [s.c, s.d]
    · have ho : Hid (okX n ss s = false) := by show okX n ss s = false; simp [okX, hZ]
      go_wp2_with fail
      exact bodyPost_ret (v := .tuple #[.agg #[.int .u64 0, .int .u64 0], .bool false]) (by simp [results, Try.results83, go_sem, r0, r1]) rfl ⟨by rw [ho.out, yes_no]; rfl, hb2.end HB.out⟩
    · have hlow := Hlow.out
      simp [belowB] at hlow
      obtain ⟨⟨x0, x9⟩, y0, y9⟩ := hlow
      have hcd : belowB s.c n = true ∧ belowB s.d n = true := ⟨allB_iff.1 hZ 0 (by simp), allB_iff.1 hZ 1 (by simp)⟩
      simp [belowB] at hcd
      obtain ⟨⟨k0, k1⟩, l0, l1⟩ := hcd
      obtain ⟨i, hi⟩ := Int.eq_ofNat_of_zero_le x0
      obtain ⟨j, hj⟩ := Int.eq_ofNat_of_zero_le y0
      have hil : i < ss.length := by omega
      have hjl : j < ss.length := by omega
      have hbw : Below w.heap.size w W2 := by rw [HB.out]; exact hb0
      obtain ⟨tb, tf, rfl, tcell⟩ := (hss.below hbw).get hil
      obtain ⟨t1, t2⟩ := tcell i hil
      obtain ⟨u1, u2⟩ := tcell j hjl
      have hx64 := h64 _ (getD_memS hil)
      have hy64 := h64 _ (getD_memS hjl)
      have Hs : Hid (setX ss s = (woutE (ss.getD i (0, 0)).1 ⟨s.c, s.d, false⟩ ||| woutE (ss.getD j (0, 0)).1 ⟨s.c, s.d, true⟩, woutA (ss.getD i (0, 0)).2 ⟨s.c, s.d, false⟩ ||| woutA (ss.getD j (0, 0)).2 ⟨s.c, s.d, true⟩)) := by show _ = _; unfold setX; rw [hi, hj]; rfl
      have Ho : Hid (okX n ss s = (hasS (ss.getD i (0, 0)).1 (ss.getD i (0, 0)).2 ⟨s.c, s.d, false⟩ && hasS (ss.getD j (0, 0)).1 (ss.getD j (0, 0)).2 ⟨s.c, s.d, true⟩)) := by show okX n ss s = _; unfold okX; rw [HA.out, hZ, hi, hj]; simp
      generalize ss.getD i (0, 0) = x at *
      generalize ss.getD j (0, 0) = y at *
      obtain ⟨xE, xA⟩ := x
      obtain ⟨yE, yA⟩ := y
      simp only at t1 t2 u1 u2 hx64 hy64 Hs Ho
      have c1' := c1
      have c2' := c2
      rw [hi] at c1'
      rw [hj] at c2'
      clear tcell hbw x0 x9 y0 y9 hZ
      have Hi := hide hi
      have Hj := hide hj
      clear hi hj c0 c1 c2 c3 c4 r0 r1 f0 f1
      have v0 : tb < W2.heap.size := block_lt t1
      go_upto_region 3 with fail
      go_cut [8, 9] (fun s8 s9 wx => ∃ ba bb, s8 = .pointer (some ⟨ba, 0, none⟩) ∧ s9 = .pointer (some ⟨bb, 0, none⟩) ∧ wx.cell? ⟨ba, 0, none⟩ = some (.int .u64 xE) ∧ wx.cell? ⟨ba, 1, none⟩ = some (.int .u64 xA) ∧
        wx.cell? ⟨bb, 0, none⟩ = some (.int .u64 yE) ∧ wx.cell? ⟨bb, 1, none⟩ = some (.int .u64 yA) ∧ Below W2.heap.size W2 wx ∧ W2.heap.size ≤ ba ∧ W2.heap.size ≤ bb)
      case first =>
        have e0 := World.new_ne W2 _ c1'
        have e1 := World.new_ne W2 _ c2'
        have e2 := World.new_ne W2 _ t1
        have e3 := World.new_ne W2 _ t2
        have e4 := World.new_ne W2 _ u1
        have e5 := World.new_ne W2 _ u2
        go_region_held3 (fun w' => w'.cell? ⟨B, 1, none⟩ = some (.int .i64 i) ∧ w'.cell? ⟨B, 2, none⟩ = some (.int .i64 j) ∧ w'.cell? ⟨tb, tf + i * 2, none⟩ = some (.int .u64 xE) ∧ w'.cell? ⟨tb, tf + i * 2 + 1, none⟩ = some (.int .u64 xA) ∧
          w'.cell? ⟨tb, tf + j * 2, none⟩ = some (.int .u64 yE) ∧ w'.cell? ⟨tb, tf + j * 2 + 1, none⟩ = some (.int .u64 yA)) (go_keep) (fail)
        all_goals
          go_wp2_with fail
          go_meet
          exact ⟨_, _, rfl, rfl, by simp, by simp, by simp, by simp, (((Below.refl _ _).alloc (Nat.le_refl _) _).alloc (by simp) _).drew, by omega, by omega⟩
      case rest =>
        obtain ⟨ba, bb, rfl, rfl, m1, m2, m3, m4, hbc, hba, hbb⟩ := hcut
        have hbx := hb2.below hbc
        have nB1 : B + 1 ≠ ba := by omega
        have nB2 : B + 1 ≠ bb := by omega
        clear t1 t2 u1 u2 c1' c2' v0 hb2 hbc hb0 hsz hba hbb
        obtain ⟨c0, c1, c2, c3, c4, r0, r1, f0, f1, hsz, hb0⟩ := id hbx
        clear c0 c1 c2 r0 r1 f0 f1 hb0
        go_upto_region 4 with fail
        generalize hW3 : wc = W3 at *
        clear hW3
        go_cut [10, 11] (fun s8 s9 wx => ∃ b1 b2, s8 = .pointer (some ⟨b1, 0, none⟩) ∧ s9 = .pointer (some ⟨b2, 0, none⟩) ∧ wx.cell? ⟨b1, 0, none⟩ = some (.int .i64 s.c) ∧ wx.cell? ⟨b1, 1, none⟩ = some (.int .i64 s.d) ∧ wx.cell? ⟨b1, 2, none⟩ = some (.bool false) ∧
          wx.cell? ⟨b2, 0, none⟩ = some (.int .i64 s.c) ∧ wx.cell? ⟨b2, 1, none⟩ = some (.int .i64 s.d) ∧ wx.cell? ⟨b2, 2, none⟩ = some (.bool true) ∧ Below W3.heap.size W3 wx ∧ W3.heap.size ≤ b1 ∧ W3.heap.size ≤ b2)
        case first =>
          have e0 := World.new_ne W3 _ c3
          have e1 := World.new_ne W3 _ c4
          go_region_held3 (fun w' => w'.cell? ⟨B, 3, none⟩ = some (.int .i64 s.c) ∧ w'.cell? ⟨B, 4, none⟩ = some (.int .i64 s.d)) (first | (refine ⟨?_, ?_⟩ <;> (repeat (first | assumption | apply drew_old | apply alloc_old)); done) | go_keep)
            (first
              | (go_at_call 89; refine (equal_eq _ _ _).mono ?_; rintro e w' ⟨rfl, rfl⟩)
              | (go_at_call 90; refine (apart_eq _ _ _).mono ?_; rintro e w' ⟨rfl, rfl⟩))
          all_goals
            go_wp2_with fail
            go_meet
            refine ⟨_, _, rfl, rfl, ?_, ?_, ?_, ?_, ?_, ?_, ?_, by omega, by omega⟩
            all_goals first
              | (repeat (first | (refine alloc_new ?_ rfl; simp; done) | apply drew_old | apply alloc_old)); done
              | (repeat (first | exact Below.refl _ _ | refine Below.drew ?_ | refine Below.alloc ?_ (by simp; try omega) _)); done
        case rest =>
          obtain ⟨b1, b2, rfl, rfl, d1, d2, d3, d4, d5, d6, hbc, hb1, hb2'⟩ := hcut
          replace hbx := hbx.below hbc
          replace m1 := cell_below hbc m1
          replace m2 := cell_below hbc m2
          replace m3 := cell_below hbc m3
          replace m4 := cell_below hbc m4
          have nB3 : B + 1 ≠ b1 := by omega
          have nB4 : B + 1 ≠ b2 := by omega
          clear hbc hb1 hb2' c3 c4 hsz
          have k9 : s.c < 9 := by omega
          have l9 : s.d < 9 := by omega
          go_wp2_with fail
          refine (has_any s.c s.d false xE xA _ k0 k9 l0 l9 hx64.1 hx64.2).mono ?_
          rintro e w5 ⟨rfl, hb⟩
          replace hbx := hbx.below hb
          replace m1 := cell_below hb m1
          replace m2 := cell_below hb m2
          replace m3 := cell_below hb m3
          replace m4 := cell_below hb m4
          replace d1 := cell_below hb d1
          replace d2 := cell_below hb d2
          replace d3 := cell_below hb d3
          replace d4 := cell_below hb d4
          replace d5 := cell_below hb d5
          replace d6 := cell_below hb d6
          clear hb
          cases hh : hasS xE xA ⟨s.c, s.d, false⟩
          · have ho : Hid (okX n ss s = false) := by show okX n ss s = false; rw [Ho.out, hh]; rfl
            obtain ⟨c0, c1, c2, c3, c4, r0, r1, f0, f1, hsz, hb0⟩ := id hbx
            go_wp2_with fail
            exact bodyPost_ret (v := .tuple #[.agg #[.int .u64 0, .int .u64 0], .bool false]) (by simp [results, Try.results83, go_sem, r0, r1]) rfl ⟨by rw [ho.out, yes_no]; rfl, hbx.end HB.out⟩
          · have Hh1 := hide hh
            clear hh
            go_wp2_with fail
            refine (has_any s.c s.d true yE yA _ k0 k9 l0 l9 hy64.1 hy64.2).mono ?_
            rintro e w6 ⟨rfl, hb⟩
            replace hbx := hbx.below hb
            replace m1 := cell_below hb m1
            replace m2 := cell_below hb m2
            replace m3 := cell_below hb m3
            replace m4 := cell_below hb m4
            replace d1 := cell_below hb d1
            replace d2 := cell_below hb d2
            replace d3 := cell_below hb d3
            replace d4 := cell_below hb d4
            replace d5 := cell_below hb d5
            replace d6 := cell_below hb d6
            clear hb
            cases hh : hasS yE yA ⟨s.c, s.d, true⟩
            · have ho : Hid (okX n ss s = false) := by show okX n ss s = false; rw [Ho.out, hh, Hh1.out]; rfl
              obtain ⟨c0, c1, c2, c3, c4, r0, r1, f0, f1, hsz, hb0⟩ := id hbx
              go_wp2_with fail
              exact bodyPost_ret (v := .tuple #[.agg #[.int .u64 0, .int .u64 0], .bool false]) (by simp [results, Try.results83, go_sem, r0, r1]) rfl ⟨by rw [ho.out, yes_no]; rfl, hbx.end HB.out⟩
            · have ho : Hid (okX n ss s = true) := by show okX n ss s = true; rw [Ho.out, hh, Hh1.out]; rfl
              clear hh
              have x64 := wout_lt hx64.1 hx64.2 (t := ⟨s.c, s.d, false⟩)
              have y64 := wout_lt hy64.1 hy64.2 (t := ⟨s.c, s.d, true⟩)
              have hc1 := wout_any s.c s.d false xE xA
              have hc2 := wout_any s.c s.d true yE yA
              have Hc1 := hide hc1
              have Hc2 := hide hc2
              clear hc1 hc2
              go_upto_region 7 with fail
              replace hbx := hbx.drew
              generalize woutE xE ⟨s.c, s.d, false⟩ = PE at *
              generalize woutA xA ⟨s.c, s.d, false⟩ = PA at *
              generalize woutE yE ⟨s.c, s.d, true⟩ = QE at *
              generalize woutA yA ⟨s.c, s.d, true⟩ = QA at *
              go_region_held3 (fun w' => w'.cell? ⟨ba, 0, none⟩ = some (.int .u64 xE) ∧ w'.cell? ⟨ba, 1, none⟩ = some (.int .u64 xA) ∧ w'.cell? ⟨bb, 0, none⟩ = some (.int .u64 yE) ∧ w'.cell? ⟨bb, 1, none⟩ = some (.int .u64 yA) ∧
                w'.cell? ⟨b1, 0, none⟩ = some (.int .i64 s.c) ∧ w'.cell? ⟨b1, 1, none⟩ = some (.int .i64 s.d) ∧ w'.cell? ⟨b1, 2, none⟩ = some (.bool false) ∧
                w'.cell? ⟨b2, 0, none⟩ = some (.int .i64 s.c) ∧ w'.cell? ⟨b2, 1, none⟩ = some (.int .i64 s.d) ∧ w'.cell? ⟨b2, 2, none⟩ = some (.bool true))
                (first | exact keepX (by assumption) hb | go_keep)
                (first
                  | (go_at_call_of 92 (Value.agg #[.int .u64 xE, .int .u64 xA]); refine (Hc1.out _ k0 k9 l0 l9 hx64.1 hx64.2).mono ?_; rintro e w' ⟨rfl, hb⟩; have hbx := hbx.below hb)
                  | (go_at_call 92; refine (Hc2.out _ k0 k9 l0 l9 hy64.1 hy64.2).mono ?_; rintro e w' ⟨rfl, hb⟩; have hbx := hbx.below hb)
                  | (go_at_call 93; refine (union_any _ _ _ _ _ x64.1 x64.2 y64.1 y64.2).mono ?_; rintro e w' ⟨rfl, hb⟩; have hbx := hbx.below hb; obtain ⟨_, _, _, _, _, r0, r1, f0, f1, hsz, hb0⟩ := id hbx))
              all_goals
                go_wp2_with fail
                exact bodyPost_ret (v := .tuple #[.agg #[.int .u64 (PE ||| QE : Nat), .int .u64 (PA ||| QA : Nat)], .bool true]) (by simp [results, Try.results83, go_sem, set_same r0, set_other, r1]) rfl ⟨by rw [ho.out, yes_yes, Hs.out], hbx.end HB.out⟩
end Go.Proofs.Ytmampmbnjdncjaa
