import Derived.Test.YtjebhhoibofmfaaClP
namespace Go.Proofs.Ytjebhhoibofmfaa
open Go.RowKit

/-- What holds of the marks when k pairs have been joined. -/
def CI (ts : List Tm) (ps : List Pr) (m : List Int) (k : Nat) : Prop :=
  m.length = ts.length ∧ (∀ t, t < m.length → 0 ≤ m.getD t 0 ∧ m.getD t 0 < (ts.length : Int)) ∧ Fine ts ps m ∧ ∀ t, t < k → eqB m (ps.getD t pr0).x (ps.getD t pr0).y = true

theorem CI.start (ts : List Tm) (ps : List Pr) : CI ts ps (apart ts.length) 0 := by
  refine ⟨apart_length _, fun t ht => ?_, fun d h1 _ _ a b ha hb he => ?_, fun t ht => by omega⟩
  · rw [apart_length] at ht
    rw [show (apart ts.length).getD t 0 = t from tab_getD _ _ ht]; omega
  · rw [show (apart ts.length).getD a 0 = a from tab_getD _ _ ha, show (apart ts.length).getD b 0 = b from tab_getD _ _ hb] at he
    rw [show a = b by omega]

theorem CI.join {ts : List Tm} {ps : List Pr} {m : List Int} {k a b : Nat} (h : CI ts ps m k) (hp : PairsIn ps ts.length) (hkp : k ≤ ps.length) (ha : a < m.length) (hb : b < m.length)
    (hd : ∀ d : List Int, d.length = ts.length → soundB ts d = true → pairsHold d ps = true → d.getD a 0 = d.getD b 0) : CI ts ps (joinL m (m.getD a 0) (m.getD b 0)) k := by
  obtain ⟨h1, h2, h3, h4⟩ := h
  refine ⟨by rw [joinL_length, h1], joinL_bd ha h2, ?_, ?_⟩
  · intro d e1 e2 e3
    have hc : Coarser m.length m d := by rw [h1]; exact h3 d e1 e2 e3
    have := joinL_into ha hb hc (hd d e1 e2 e3)
    rw [h1] at this
    exact this
  · intro t ht
    obtain ⟨⟨b1, b2⟩, b3, b4⟩ := hp.2 t (by omega)
    exact eqB_iff.2 (joinL_coarser _ _ (by omega) (by omega) (eqB_iff.1 (h4 t ht)))

theorem CI.pair {ts : List Tm} {ps : List Pr} {m : List Int} {k nx ny : Nat} (h : CI ts ps m k) (hp : PairsIn ps ts.length) (hk : k < ps.length) (hx : (ps.getD k pr0).x = nx) (hy : (ps.getD k pr0).y = ny) :
    CI ts ps (joinL m (m.getD nx 0) (m.getD ny 0)) (k + 1) := by
  obtain ⟨⟨b1, b2⟩, b3, b4⟩ := hp.2 k hk
  have hl := h.1
  have ha : nx < m.length := by omega
  have hb : ny < m.length := by omega
  have hd : ∀ d : List Int, d.length = ts.length → soundB ts d = true → pairsHold d ps = true → d.getD nx 0 = d.getD ny 0 := by
    intro d _ _ e3
    have := eqB_iff.1 (allB_iff.1 e3 k hk)
    rw [hx, hy, Int.toNat_natCast, Int.toNat_natCast] at this
    exact this
  have h5 := h.join hp (by omega) ha hb hd
  refine ⟨h5.1, h5.2.1, h5.2.2.1, upto_succ h5.2.2.2 ?_⟩
  refine eqB_iff.2 ?_
  rw [hx, hy, Int.toNat_natCast, Int.toNat_natCast]
  exact joinL_joins ha hb

theorem CI.same {ts : List Tm} {ps : List Pr} {m : List Int} {k nx ny : Nat} (h : CI ts ps m k) (hx : (ps.getD k pr0).x = nx) (hy : (ps.getD k pr0).y = ny) (he : m.getD nx 0 = m.getD ny 0) : CI ts ps m (k + 1) := by
  refine ⟨h.1, h.2.1, h.2.2.1, upto_succ h.2.2.2 (eqB_iff.2 ?_)⟩
  rw [hx, hy, Int.toNat_natCast, Int.toNat_natCast]
  exact he

theorem CI.forced {ts : List Tm} {ps : List Pr} {m : List Int} {k i j : Nat} (h : CI ts ps m k) (hp : PairsIn ps ts.length) (hkp : k ≤ ps.length) (hin : ArgsIn ts ts.length) (hj : j < i) (hi : i < ts.length) (hf : forcedB ts m i j = true) :
    CI ts ps (joinL m (m.getD i 0) (m.getD j 0)) k ∧ marksN ts.length (joinL m (m.getD i 0) (m.getD j 0)) < marksN ts.length m := by
  have hl := h.1
  simp only [forcedB, Bool.and_eq_true, Bool.not_eq_true', decide_eq_false_iff_not] at hf
  refine ⟨h.join hp hkp (by omega) (by omega) (fun d e1 e2 e3 => ?_), marksN_join (by omega) (by omega) h.2.1 hf.1⟩
  exact sound_eq e2 hi hj (mustB_mono hin (h.2.2.1 d e1 e2 e3) hi (by omega) hf.2)

/-- The links so far, and the marks that they give. -/
def JL (ts : List Tm) (ps : List Pr) (m : List Int) (L : List Pr) : Prop := LinksOk ts ps L ∧ m = mksOf ts.length L ∧ L.length + marksN ts.length m ≤ ts.length

theorem marksN_le (n : Nat) (m : List Int) : marksN n m ≤ n := by
  unfold marksN
  have := List.countP_le_length (p := fun v : Nat => decide ((v : Int) ∈ m)) (l := List.range n)
  rwa [List.length_range] at this
theorem JL.start (ts : List Tm) (ps : List Pr) : JL ts ps (apart ts.length) [] := ⟨LinksOk.nil _ _, rfl, by have := marksN_le ts.length (apart ts.length); simpa using this⟩
theorem JL.snoc {ts : List Tm} {ps : List Pr} {m : List Int} {L : List Pr} {k i j : Nat} (h : JL ts ps m L) (hc : CI ts ps m k) (hi : i < ts.length) (hj : j < ts.length) (hn : m.getD i 0 ≠ m.getD j 0)
    (hw : (∃ t, t < ps.length ∧ ps.getD t pr0 = ⟨i, j⟩) ∨ (j < i ∧ mustB ts m i j = true)) : JL ts ps (joinL m (m.getD i 0) (m.getD j 0)) (L ++ [⟨i, j⟩]) := by
  obtain ⟨h1, h2, h3⟩ := h
  have hl := hc.1
  have hm := marksN_join (n := ts.length) (by omega) (by omega) hc.2.1 hn
  refine ⟨h1.snoc hi hj (by rw [← h2]; exact hn) (by rw [← h2]; exact hw), ?_, ?_⟩
  · rw [mksOf_snoc, joinP_nat, ← h2]
  · rw [List.length_append, List.length_singleton]; omega

/-- The worlds of joinAll: the marks' row, and the links'. -/
def JW (w : World) (m : List Int) (L : List Pr) (v : Value) (W : World) : Prop :=
  Row W w.heap.size m ∧ W.ownsRow (w.heap.size + 1) 29 2 v L.length (psCells L) ∧ Below w.heap.size w W

theorem JW.below {w W W' : World} {m : List Int} {L : List Pr} {v : Value} (h : JW w m L v W) (hb : Below W.heap.size W W') : JW w m L v W' :=
  ⟨h.1.below hb h.1.lt, own_below h.2.1 hb, h.2.2.trans (hb.mono h.2.2.size)⟩
theorem JW.join {w W W' : World} {m m' : List Int} {L : List Pr} {v : Value} (h : JW w m L v W) (hr : Row W' w.heap.size m') (hg : W.grownBy W' (some w.heap.size)) : JW w m' L v W' :=
  ⟨hr, own_apart h.2.1 hg (fun k hk => by injection hk with hk; subst hk; exact ⟨_, _, h.1, by decide⟩), h.2.2.grown hg h.2.2.size (fun q hq => by injection hq with hq; omega)⟩
theorem JW.append {w W W' : World} {m : List Int} {L : List Pr} {v v' : Value} {p : Pr} (h : JW w m L v W) (hg : W.grownBy W' v.ownBlock) (ho : W'.ownsRow (w.heap.size + 1) 29 2 v' (L.length + 1) (psCells L ++ prCells p)) :
    JW w m (L ++ [p]) v' W' := by
  refine ⟨h.1.kept hg (fun e => by have := (h.2.1.lt _ e.symm).1; omega), ?_, h.2.2.grown hg h.2.2.size (fun q hq => by have := (h.2.1.lt q hq).1; omega)⟩
  rw [psCells_snoc]; simpa using ho

set_option maxRecDepth 100000 in
set_option maxHeartbeats 2000000 in
theorem joinAll_any (ta pa : Option Addr) (tc pc : Nat) (ts : List Tm) (ps : List Pr) (w : World) (ht : TermsAt w ta ts) (hp : PairsAt w pa ps) (h9 : ts.length ≤ 9) (hin : ArgsIn ts ts.length) (hpin : PairsIn ps ts.length) :
    Calls Try.prog 69 #[.slice ta ts.length tc, .slice pa ps.length pc] w fun e w' => ∃ m L v, e = .returned (.tuple #[.slice (some ⟨w.heap.size, 0, none⟩) ts.length ts.length, v]) ∧
      JW w m L v w' ∧ CI ts ps m ps.length ∧ soundB ts m = true ∧ JL ts ps m L := by
  obtain ⟨i1, hi1, hy0, hy1, hy2⟩ := info_parts info_pair
  have Hin := hide hin
  have Hpin := hide hpin
  have h60 := hpin.1
  clear hin hpin
  go_enter Try.func69, Try.ntmps69
  go_wp2_with fail
  refine (allApart_any ts.length w h9).mono ?_
  rintro e w1 ⟨rfl, hrow1, hb1⟩
  have hown1 : w1.ownsRow (w.heap.size + 1) 29 2 (.slice none 0 0) 0 (psCells []) := ⟨rfl, .inl ⟨rfl, rfl⟩⟩
  have HJ1 : Hid (JW w (apart ts.length) [] (.slice none 0 0) w1) := ⟨hrow1, hown1, hb1⟩
  go_wp2_with fail
  go_loopg [7, 18] ps.length (fun q v s wx => ∃ (k : Nat) (m : List Int) (L : List Pr), q = ps.length - k ∧ k ≤ ps.length ∧ s = .int .i64 k ∧ Hid (CI ts ps m k) ∧ Hid (JL ts ps m L) ∧ JW w m L v wx)
  case atStart => exact ⟨0, _, [], rfl, by omega, rfl, CI.start ts ps, JL.start ts ps, HJ1.out⟩
  case round =>
    obtain ⟨k, m, L, rfl, hk, rfl, Hci, Hjl, hJ⟩ := hrel
    have hrow := hJ.1
    have hbx := hJ.2.2
    obtain ⟨va, vc, rfl⟩ := own_val hJ.2.1
    by_cases hlt : k < ps.length
    · obtain ⟨pb, po, rfl, pcell⟩ := (hp.below hbx).get hlt
      obtain ⟨p1, p2⟩ := pcell k hlt
      obtain ⟨⟨b1, b2⟩, b3, b4⟩ := Hpin.out.2 k hlt
      obtain ⟨nx, hnx⟩ := Int.eq_ofNat_of_zero_le b1
      obtain ⟨ny, hny⟩ := Int.eq_ofNat_of_zero_le b3
      have Hnx := hide hnx
      have Hny := hide hny
      have Hlm : Hid (m.length = ts.length) := Hci.out.1
      rw [hnx] at p1 b2
      rw [hny] at p2 b4
      have hx1 : nx < ts.length := by omega
      have hx2 : ny < ts.length := by omega
      have cx := hrow.cell (k := nx) (by rw [Hlm.out]; omega)
      have cy := hrow.cell (k := ny) (by rw [Hlm.out]; omega)
      have HP : Hid (ps.getD k pr0 = ⟨nx, ny⟩) := by
        show _ = _
        rw [← hnx, ← hny]
      generalize hgx : m.getD nx 0 = gx at *
      generalize hgy : m.getD ny 0 = gy at *
      have HX := hide hgx
      have HY := hide hgy
      clear hnx hny pcell b1 b3 hgx hgy
      obtain ⟨wA, hwA⟩ : ∃ wA, wA = wr.alloc (.cells #[.int .i64 nx, .int .i64 ny] 29) := ⟨_, rfl⟩
      have hbA : Below wr.heap.size wr wA := by rw [hwA]; exact (Below.refl _ _).alloc (Nat.le_refl _) _
      have q0 : wA.cell? ⟨wr.heap.size, 0, none⟩ = some (.int .i64 nx) := by rw [hwA]; simp
      have q1 : wA.cell? ⟨wr.heap.size, 1, none⟩ = some (.int .i64 ny) := by rw [hwA]; simp
      have hJA := hJ.below hbA
      have cxA := cell_below hbA cx
      have cyA := cell_below hbA cy
      have hltA : wr.heap.size < wA.heap.size := block_lt q0
      go_upto_region 6 with fail
      rw [← hwA]
      clear hwA cx cy hbA
      by_cases hne : gx = gy
      · subst hne
        have hnb : (gx != gx) = false := by simp
        go_quiet (fail)
        go_wp2_with fail
        go_roundg (ps.length - (k + 1))
        case measure => omega
        case rel => exact ⟨k + 1, m, L, rfl, by omega, by go_num, Hci.out.same Hnx.out Hny.out (by rw [HX.out, HY.out]), Hjl, hJA.below (below_drewN (Below.refl _ _) _)⟩
      · have hnb : (gx != gy) = true := by simp [hne]
        have Hne := hide hne
        clear hne
        go_quiet (fail)
        go_wp2_with fail
        generalize hwB : wA.drewN _ = wB
        have hbB : Below wA.heap.size wA wB := by rw [← hwB]; exact below_drewN (Below.refl _ _) _
        have q0B := cell_below hbB q0
        have q1B := cell_below hbB q1
        have hJB := hJA.below hbB
        clear hwB q0 q1 cxA cyA hJA
        have hjn := join_any w.heap.size m nx ny wB hJB.1 (by rw [Hlm.out]; exact h9) (by rw [Hlm.out]; omega) (by rw [Hlm.out]; omega)
        rw [Hlm.out, HX.out, HY.out] at hjn
        refine hjn.mono ?_
        clear hjn
        rintro e w2 ⟨rfl, hrow3, hgr⟩
        have hsB := hbB.size
        have hltw := hJ.1.lt
        have hnq : some wr.heap.size ≠ some w.heap.size := fun e => by
          injection e with e
          omega
        have q0C := hgr.cell q0B hnq
        have q1C := hgr.cell q1B hnq
        have hJC := hJB.join hrow3 hgr
        have Hci2 := hide (Hci.out.pair Hpin.out hlt Hnx.out Hny.out)
        have Hjl2 := hide (Hjl.out.snoc Hci.out hx1 hx2 (by rw [HX.out, HY.out]; exact Hne.out) (.inl ⟨k, hlt, HP.out⟩))
        rw [HX.out, HY.out] at Hci2 Hjl2
        generalize joinL m gx gy = m3 at *
        clear hrow3 hgr hJB q0B q1B
        have hL9 : L.length ≤ 9 := by have := Hjl.out.2.2; omega
        obtain ⟨p, hpp⟩ : ∃ p : Pr, p = ⟨nx, ny⟩ := ⟨_, rfl⟩
        have hszC : w.heap.size + 1 ≤ w2.heap.size := hJC.1.lt
        go_wp2_with (at_builtin; refine wpList_append_own _ rfl (.tmp 39) (.tmp 41) 23 rfl (w.heap.size + 1) 29 i1 (.agg #[.int .i64 0, .int .i64 0]) 2 16 Try.underlying23 hi1 hy0 hy1 hy2 rfl (by decide) (.slice va L.length vc) L.length (psCells L) rfl (hJC.2.1.alloc _) ⟨w2.heap.size, 0, none⟩ 1 1 (prCells ⟨nx, ny⟩) rfl rfl (by simpa using new_pr w2 ⟨nx, ny⟩ 29) (prCells_one _) (by unfold maxLen; omega) (by omega) (by simp; omega) ?_)
        intro qv w3 hown2 hgr2 hz2
        clear hz2
        have hJD := (hJC.below ((Below.refl _ _).alloc (Nat.le_refl _) _)).append (p := ⟨nx, ny⟩) hgr2 hown2
        clear hown2 hgr2 hJC
        obtain ⟨qa, qc, hqv⟩ := own_val hJD.2.1
        subst hqv
        go_wp2_with fail
        go_roundg (ps.length - (k + 1))
        case measure => omega
        case rel => exact ⟨k + 1, m3, _, rfl, by omega, by go_num, Hci2, Hjl2, by simpa using hJD⟩
    · have Hci' : Hid (CI ts ps m ps.length) := by have e : k = ps.length := by omega
                                                   rw [e] at Hci; exact Hci
      have Hlm : Hid (m.length = ts.length) := Hci.out.1
      have hff := findForced_any ta _ tc ts.length ts m wr (ht.below hbx) hrow.at (by rw [Hlm.out]; exact Nat.le_refl _) h9 (by rw [Hlm.out]; exact Hin.out)
      rw [Hlm.out] at hff
      have Hff := hide hff
      clear hff
      go_wp2_with fail
      refine Hff.out.mono ?_
      rintro e w2 ⟨i, j, f, rfl, hf1, hf2, hbf⟩
      have hJ2 := hJ.below hbf
      clear hbf hrow
      go_wp2_with fail
      go_loopg [7, 10, 11, 12] (marksN ts.length m) (fun q v s8 s9 s10 wx => ∃ (m : List Int) (L : List Pr) (i j : Nat) (f : Bool), q = marksN ts.length m ∧ s8 = .int .i64 i ∧ s9 = .int .i64 j ∧ s10 = .bool f ∧
        Hid (CI ts ps m ps.length) ∧ Hid (JL ts ps m L) ∧ Hid (f = true → j < i ∧ i < ts.length ∧ forcedB ts m i j = true) ∧ Hid (f = false → ∀ i j, j < i → i < ts.length → forcedB ts m i j = false) ∧ JW w m L v wx)
      case atStart => exact ⟨m, L, i, j, f, rfl, rfl, rfl, rfl, Hci', Hjl, hf1, hf2, hJ2⟩
      case round =>
        obtain ⟨m2, L2, i2, j2, f2, rfl, rfl, rfl, rfl, Hc2, Hjl2, Ht, He, hJw⟩ := hrel
        have Hlm2 : Hid (m2.length = ts.length) := Hc2.out.1
        obtain ⟨va2, vc2, rfl⟩ := own_val hJw.2.1
        cases f2
        · have hsd := hide (soundB_yes (He.out rfl))
          go_wp2_with fail
          go_ret2
          exact ⟨m2, L2, _, rfl, hJw, Hc2.out, hsd.out, Hjl2.out⟩
        · obtain ⟨q1, q2, q3⟩ := Ht.out rfl
          have Hq3 := hide q3
          obtain ⟨n1, n2⟩ := Hc2.out.forced Hpin.out (Nat.le_refl _) Hin.out q1 q2 q3
          have hjn := join_any w.heap.size m2 i2 j2 _ hJw.1 (by rw [Hlm2.out]; exact h9) (by rw [Hlm2.out]; omega) (by rw [Hlm2.out]; omega)
          rw [Hlm2.out] at hjn
          have Hjn := hide hjn
          have N1 := hide n1
          have N2 := hide n2
          have HJ3 : Hid (JL ts ps (joinL m2 (m2.getD i2 0) (m2.getD j2 0)) (L2 ++ [⟨i2, j2⟩])) := by
            have hf := Hq3.out
            simp only [forcedB, Bool.and_eq_true, Bool.not_eq_true', decide_eq_false_iff_not] at hf
            exact Hjl2.out.snoc Hc2.out q2 (by omega) hf.1 (.inr ⟨q1, hf.2⟩)
          clear hjn n1 n2 q3 Hq3
          go_wp2_with fail
          refine Hjn.out.mono ?_
          rintro e w5 ⟨rfl, hrw5, hgr⟩
          generalize joinL m2 (m2.getD i2 0) (m2.getD j2 0) = m3 at *
          have hJ5 := hJw.join hrw5 hgr
          clear hrw5 hgr
          have hL9 : L2.length ≤ 9 := by have := Hjl2.out.2.2; omega
          have hsz5 : w.heap.size + 1 ≤ w5.heap.size := hJ5.1.lt
          go_upto_region 14 with (at_builtin; refine wpList_append_own _ rfl (.tmp 56) (.tmp 60) 23 rfl (w.heap.size + 1) 29 i1 (.agg #[.int .i64 0, .int .i64 0]) 2 16 Try.underlying23 hi1 hy0 hy1 hy2 rfl (by decide) (.slice va2 L2.length vc2) L2.length (psCells L2) rfl (hJ5.2.1.alloc _) ⟨w5.heap.size, 0, none⟩ 1 1 (prCells ⟨i2, j2⟩) rfl rfl (by simpa using new_pr w5 ⟨i2, j2⟩ 29) (prCells_one _) (by unfold maxLen; omega) (by omega) (by simp; omega) ?_; intro qv w6 hown2 hgr2 hz2; clear hz2)
          have hJ6 := (hJ5.below ((Below.refl _ _).alloc (Nat.le_refl _) _)).append (p := ⟨i2, j2⟩) hgr2 hown2
          clear hown2 hgr2 hJ5
          obtain ⟨qa, qc, hqv⟩ := own_val hJ6.2.1
          subst hqv
          have Hlm3 : Hid (m3.length = ts.length) := N1.out.1
          have hff3 := findForced_any ta _ tc ts.length ts m3 w6 (ht.below hJ6.2.2) hJ6.1.at (by rw [Hlm3.out]; exact Nat.le_refl _) h9 (by rw [Hlm3.out]; exact Hin.out)
          rw [Hlm3.out] at hff3
          have Hff3 := hide hff3
          clear hff3
          go_wp2_with fail
          refine Hff3.out.mono ?_
          rintro e w7 ⟨i6, j6, f6, rfl, hf61, hf62, hb6⟩
          have hJ7 := hJ6.below hb6
          have HF1 := hide hf61
          have HF2 := hide hf62
          clear hf61 hf62 hb6
          go_wp2_with fail
          go_roundg (marksN ts.length m3)
          case measure => exact N2.out
          case rel => exact ⟨m3, _, i6, j6, f6, rfl, rfl, rfl, rfl, N1, HJ3, HF1, HF2, by simpa using hJ7⟩

set_option maxRecDepth 100000 in
set_option maxHeartbeats 1000000 in
theorem eqClose_any (ta pa : Option Addr) (tc pc : Nat) (ts : List Tm) (ps : List Pr) (w : World) (ht : TermsAt w ta ts) (hp : PairsAt w pa ps) (h9 : ts.length ≤ 9) (hin : ArgsIn ts ts.length) (hpin : PairsIn ps ts.length) :
    Calls Try.prog 51 #[.slice ta ts.length tc, .slice pa ps.length pc] w fun e w' => ∃ g c, e = .returned (.slice (some ⟨g, 0, none⟩) ts.length ts.length) ∧ Row w' g c ∧ w.heap.size ≤ g ∧ CloseOf ts ps c ∧ Below w.heap.size w w' := by
  have Hin := hide hin
  have Hpin := hide hpin
  clear hin hpin
  go_enter Try.func51, Try.ntmps51
  go_wp2_with fail
  refine (joinAll_any ta pa tc pc ts ps w ht hp h9 Hin.out Hpin.out).mono ?_
  rintro e w1 ⟨m, L, v, rfl, hJ, hci, hsd, hjl⟩
  have hlm : m.length = ts.length := hci.1
  have hcl : CloseOf ts ps (clsAll m) := closeOf_cls h9 hlm Hin.out Hpin.out hsd (allB_yes hci.2.2.2) hci.2.2.1
  have htc := toClasses_any _ ts.length m w1 hJ.1.at (by rw [hlm]; exact h9)
  rw [hlm] at htc
  have Htc := hide htc
  have Hcl := hide hcl
  clear htc hcl hci hsd hjl
  go_wp2_with fail
  refine Htc.out.mono ?_
  rintro e w5 ⟨rfl, hrw5, hb5⟩
  go_wp2_with fail
  go_ret
  exact ⟨_, _, rfl, hrw5, hJ.2.2.size, Hcl.out, hJ.2.2.trans (hb5.mono hJ.2.2.size)⟩

set_option maxRecDepth 100000 in
set_option maxHeartbeats 1000000 in
theorem links_any (ta pa : Option Addr) (tc pc : Nat) (ts : List Tm) (ps : List Pr) (w : World) (ht : TermsAt w ta ts) (hp : PairsAt w pa ps) (h9 : ts.length ≤ 9) (hin : ArgsIn ts ts.length) (hpin : PairsIn ps ts.length) :
    Calls Try.prog 138 #[.slice ta ts.length tc, .slice pa ps.length pc] w fun e w' => ∃ L a cap, e = .returned (.slice a L.length cap) ∧ PairsAt w' a L ∧ LinksOk ts ps L ∧ L.length ≤ 9 ∧
      soundB ts (mksOf ts.length L) = true ∧ CI ts ps (mksOf ts.length L) ps.length ∧ Below w.heap.size w w' := by
  have Hin := hide hin
  have Hpin := hide hpin
  clear hin hpin
  go_enter Try.func138, Try.ntmps138
  go_wp2_with fail
  refine (joinAll_any ta pa tc pc ts ps w ht hp h9 Hin.out Hpin.out).mono ?_
  rintro e w1 ⟨m, L, v, rfl, hJ, hci, hsd, hjl⟩
  obtain ⟨va, vc, rfl⟩ := own_val hJ.2.1
  have hpa := pairsAt_of_own hJ.2.1
  obtain ⟨j1, j2, j3⟩ := hjl
  have hL : L.length ≤ 9 := by omega
  subst j2
  have H1 := hide hci
  have H2 := hide hsd
  have H3 := hide j1
  clear hci hsd j1 j3
  go_wp2_with fail
  go_ret
  exact ⟨L, va, vc, rfl, hpa, H3.out, hL, H2.out, H1.out, hJ.2.2⟩
end Go.Proofs.Ytjebhhoibofmfaa
