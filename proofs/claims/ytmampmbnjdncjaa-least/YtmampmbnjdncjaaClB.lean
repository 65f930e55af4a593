import Derived.Test.YtmampmbnjdncjaaClA
namespace Go.Proofs.Ytmampmbnjdncjaa
open Go.RowKit

/-- What holds of the marks when k pairs have been joined. -/
def CI (ts : List Tm) (ps : List Pr) (m : List Int) (k : Nat) : Prop :=
  m.length = ts.length ∧ (∀ t, t < m.length → 0 ≤ m.getD t 0 ∧ m.getD t 0 < (ts.length : Int)) ∧ Fine ts ps m ∧ ∀ t, t < k → eqB m (ps.getD t pr0).x (ps.getD t pr0).y = true

theorem CI.start (ts : List Tm) (ps : List Pr) : CI ts ps (apart ts.length) 0 := by
  refine ⟨apart_length _, fun t ht => ?_, fun d h1 _ _ a b ha hb he => ?_, fun t ht => by omega⟩
  · rw [apart_length] at ht
    rw [show (apart ts.length).getD t 0 = t from tab_getD _ _ ht]; omega
  · rw [show (apart ts.length).getD a 0 = a from tab_getD _ _ ha, show (apart ts.length).getD b 0 = b from tab_getD _ _ hb] at he
    rw [show a = b by omega]

theorem CI.join {ts : List Tm} {ps : List Pr} {m : List Int} {k a b : Nat} (h : CI ts ps m k) (hp : PairsIn ps ts.length) (hkp : k ≤ ps.length) (ha : a < m.length) (hb : b < m.length)
    (hd : ∀ d : List Int, d.length = ts.length → soundB ts d = true → pairsHold d ps = true → d.getD a 0 = d.getD b 0) : CI ts ps (joinL m (m.getD a 0) (m.getD b 0)) k := by
  obtain ⟨h1, h2, h3, h4⟩ := h
  refine ⟨by rw [joinL_length, h1], joinL_bd ha h2, ?_, ?_⟩
  · intro d e1 e2 e3
    have hc : Coarser m.length m d := by rw [h1]; exact h3 d e1 e2 e3
    have := joinL_into ha hb hc (hd d e1 e2 e3)
    rw [h1] at this
    exact this
  · intro t ht
    obtain ⟨⟨b1, b2⟩, b3, b4⟩ := hp.2 t (by omega)
    exact eqB_iff.2 (joinL_coarser _ _ (by omega) (by omega) (eqB_iff.1 (h4 t ht)))

theorem CI.pair {ts : List Tm} {ps : List Pr} {m : List Int} {k nx ny : Nat} (h : CI ts ps m k) (hp : PairsIn ps ts.length) (hk : k < ps.length) (hx : (ps.getD k pr0).x = nx) (hy : (ps.getD k pr0).y = ny) :
    CI ts ps (joinL m (m.getD nx 0) (m.getD ny 0)) (k + 1) := by
  obtain ⟨⟨b1, b2⟩, b3, b4⟩ := hp.2 k hk
  have hl := h.1
  have ha : nx < m.length := by omega
  have hb : ny < m.length := by omega
  have hd : ∀ d : List Int, d.length = ts.length → soundB ts d = true → pairsHold d ps = true → d.getD nx 0 = d.getD ny 0 := by
    intro d _ _ e3
    have := eqB_iff.1 (allB_iff.1 e3 k hk)
    rw [hx, hy, Int.toNat_natCast, Int.toNat_natCast] at this
    exact this
  have h5 := h.join hp (by omega) ha hb hd
  refine ⟨h5.1, h5.2.1, h5.2.2.1, upto_succ h5.2.2.2 ?_⟩
  refine eqB_iff.2 ?_
  rw [hx, hy, Int.toNat_natCast, Int.toNat_natCast]
  exact joinL_joins ha hb

theorem CI.forced {ts : List Tm} {ps : List Pr} {m : List Int} {k i j : Nat} (h : CI ts ps m k) (hp : PairsIn ps ts.length) (hkp : k ≤ ps.length) (hin : ArgsIn ts ts.length) (hj : j < i) (hi : i < ts.length) (hf : forcedB ts m i j = true) :
    CI ts ps (joinL m (m.getD i 0) (m.getD j 0)) k ∧ marksN ts.length (joinL m (m.getD i 0) (m.getD j 0)) < marksN ts.length m := by
  have hl := h.1
  simp only [forcedB, Bool.and_eq_true, Bool.not_eq_true', decide_eq_false_iff_not] at hf
  refine ⟨h.join hp hkp (by omega) (by omega) (fun d e1 e2 e3 => ?_), marksN_join (by omega) (by omega) h.2.1 hf.1⟩
  exact sound_eq e2 hi hj (mustB_mono hin (h.2.2.1 d e1 e2 e3) hi (by omega) hf.2)

set_option maxRecDepth 100000 in
set_option maxHeartbeats 1000000 in
theorem eqClose_any (ta pa : Option Addr) (tc pc : Nat) (ts : List Tm) (ps : List Pr) (w : World) (ht : TermsAt w ta ts) (hp : PairsAt w pa ps) (h9 : ts.length ≤ 9) (hin : ArgsIn ts ts.length) (hpin : PairsIn ps ts.length) :
    Calls Try.prog 49 #[.slice ta ts.length tc, .slice pa ps.length pc] w fun e w' => ∃ g c, e = .returned (.slice (some ⟨g, 0, none⟩) ts.length ts.length) ∧ Row w' g c ∧ w.heap.size ≤ g ∧ CloseOf ts ps c ∧ Below w.heap.size w w' := by
  have Hin := hide hin
  have Hpin := hide hpin
  have h60 := hpin.1
  clear hin hpin
  go_enter Try.func49, Try.ntmps49
  go_wp2_with fail
  refine (allApart_any ts.length w h9).mono ?_
  rintro e w1 ⟨rfl, hrow1, hb1⟩
  go_wp2_with fail
  go_loopg [16] ps.length (fun q s wx => ∃ (k : Nat) (m : List Int), q = ps.length - k ∧ k ≤ ps.length ∧ s = .int .i64 k ∧ Hid (CI ts ps m k) ∧ Row wx w.heap.size m ∧ Below w.heap.size w wx)
  case atStart => exact ⟨0, _, rfl, by omega, rfl, CI.start ts ps, hrow1, hb1⟩
  case round =>
    obtain ⟨k, m, rfl, hk, rfl, Hci, hrow, hbx⟩ := hrel
    by_cases hlt : k < ps.length
    · obtain ⟨pb, po, rfl, pcell⟩ := (hp.below hbx).get hlt
      obtain ⟨p1, p2⟩ := pcell k hlt
      obtain ⟨⟨b1, b2⟩, b3, b4⟩ := Hpin.out.2 k hlt
      obtain ⟨nx, hnx⟩ := Int.eq_ofNat_of_zero_le b1
      obtain ⟨ny, hny⟩ := Int.eq_ofNat_of_zero_le b3
      have hci2 := Hci.out.pair Hpin.out hlt hnx hny
      have Hci2 := hide hci2
      have Hlm : Hid (m.length = ts.length) := Hci.out.1
      rw [hnx] at p1 b2
      rw [hny] at p2 b4
      have hrow2 : Row (wr.alloc (.cells #[.int .i64 nx, .int .i64 ny] 29)) w.heap.size m := heap_at_old _ _ hrow
      have hjn := join_any w.heap.size m nx ny _ hrow2 (by rw [Hlm.out]; exact h9) (by rw [Hlm.out]; omega) (by rw [Hlm.out]; omega)
      rw [Hlm.out] at hjn
      have Hjn := hide hjn
      clear hjn hnx hny hci2 pcell b1 b3
      go_wp2_with fail
      refine Hjn.out.mono ?_
      rintro e w2 ⟨rfl, hrow3, hgr⟩
      have hb3 : Below w.heap.size w w2 := (hbx.alloc hbx.size _).grown hgr (by have := hbx.size; simp; omega) (fun q hq => by injection hq with hq; omega)
      go_wp2_with fail
      go_roundg (ps.length - (k + 1))
      case measure => omega
      case rel => exact ⟨k + 1, _, rfl, by omega, by go_num, Hci2, hrow3, hb3⟩
    · have Hci' : Hid (CI ts ps m ps.length) := by have e : k = ps.length := by omega
                                                   rw [e] at Hci; exact Hci
      have Hlm : Hid (m.length = ts.length) := Hci.out.1
      have hff := findForced_any ta _ tc ts.length ts m wr (ht.below hbx) hrow.at (by rw [Hlm.out]; exact Nat.le_refl _) h9 (by rw [Hlm.out]; exact Hin.out)
      rw [Hlm.out] at hff
      have Hff := hide hff
      clear hff
      go_wp2_with fail
      refine Hff.out.mono ?_
      rintro e w2 ⟨i, j, f, rfl, hf1, hf2, hbf⟩
      have hrow2 : Row w2 w.heap.size m := hrow.below hbf hrow.lt
      have hb2 : Below w.heap.size w w2 := hbx.trans (hbf.mono hbx.size)
      clear hbf
      go_wp2_with fail
      go_loopg [8, 9, 10] (marksN ts.length m) (fun q s8 s9 s10 wx => ∃ (m : List Int) (i j : Nat) (f : Bool), q = marksN ts.length m ∧ s8 = .int .i64 i ∧ s9 = .int .i64 j ∧ s10 = .bool f ∧
        Hid (CI ts ps m ps.length) ∧ Hid (f = true → j < i ∧ i < ts.length ∧ forcedB ts m i j = true) ∧ Hid (f = false → ∀ i j, j < i → i < ts.length → forcedB ts m i j = false) ∧ Row wx w.heap.size m ∧ Below w.heap.size w wx)
      case atStart => exact ⟨m, i, j, f, rfl, rfl, rfl, rfl, Hci', hf1, hf2, hrow2, hb2⟩
      case round =>
        obtain ⟨m2, i2, j2, f2, rfl, rfl, rfl, rfl, Hc2, Ht, He, hrw, hbw⟩ := hrel
        have Hlm2 : Hid (m2.length = ts.length) := Hc2.out.1
        cases f2
        · have hsd := hide (soundB_yes (He.out rfl))
          have htc := toClasses_any _ ts.length m2 wr hrw.at (by rw [Hlm2.out]; exact h9)
          rw [Hlm2.out] at htc
          have Htc := hide htc
          clear htc
          go_wp2_with fail
          refine Htc.out.mono ?_
          rintro e w5 ⟨rfl, hrw5, hb5⟩
          have hcl : CloseOf ts ps (clsAll m2) := closeOf_cls h9 Hlm2.out Hin.out Hpin.out hsd.out (allB_yes Hc2.out.2.2.2) Hc2.out.2.2.1
          have Hcl := hide hcl
          clear hcl
          go_wp2_with fail
          go_ret
          exact ⟨_, _, rfl, hrw5, hbw.size, Hcl.out, hbw.trans (hb5.mono hbw.size)⟩
        · obtain ⟨q1, q2, q3⟩ := Ht.out rfl
          obtain ⟨n1, n2⟩ := Hc2.out.forced Hpin.out (Nat.le_refl _) Hin.out q1 q2 q3
          have hjn := join_any w.heap.size m2 i2 j2 _ hrw (by rw [Hlm2.out]; exact h9) (by rw [Hlm2.out]; omega) (by rw [Hlm2.out]; omega)
          rw [Hlm2.out] at hjn
          have Hjn := hide hjn
          have N1 := hide n1
          have N2 := hide n2
          clear hjn n1 n2 q3
          go_wp2_with fail
          refine Hjn.out.mono ?_
          rintro e w5 ⟨rfl, hrw5, hgr⟩
          generalize joinL m2 (m2.getD i2 0) (m2.getD j2 0) = m3 at *
          have hb5 : Below w.heap.size w w5 := hbw.grown hgr hbw.size (fun q hq => by injection hq with hq; omega)
          have Hlm3 : Hid (m3.length = ts.length) := N1.out.1
          have hff3 := findForced_any ta _ tc ts.length ts m3 w5 (ht.below hb5) hrw5.at (by rw [Hlm3.out]; exact Nat.le_refl _) h9 (by rw [Hlm3.out]; exact Hin.out)
          rw [Hlm3.out] at hff3
          have Hff3 := hide hff3
          clear hff3
          go_wp2_with fail
          refine Hff3.out.mono ?_
          rintro e w6 ⟨i6, j6, f6, rfl, hf61, hf62, hb6⟩
          have hrw6 : Row w6 w.heap.size m3 := hrw5.below hb6 hrw5.lt
          have hbw6 : Below w.heap.size w w6 := hb5.trans (hb6.mono hb5.size)
          have HF1 := hide hf61
          have HF2 := hide hf62
          clear hf61 hf62 hb6
          go_wp2_with fail
          go_roundg (marksN ts.length m3)
          case measure => exact N2.out
          case rel => exact ⟨m3, i6, j6, f6, rfl, rfl, rfl, rfl, N1, HF1, HF2, hrw6, hbw6⟩
end Go.Proofs.Ytmampmbnjdncjaa
