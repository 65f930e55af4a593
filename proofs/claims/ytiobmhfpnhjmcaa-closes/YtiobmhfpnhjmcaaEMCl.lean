import Derived.Test.YtiobmhfpnhjmcaaEMMd
import Derived.Test.YtiobmhfpnhjmcaaEMKp
namespace Go.Proofs.Ytiobmhfpnhjmcaa
open Go.RowKit
set_option maxRecDepth 100000 in
set_option maxHeartbeats 400000 in
theorem allApart_any (n : Nat) (w : World) (h9 : n ≤ 9) :
    Calls Try.prog 48 #[.int .i64 n] w fun e w' => e = .returned (.slice (some ⟨w.heap.size, 0, none⟩) n n) ∧ Row w' w.heap.size (apart n) ∧ Below w.heap.size w w' := by
  obtain ⟨i1, hi1, hy0, hy1, hy2⟩ := info_parts info_int
  go_enter Try.func48, Try.ntmps48
  go_wp2_with (at_make; refine wpList_make_row _ rfl _ _ 24 rfl 3 i1 (.int .i64 0) Try.underlying24 hi1 hy0 hy1 rfl _ _ n rfl rfl (by rw [hy2]; omega) (by omega) ?_)
  have hrow0 : Row (w.alloc (.cells (madeCells #[.int .i64 0] n) 3)) w.heap.size (upto n 0) := by
    unfold Row; rw [upto_zero, ← made_zeros]; exact heap_at_new _ _ _ rfl
  have hb0 : Below w.heap.size w (w.alloc (.cells (madeCells #[.int .i64 0] n) 3)) := (Below.refl _ _).alloc (Nat.le_refl _) _
  go_loopg [9] n (fun q s wx => ∃ i : Nat, q = n - i ∧ i ≤ n ∧ s = .int .i64 i ∧ Row wx w.heap.size (upto n i) ∧ Below w.heap.size w wx)
  case atStart => exact ⟨0, rfl, by omega, rfl, hrow0, hb0⟩
  case round =>
    obtain ⟨i, rfl, hi, rfl, hrow, hbx⟩ := hrel
    by_cases hlt : i < n
    · have ci := hrow.cell (k := i) (by unfold upto; rw [tab_length]; exact hlt)
      have fi := hrow.frozen i
      generalize (upto n i).getD i 0 = cv at *
      go_wp2_with fail
      go_roundg (n - (i + 1))
      case measure => omega
      case rel => exact ⟨i + 1, rfl, by omega, by go_num, by rw [← upto_set]; exact hrow.set _ _, hbx.setCell (Nat.le_refl _) _⟩
    · have Hin2 : Hid (i = n) := by show i = n; omega
      go_wp2_with fail
      go_ret
      exact ⟨rfl, by rw [← upto_all]; rw [Hin2.out] at hrow; exact hrow, hbx⟩
def joinTo (m : List Int) (s g : Int) (k : Nat) : List Int := tab m.length (fun t => if t < k ∧ m.getD t 0 = g then s else m.getD t 0)
theorem joinTo_length (m : List Int) (s g : Int) (k : Nat) : (joinTo m s g k).length = m.length := tab_length _ _
theorem joinTo_zero (m : List Int) (s g : Int) : joinTo m s g 0 = m := by
  conv => rhs; rw [← tab_self m]
  exact tab_congr (fun t _ => by rw [if_neg (by omega)])
theorem joinTo_all (m : List Int) (s g : Int) : joinTo m s g m.length = joinL m s g := by
  refine tab_congr (fun t h => ?_)
  by_cases h1 : m.getD t 0 = g
  · rw [if_pos ⟨h, h1⟩, if_pos h1]
  · rw [if_neg (fun h2 => h1 h2.2), if_neg h1]
theorem joinTo_get {m : List Int} {s g : Int} {k : Nat} (hk : k < m.length) : (joinTo m s g k).getD k 0 = m.getD k 0 := by
  unfold joinTo; rw [tab_getD _ _ hk, if_neg (by omega)]
theorem joinTo_set {m : List Int} {s g : Int} {k : Nat} (h : m.getD k 0 = g) : (joinTo m s g k).set k s = joinTo m s g (k + 1) := by
  unfold joinTo
  rw [tab_set]
  refine tab_congr (fun t _ => ?_)
  by_cases h1 : t = k
  · subst h1; rw [if_pos rfl, if_pos ⟨by omega, h⟩]
  · rw [if_neg h1]
    by_cases h2 : t < k ∧ m.getD t 0 = g
    · rw [if_pos h2, if_pos ⟨by omega, h2.2⟩]
    · rw [if_neg h2, if_neg (fun h3 => h2 ⟨by omega, h3.2⟩)]
theorem joinTo_keep {m : List Int} {s g : Int} {k : Nat} (h : m.getD k 0 ≠ g) : joinTo m s g k = joinTo m s g (k + 1) := by
  refine tab_congr (fun t _ => ?_)
  by_cases h2 : t < k ∧ m.getD t 0 = g
  · rw [if_pos h2, if_pos ⟨by omega, h2.2⟩]
  · rw [if_neg h2, if_neg (fun h3 => by
      by_cases h4 : t = k
      · subst h4; exact h h3.2
      · exact h2 ⟨by omega, h3.2⟩)]
set_option maxRecDepth 100000 in
set_option maxHeartbeats 400000 in
theorem join_any (r : Nat) (m : List Int) (a b : Nat) (w : World) (hr : Row w r m) (h9 : m.length ≤ 9) (ha : a < m.length) (hb : b < m.length) :
    Calls Try.prog 49 #[.slice (some ⟨r, 0, none⟩) m.length m.length, .int .i64 a, .int .i64 b] w fun e w' => e = .returned (.tuple #[]) ∧ Row w' r (joinL m (m.getD a 0) (m.getD b 0)) ∧ w.grownBy w' (some r) := by
  have ca := hr.cell ha
  have cb := hr.cell hb
  have Hst : Hid (∀ s g, joinTo m s g 0 = m) := joinTo_zero m
  generalize m.getD a 0 = s at *
  generalize m.getD b 0 = g at *
  go_enter Try.func49, Try.ntmps49
  go_upto_region 0 with fail
  go_quiet (fail)
  go_wp2_with fail
  go_loopg [20] m.length (fun q v wx => ∃ k : Nat, q = m.length - k ∧ k ≤ m.length ∧ v = .int .i64 k ∧ Row wx r (joinTo m s g k) ∧ w.grownBy wx (some r))
  case atStart => exact ⟨0, rfl, by omega, rfl, by rw [Hst.out]; exact hr, ⟨rfl, rfl, rfl, Nat.le_refl _, fun _ _ _ => rfl⟩⟩
  case round =>
    obtain ⟨k, rfl, hk, rfl, hrow, hgr⟩ := hrel
    by_cases hlt : k < m.length
    · have ck := hrow.cell (k := k) (by rw [joinTo_length]; exact hlt)
      have fk := hrow.frozen k
      rw [joinTo_get hlt] at ck
      by_cases he : m.getD k 0 = g
      · have he1 : (m.getD k 0 == g) = true := beq_iff_eq.2 he
        have Hs : Hid ((joinTo m s g k).set k s = joinTo m s g (k + 1)) := joinTo_set he
        clear he
        generalize m.getD k 0 = v at *
        go_wp2_with fail
        go_roundg (m.length - (k + 1))
        case measure => omega
        case rel => exact ⟨k + 1, rfl, by omega, by go_num, by rw [← Hs.out]; exact hrow.set _ _, grown_set hgr⟩
      · have he1 : (m.getD k 0 == g) = false := beq_eq_false_iff_ne.2 he
        have Hs : Hid (joinTo m s g k = joinTo m s g (k + 1)) := joinTo_keep he
        clear he
        generalize m.getD k 0 = v at *
        go_wp2_with fail
        go_roundg (m.length - (k + 1))
        case measure => omega
        case rel => exact ⟨k + 1, rfl, by omega, by go_num, by rw [← Hs.out]; exact hrow, hgr⟩
    · have Hkl : Hid (k = m.length) := by show k = m.length; omega
      go_wp2_with fail
      go_end0
      exact ⟨rfl, by rw [← joinTo_all]; rw [Hkl.out] at hrow; exact hrow, hgr⟩
set_option maxRecDepth 100000 in
set_option maxHeartbeats 400000 in
theorem firstWith_any (a : Option Addr) (cap : Nat) (m : List Int) (t : Nat) (w : World) (hr : IntsAt w a m) (h9 : m.length ≤ 9) (ht : t < m.length) :
    Calls Try.prog 54 #[.slice a m.length cap, .int .i64 (m.getD t 0)] w fun e w' => ∃ f : Nat, e = .returned (.int .i64 f) ∧ FirstOf m t f ∧ w' = w := by
  obtain ⟨b, o, rfl, hc⟩ := hr.get ht
  have Hc := hide hc
  have Hv : Hid (m.getD t 0 = m.getD t 0) := rfl
  clear hc
  generalize hv : m.getD t 0 = v at *
  have Hvt := hide hv
  clear hv
  go_enter Try.func54, Try.ntmps54
  go_wp2_with fail
  go_loopg [5] t (fun q s wx => ∃ k : Nat, q = t - k ∧ k ≤ t ∧ s = .int .i64 k ∧ Hid (∀ u, u < k → m.getD u 0 ≠ v) ∧ wx = w)
  case atStart => exact ⟨0, by omega, by omega, rfl, (fun u hu => by omega), rfl⟩
  case round =>
    obtain ⟨k, rfl, hk, rfl, Hk, rfl⟩ := hrel
    have ck := Hc.out k (by omega)
    by_cases he : m.getD k 0 = v
    · have he1 : (m.getD k 0 != v) = false := by rw [he]; exact bne_self_eq_false _
      have Hf : Hid (FirstOf m t k) := ⟨hk, by rw [he, Hvt.out], fun u hu => by rw [Hvt.out]; exact Hk.out u hu⟩
      clear he
      generalize m.getD k 0 = x at *
      go_wp2_with fail
      go_ret
      exact ⟨k, rfl, Hf.out, rfl⟩
    · have he1 : (m.getD k 0 != v) = true := bne_iff_ne.2 he
      have Hne : Hid (∀ u, u < k + 1 → m.getD u 0 ≠ v) := upto_succ Hk.out he
      have hkt : k < t := by
        rcases Nat.lt_or_ge k t with h | h
        · exact h
        · exact absurd Hvt.out (by rw [show t = k by omega]; exact he)
      clear he
      generalize m.getD k 0 = x at *
      go_wp2_with fail
      go_roundg (t - (k + 1))
      case measure => omega
      case rel => exact ⟨k + 1, rfl, by omega, by go_num, Hne, rfl⟩
set_option maxRecDepth 100000 in
set_option maxHeartbeats 400000 in
theorem toClasses_any (a : Option Addr) (cap : Nat) (m : List Int) (w : World) (hr : IntsAt w a m) (h9 : m.length ≤ 9) :
    Calls Try.prog 50 #[.slice a m.length cap] w fun e w' => e = .returned (.slice (some ⟨w.heap.size, 0, none⟩) m.length m.length) ∧ Row w' w.heap.size (clsAll m) ∧ Below w.heap.size w w' := by
  obtain ⟨i1, hi1, hy0, hy1, hy2⟩ := info_parts info_int
  go_enter Try.func50, Try.ntmps50
  go_wp2_with (at_make; refine wpList_make_row _ rfl _ _ 24 rfl 3 i1 (.int .i64 0) Try.underlying24 hi1 hy0 hy1 rfl _ _ m.length rfl rfl (by rw [hy2]; omega) (by omega) ?_)
  have hrow0 : Row (w.alloc (.cells (madeCells #[.int .i64 0] m.length) 3)) w.heap.size (clsTo m 0) := by
    unfold Row; rw [clsTo_zero, ← made_zeros]; exact heap_at_new _ _ _ rfl
  have hb0 : Below w.heap.size w (w.alloc (.cells (madeCells #[.int .i64 0] m.length) 3)) := (Below.refl _ _).alloc (Nat.le_refl _) _
  go_loopg [4, 13] m.length (fun q s4 s wx => ∃ k : Nat, q = m.length - k ∧ k ≤ m.length ∧ s = .int .i64 k ∧ s4 = .int .i64 (rk m k) ∧ Row wx w.heap.size (clsTo m k) ∧ Below w.heap.size w wx)
  case atStart => exact ⟨0, rfl, by omega, rfl, rfl, hrow0, hb0⟩
  case round =>
    obtain ⟨k, rfl, hk, rfl, rfl, hrow, hbx⟩ := hrel
    by_cases hlt : k < m.length
    · have hr' := hr.below hbx
      obtain ⟨b, o, rfl, hc⟩ := hr'.get hlt
      have ck := hc k hlt
      have Hc := hide hc
      have hfw := firstWith_any _ cap m k wr hr' h9 hlt
      have Hfw := hide hfw
      have hrk := rk_le m k
      clear hc hfw
      generalize hv : m.getD k 0 = v at *
      have Hv := hide hv
      clear hv
      go_wp2_with fail
      refine Hfw.out.mono ?_
      rintro e w' ⟨f, rfl, hf, rfl⟩
      have hfk := hf.1
      have fk := hrow.frozen k
      have kk := hrow.cell (k := k) (by rw [clsTo_length]; exact hlt)
      have kf := hrow.cell (k := f) (by rw [clsTo_length]; omega)
      generalize (clsTo m k).getD k 0 = oldk at *
      by_cases hlf : f < k
      · have Hset : Hid ((clsTo m k).set k ((clsTo m k).getD f 0) = clsTo m (k + 1)) := by
          show (clsTo m k).set k ((clsTo m k).getD f 0) = clsTo m (k + 1)
          rw [clsTo_getD (by omega) hlf, (clsOf_iff m f k).2 hf.2.1]
          exact clsTo_set m k
        have Hrk : Hid (rk m (k + 1) = rk m k) := by
          show rk m k + _ = _
          rw [if_neg (fun h => by have := FirstOf.uniq hf (FirstOf.self h) rfl; omega)]; rfl
        generalize (clsTo m k).getD f 0 = vf at *
        have Hff := hide hf
        clear hf
        go_wp2_with fail
        go_roundg (m.length - (k + 1))
        case measure => omega
        case rel => exact ⟨k + 1, rfl, by omega, by go_num, by rw [Hrk.out], by rw [← Hset.out]; exact hrow.set _ _, hbx.setCell (Nat.le_refl _) _⟩
      · have hfe : f = k := by omega
        subst hfe
        have Hset : Hid ((clsTo m f).set f (rk m f) = clsTo m (f + 1)) := by
          show (clsTo m f).set f (rk m f) = clsTo m (f + 1)
          rw [← clsTo_set m f, clsOf_eq hf]
        have Hrk : Hid (rk m (f + 1) = rk m f + 1) := by
          show rk m f + _ = _
          rw [if_pos hf.isFirst]
        have Hff := hide hf
        clear hf kf
        go_wp2_with fail
        go_roundg (m.length - (f + 1))
        case measure => omega
        case rel => exact ⟨f + 1, rfl, by omega, by go_num, by rw [Hrk.out]; go_num, by rw [← Hset.out]; exact hrow.set _ _, hbx.setCell (Nat.le_refl _) _⟩
    · have Hkl : Hid (k = m.length) := by show k = m.length; omega
      go_wp2_with fail
      go_ret
      exact ⟨rfl, by rw [← clsTo_all]; rw [Hkl.out] at hrow; exact hrow, hbx⟩
end Go.Proofs.Ytiobmhfpnhjmcaa
namespace Go.Proofs.Ytiobmhfpnhjmcaa
open Go.RowKit
def CI (ts : List Tm) (ps : List Pr) (m : List Int) (k : Nat) : Prop :=
  m.length = ts.length ∧ (∀ t, t < m.length → 0 ≤ m.getD t 0 ∧ m.getD t 0 < (ts.length : Int)) ∧ Fine ts ps m ∧ ∀ t, t < k → eqB m (ps.getD t pr0).x (ps.getD t pr0).y = true
theorem CI.start (ts : List Tm) (ps : List Pr) : CI ts ps (apart ts.length) 0 := by
  refine ⟨apart_length _, fun t ht => ?_, fun d h1 _ _ a b ha hb he => ?_, fun t ht => by omega⟩
  · rw [apart_length] at ht
    rw [show (apart ts.length).getD t 0 = t from tab_getD _ _ ht]; omega
  · rw [show (apart ts.length).getD a 0 = a from tab_getD _ _ ha, show (apart ts.length).getD b 0 = b from tab_getD _ _ hb] at he
    rw [show a = b by omega]
theorem CI.join {ts : List Tm} {ps : List Pr} {m : List Int} {k a b : Nat} (h : CI ts ps m k) (hp : PairsIn ps ts.length) (hkp : k ≤ ps.length) (ha : a < m.length) (hb : b < m.length)
    (hd : ∀ d : List Int, d.length = ts.length → soundB ts d = true → pairsHold d ps = true → d.getD a 0 = d.getD b 0) : CI ts ps (joinL m (m.getD a 0) (m.getD b 0)) k := by
  obtain ⟨h1, h2, h3, h4⟩ := h
  refine ⟨by rw [joinL_length, h1], joinL_bd ha h2, ?_, ?_⟩
  · intro d e1 e2 e3
    have hc : Coarser m.length m d := by rw [h1]; exact h3 d e1 e2 e3
    have := joinL_into ha hb hc (hd d e1 e2 e3)
    rw [h1] at this
    exact this
  · intro t ht
    obtain ⟨⟨b1, b2⟩, b3, b4⟩ := hp.2 t (by omega)
    exact eqB_iff.2 (joinL_coarser _ _ (by omega) (by omega) (eqB_iff.1 (h4 t ht)))
theorem CI.pair {ts : List Tm} {ps : List Pr} {m : List Int} {k nx ny : Nat} (h : CI ts ps m k) (hp : PairsIn ps ts.length) (hk : k < ps.length) (hx : (ps.getD k pr0).x = nx) (hy : (ps.getD k pr0).y = ny) :
    CI ts ps (joinL m (m.getD nx 0) (m.getD ny 0)) (k + 1) := by
  obtain ⟨⟨b1, b2⟩, b3, b4⟩ := hp.2 k hk
  have hl := h.1
  have ha : nx < m.length := by omega
  have hb : ny < m.length := by omega
  have hd : ∀ d : List Int, d.length = ts.length → soundB ts d = true → pairsHold d ps = true → d.getD nx 0 = d.getD ny 0 := by
    intro d _ _ e3
    have := eqB_iff.1 (allB_iff.1 e3 k hk)
    rw [hx, hy, Int.toNat_natCast, Int.toNat_natCast] at this
    exact this
  have h5 := h.join hp (by omega) ha hb hd
  refine ⟨h5.1, h5.2.1, h5.2.2.1, upto_succ h5.2.2.2 ?_⟩
  refine eqB_iff.2 ?_
  rw [hx, hy, Int.toNat_natCast, Int.toNat_natCast]
  exact joinL_joins ha hb
theorem CI.forced {ts : List Tm} {ps : List Pr} {m : List Int} {k i j : Nat} (h : CI ts ps m k) (hp : PairsIn ps ts.length) (hkp : k ≤ ps.length) (hin : ArgsIn ts ts.length) (hj : j < i) (hi : i < ts.length) (hf : forcedB ts m i j = true) :
    CI ts ps (joinL m (m.getD i 0) (m.getD j 0)) k ∧ marksN ts.length (joinL m (m.getD i 0) (m.getD j 0)) < marksN ts.length m := by
  have hl := h.1
  simp only [forcedB, Bool.and_eq_true, Bool.not_eq_true', decide_eq_false_iff_not] at hf
  refine ⟨h.join hp hkp (by omega) (by omega) (fun d e1 e2 e3 => ?_), marksN_join (by omega) (by omega) h.2.1 hf.1⟩
  exact sound_eq e2 hi hj (mustB_mono hin (h.2.2.1 d e1 e2 e3) hi (by omega) hf.2)
set_option maxRecDepth 100000 in
set_option maxHeartbeats 1000000 in
theorem eqClose_any (ta pa : Option Addr) (tc pc : Nat) (ts : List Tm) (ps : List Pr) (w : World) (ht : TermsAt w ta ts) (hp : PairsAt w pa ps) (h9 : ts.length ≤ 9) (hin : ArgsIn ts ts.length) (hpin : PairsIn ps ts.length) :
    Calls Try.prog 35 #[.slice ta ts.length tc, .slice pa ps.length pc] w fun e w' => ∃ g c, e = .returned (.slice (some ⟨g, 0, none⟩) ts.length ts.length) ∧ Row w' g c ∧ w.heap.size ≤ g ∧ CloseOf ts ps c ∧ Below w.heap.size w w' := by
  have Hin := hide hin
  have Hpin := hide hpin
  have h60 := hpin.1
  clear hin hpin
  go_enter Try.func35, Try.ntmps35
  go_wp2_with fail
  refine (allApart_any ts.length w h9).mono ?_
  rintro e w1 ⟨rfl, hrow1, hb1⟩
  go_wp2_with fail
  go_loopg [16] ps.length (fun q s wx => ∃ (k : Nat) (m : List Int), q = ps.length - k ∧ k ≤ ps.length ∧ s = .int .i64 k ∧ Hid (CI ts ps m k) ∧ Row wx w.heap.size m ∧ Below w.heap.size w wx)
  case atStart => exact ⟨0, _, rfl, by omega, rfl, CI.start ts ps, hrow1, hb1⟩
  case round =>
    obtain ⟨k, m, rfl, hk, rfl, Hci, hrow, hbx⟩ := hrel
    by_cases hlt : k < ps.length
    · obtain ⟨pb, po, rfl, pcell⟩ := (hp.below hbx).get hlt
      obtain ⟨p1, p2⟩ := pcell k hlt
      obtain ⟨⟨b1, b2⟩, b3, b4⟩ := Hpin.out.2 k hlt
      obtain ⟨nx, hnx⟩ := Int.eq_ofNat_of_zero_le b1
      obtain ⟨ny, hny⟩ := Int.eq_ofNat_of_zero_le b3
      have hci2 := Hci.out.pair Hpin.out hlt hnx hny
      have Hci2 := hide hci2
      have Hlm : Hid (m.length = ts.length) := Hci.out.1
      rw [hnx] at p1 b2
      rw [hny] at p2 b4
      have hrow2 : Row (wr.alloc (.cells #[.int .i64 nx, .int .i64 ny] 29)) w.heap.size m := heap_at_old _ _ hrow
      have hjn := join_any w.heap.size m nx ny _ hrow2 (by rw [Hlm.out]; exact h9) (by rw [Hlm.out]; omega) (by rw [Hlm.out]; omega)
      rw [Hlm.out] at hjn
      have Hjn := hide hjn
      clear hjn hnx hny hci2 pcell b1 b3
      go_wp2_with fail
      refine Hjn.out.mono ?_
      rintro e w2 ⟨rfl, hrow3, hgr⟩
      have hb3 : Below w.heap.size w w2 := (hbx.alloc hbx.size _).grown hgr (by have := hbx.size; simp; omega) (fun q hq => by injection hq with hq; omega)
      go_wp2_with fail
      go_roundg (ps.length - (k + 1))
      case measure => omega
      case rel => exact ⟨k + 1, _, rfl, by omega, by go_num, Hci2, hrow3, hb3⟩
    · have Hci' : Hid (CI ts ps m ps.length) := by have e : k = ps.length := by omega
                                                   rw [e] at Hci; exact Hci
      have Hlm : Hid (m.length = ts.length) := Hci.out.1
      have hff := findForced_any ta _ tc ts.length ts m wr (ht.below hbx) hrow.at (by rw [Hlm.out]; exact Nat.le_refl _) h9 (by rw [Hlm.out]; exact Hin.out)
      rw [Hlm.out] at hff
      have Hff := hide hff
      clear hff
      go_wp2_with fail
      refine Hff.out.mono ?_
      rintro e w2 ⟨i, j, f, rfl, hf1, hf2, hbf⟩
      have hrow2 : Row w2 w.heap.size m := hrow.below hbf hrow.lt
      have hb2 : Below w.heap.size w w2 := hbx.trans (hbf.mono hbx.size)
      clear hbf
      go_wp2_with fail
      go_loopg [8, 9, 10] (marksN ts.length m) (fun q s8 s9 s10 wx => ∃ (m : List Int) (i j : Nat) (f : Bool), q = marksN ts.length m ∧ s8 = .int .i64 i ∧ s9 = .int .i64 j ∧ s10 = .bool f ∧
        Hid (CI ts ps m ps.length) ∧ Hid (f = true → j < i ∧ i < ts.length ∧ forcedB ts m i j = true) ∧ Hid (f = false → ∀ i j, j < i → i < ts.length → forcedB ts m i j = false) ∧ Row wx w.heap.size m ∧ Below w.heap.size w wx)
      case atStart => exact ⟨m, i, j, f, rfl, rfl, rfl, rfl, Hci', hf1, hf2, hrow2, hb2⟩
      case round =>
        obtain ⟨m2, i2, j2, f2, rfl, rfl, rfl, rfl, Hc2, Ht, He, hrw, hbw⟩ := hrel
        have Hlm2 : Hid (m2.length = ts.length) := Hc2.out.1
        cases f2
        · have hsd := hide (soundB_yes (He.out rfl))
          have htc := toClasses_any _ ts.length m2 wr hrw.at (by rw [Hlm2.out]; exact h9)
          rw [Hlm2.out] at htc
          have Htc := hide htc
          clear htc
          go_wp2_with fail
          refine Htc.out.mono ?_
          rintro e w5 ⟨rfl, hrw5, hb5⟩
          have hcl : CloseOf ts ps (clsAll m2) := closeOf_cls h9 Hlm2.out Hin.out Hpin.out hsd.out (allB_yes Hc2.out.2.2.2) Hc2.out.2.2.1
          have Hcl := hide hcl
          clear hcl
          go_wp2_with fail
          go_ret
          exact ⟨_, _, rfl, hrw5, hbw.size, Hcl.out, hbw.trans (hb5.mono hbw.size)⟩
        · obtain ⟨q1, q2, q3⟩ := Ht.out rfl
          obtain ⟨n1, n2⟩ := Hc2.out.forced Hpin.out (Nat.le_refl _) Hin.out q1 q2 q3
          have hjn := join_any w.heap.size m2 i2 j2 _ hrw (by rw [Hlm2.out]; exact h9) (by rw [Hlm2.out]; omega) (by rw [Hlm2.out]; omega)
          rw [Hlm2.out] at hjn
          have Hjn := hide hjn
          have N1 := hide n1
          have N2 := hide n2
          clear hjn n1 n2 q3
          go_wp2_with fail
          refine Hjn.out.mono ?_
          rintro e w5 ⟨rfl, hrw5, hgr⟩
          generalize joinL m2 (m2.getD i2 0) (m2.getD j2 0) = m3 at *
          have hb5 : Below w.heap.size w w5 := hbw.grown hgr hbw.size (fun q hq => by injection hq with hq; omega)
          have Hlm3 : Hid (m3.length = ts.length) := N1.out.1
          have hff3 := findForced_any ta _ tc ts.length ts m3 w5 (ht.below hb5) hrw5.at (by rw [Hlm3.out]; exact Nat.le_refl _) h9 (by rw [Hlm3.out]; exact Hin.out)
          rw [Hlm3.out] at hff3
          have Hff3 := hide hff3
          clear hff3
          go_wp2_with fail
          refine Hff3.out.mono ?_
          rintro e w6 ⟨i6, j6, f6, rfl, hf61, hf62, hb6⟩
          have hrw6 : Row w6 w.heap.size m3 := hrw5.below hb6 hrw5.lt
          have hbw6 : Below w.heap.size w w6 := hb5.trans (hb6.mono hb5.size)
          have HF1 := hide hf61
          have HF2 := hide hf62
          clear hf61 hf62 hb6
          go_wp2_with fail
          go_roundg (marksN ts.length m3)
          case measure => exact N2.out
          case rel => exact ⟨m3, i6, j6, f6, rfl, rfl, rfl, rfl, N1, HF1, HF2, hrw6, hbw6⟩
end Go.Proofs.Ytiobmhfpnhjmcaa
namespace Go.Proofs.Ytiobmhfpnhjmcaa
open Go.RowKit
set_option maxHeartbeats 400000 in
theorem pairs_any (n : Int) (pa : Option Addr) (pc : Nat) (ps : List Pr) (w : World) (hps : PairsAt w pa ps) :
    Calls Try.prog 34 #[.slice pa ps.length pc, .int .i64 n] w fun e w' => e = .returned (.bool (pairsB n ps)) ∧ Below w.heap.size w w' := by
  by_cases h6 : ps.length ≤ 60
  · go_enter Try.func34, Try.ntmps34
    go_wp2_with fail
    go_loopg [12] ps.length (fun g v wr => ∃ k : Nat, g = ps.length - k ∧ k ≤ ps.length ∧ v = .int .i64 k ∧ Hid (∀ t, t < k → pairOk n (ps.getD t pr0) = true) ∧ Below w.heap.size w wr)
    case atStart => exact ⟨0, by omega, Nat.zero_le _, rfl, (fun t h => by omega), Below.refl _ _⟩
    case round =>
      obtain ⟨k, rfl, hk, rfl, Hk, hb⟩ := hrel
      by_cases hlt : k < ps.length
      · obtain ⟨lb, lo, rfl, lcell⟩ := (hps.below hb).get hlt
        obtain ⟨l1, l2⟩ := lcell k hlt
        have hst : pairOk n (ps.getD k pr0) = (belowB (ps.getD k pr0).x n && belowB (ps.getD k pr0).y n) := rfl
        generalize (ps.getD k pr0).x = vx at *
        generalize (ps.getD k pr0).y = vy at *
        have Hst := hide hst
        clear hst lcell
        cases hx : belowB vx n
        · go_wp2_with (go_at_call 41; refine (isBelow_any _ _ _).mono ?_; rintro e w' ⟨rfl, rfl⟩)
          go_ret
          exact ⟨ret_bool (by rw [pairsB_no k hlt (by rw [Hst.out, hx]; rfl)]), hb.alloc hb.size _⟩
        · cases hy : belowB vy n
          · go_wp2_with (go_at_call 41; refine (isBelow_any _ _ _).mono ?_; rintro e w' ⟨rfl, rfl⟩)
            go_ret
            exact ⟨ret_bool (by rw [pairsB_no k hlt (by rw [Hst.out, hx, hy]; rfl)]), hb.alloc hb.size _⟩
          · go_wp2_with (go_at_call 41; refine (isBelow_any _ _ _).mono ?_; rintro e w' ⟨rfl, rfl⟩)
            go_roundg (ps.length - (k + 1))
            case measure => omega
            case rel => exact ⟨k + 1, rfl, by omega, by go_num, upto_succ Hk.out (by rw [Hst.out, hx, hy]; rfl), hb.alloc hb.size _⟩
      · go_wp2_with fail
        go_ret
        exact ⟨ret_bool (by rw [pairsB_yes h6 (fun t ht => Hk.out t (by omega))]), hb⟩
  · go_enter Try.func34, Try.ntmps34
    go_wp2_with fail
    go_ret
    exact ⟨ret_bool (by simp [pairsB, h6]), Below.refl _ _⟩
def CloseEnds (ts : List Tm) (ps : List Pr) (w w' : World) (e : Ending) : Prop :=
  (termsB ts = false ∧ e = .returned (.tuple #[.slice none 0 0, .int .i64 1])) ∨
  (termsB ts = true ∧ pairsB ts.length ps = false ∧ e = .returned (.tuple #[.slice none 0 0, .int .i64 2])) ∨
  (termsB ts = true ∧ pairsB ts.length ps = true ∧ ∃ g c, e = .returned (.tuple #[.slice (some ⟨g, 0, none⟩) ts.length ts.length, .int .i64 0]) ∧ Row w' g c ∧ w.heap.size ≤ g ∧ CloseOf ts ps c)
set_option maxHeartbeats 400000 in
theorem close_any (ta pa : Option Addr) (tc pc : Nat) (ts : List Tm) (ps : List Pr) (w : World) (ht : TermsAt w ta ts) (hp : PairsAt w pa ps) :
    Calls Try.prog 14 #[.slice ta ts.length tc, .slice pa ps.length pc] w fun e w' => CloseEnds ts ps w w' e ∧ Below w.heap.size w w' := by
  go_enter Try.func14, Try.ntmps14
  go_wp2_with fail
  refine (terms_any ta tc ts w ht).mono ?_
  rintro e w1 ⟨rfl, hb1⟩
  cases h1 : termsB ts
  · go_wp2_with fail
    go_ret2
    exact ⟨.inl ⟨h1, rfl⟩, hb1⟩
  · have H1 := hide h1
    clear h1
    go_wp2_with fail
    refine (pairs_any ts.length pa pc ps w1 (hp.below hb1)).mono ?_
    rintro e w2 ⟨rfl, hb2⟩
    have hb12 : Below w.heap.size w w2 := hb1.trans (hb2.mono hb1.size)
    cases h2 : pairsB ts.length ps
    · go_wp2_with fail
      go_ret2
      exact ⟨.inr (.inl ⟨H1.out, h2, rfl⟩), hb12⟩
    · have H2 := hide h2
      clear h2
      go_wp2_with fail
      refine (eqClose_any ta pa tc pc ts ps w2 (ht.below hb12) (hp.below hb12) (len_of H1.out).2 (argsIn_of H1.out (Nat.le_refl _)) (pairsIn_of H2.out)).mono ?_
      rintro e w3 ⟨g, c, rfl, hrow, hg, hcl, hb3⟩
      have Hcl := hide hcl
      clear hcl
      go_wp2_with fail
      go_ret2
      exact ⟨.inr (.inr ⟨H1.out, H2.out, g, c, rfl, hrow, Nat.le_trans hb12.size hg, Hcl.out⟩), hb12.trans (hb3.mono hb12.size)⟩
end Go.Proofs.Ytiobmhfpnhjmcaa
namespace Go.Proofs.Ytiobmhfpnhjmcaa
open Go.RowKit
theorem info_pair : (Try.prog.info? 29).map (fun i => (i.zero, i.size, i.bytes)) = some (some (.agg #[.int .i64 0, .int .i64 0]), 2, 16) := by kernel_rfl
def prCells (p : Pr) : List Value := [.int .i64 p.x, .int .i64 p.y]
def psCells (ps : List Pr) : List Value := ps.flatMap prCells
theorem psCells_get (ps : List Pr) : ∀ i, i < ps.length → (psCells ps)[i * 2]? = some (.int .i64 (ps.getD i pr0).x) ∧ (psCells ps)[i * 2 + 1]? = some (.int .i64 (ps.getD i pr0).y) := by
  induction ps with
  | nil => intro i hi; simp at hi
  | cons t ts ih =>
    intro i hi
    cases i with
    | zero => exact ⟨rfl, rfl⟩
    | succ i =>
      have := ih i (by simpa using hi)
      have e1 : (i + 1) * 2 = i * 2 + 2 := by omega
      have hc : psCells (t :: ts) = .int .i64 t.x :: .int .i64 t.y :: psCells ts := rfl
      rw [e1, hc]
      simpa using this
theorem prCells_one (p : Pr) : ∀ u ∈ prCells p, u.oneCell' = true := by
  intro u hu
  simp [prCells] at hu
  rcases hu with rfl | rfl <;> rfl
def joinP (m : List Int) (p : Pr) : List Int := joinL m (m.getD p.x.toNat 0) (m.getD p.y.toNat 0)
def mksOf (n : Nat) (L : List Pr) : List Int := L.foldl joinP (apart n)
def LinksOk (ts : List Tm) (ps L : List Pr) : Prop :=
  ∀ k, k < L.length → ∃ i j : Nat, L.getD k pr0 = ⟨i, j⟩ ∧ i < ts.length ∧ j < ts.length ∧ (mksOf ts.length (L.take k)).getD i 0 ≠ (mksOf ts.length (L.take k)).getD j 0 ∧
    ((∃ t, t < ps.length ∧ ps.getD t pr0 = ⟨i, j⟩) ∨ (j < i ∧ mustB ts (mksOf ts.length (L.take k)) i j = true))
theorem LinksOk.snoc {ts : List Tm} {ps L : List Pr} (h : LinksOk ts ps L) {i j : Nat} (hi : i < ts.length) (hj : j < ts.length)
    (hn : (mksOf ts.length L).getD i 0 ≠ (mksOf ts.length L).getD j 0)
    (hw : (∃ t, t < ps.length ∧ ps.getD t pr0 = ⟨i, j⟩) ∨ (j < i ∧ mustB ts (mksOf ts.length L) i j = true)) : LinksOk ts ps (L ++ [⟨i, j⟩]) := by
  intro k hk
  rw [List.length_append, List.length_singleton] at hk
  by_cases hl : k < L.length
  · obtain ⟨i', j', h1, h2⟩ := h k hl
    refine ⟨i', j', ?_, ?_⟩
    · rw [List.getD_eq_getElem?_getD, List.getElem?_append_left hl, ← List.getD_eq_getElem?_getD]; exact h1
    · rw [List.take_append_of_le_length (by omega)]; exact h2
  · have e : k = L.length := by omega
    subst e
    refine ⟨i, j, ?_, ?_⟩
    · rw [List.getD_eq_getElem?_getD, List.getElem?_append_right (Nat.le_refl _), Nat.sub_self]; rfl
    · rw [List.take_left]; exact ⟨hi, hj, hn, hw⟩
end Go.Proofs.Ytiobmhfpnhjmcaa
