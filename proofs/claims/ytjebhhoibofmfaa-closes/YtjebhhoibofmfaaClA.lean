import Derived.Test.YtjebhhoibofmfaaMxB
import Derived.Test.YtjebhhoibofmfaaKpI
namespace Go.Proofs.Ytjebhhoibofmfaa
open Go.RowKit

set_option maxRecDepth 100000 in
set_option maxHeartbeats 400000 in
theorem allApart_any (n : Nat) (w : World) (h9 : n ≤ 9) :
    Calls Try.prog 82 #[.int .i64 n] w fun e w' => e = .returned (.slice (some ⟨w.heap.size, 0, none⟩) n n) ∧ Row w' w.heap.size (apart n) ∧ Below w.heap.size w w' := by
  obtain ⟨i1, hi1, hy0, hy1, hy2⟩ := info_parts info_int
  go_enter Try.func82, Try.ntmps82
  go_wp2_with (at_make; refine wpList_make_row _ rfl _ _ 24 rfl 3 i1 (.int .i64 0) Try.underlying24 hi1 hy0 hy1 rfl _ _ n rfl rfl (by rw [hy2]; omega) (by omega) ?_)
  have hrow0 : Row (w.alloc (.cells (madeCells #[.int .i64 0] n) 3)) w.heap.size (upto n 0) := by
    unfold Row; rw [upto_zero, ← made_zeros]; exact heap_at_new _ _ _ rfl
  have hb0 : Below w.heap.size w (w.alloc (.cells (madeCells #[.int .i64 0] n) 3)) := (Below.refl _ _).alloc (Nat.le_refl _) _
  go_loopg [9] n (fun q s wx => ∃ i : Nat, q = n - i ∧ i ≤ n ∧ s = .int .i64 i ∧ Row wx w.heap.size (upto n i) ∧ Below w.heap.size w wx)
  case atStart => exact ⟨0, rfl, by omega, rfl, hrow0, hb0⟩
  case round =>
    obtain ⟨i, rfl, hi, rfl, hrow, hbx⟩ := hrel
    by_cases hlt : i < n
    · have ci := hrow.cell (k := i) (by unfold upto; rw [tab_length]; exact hlt)
      have fi := hrow.frozen i
      generalize (upto n i).getD i 0 = cv at *
      go_wp2_with fail
      go_roundg (n - (i + 1))
      case measure => omega
      case rel => exact ⟨i + 1, rfl, by omega, by go_num, by rw [← upto_set]; exact hrow.set _ _, hbx.setCell (Nat.le_refl _) _⟩
    · have Hin2 : Hid (i = n) := by show i = n; omega
      go_wp2_with fail
      go_ret
      exact ⟨rfl, by rw [← upto_all]; rw [Hin2.out] at hrow; exact hrow, hbx⟩

def joinTo (m : List Int) (s g : Int) (k : Nat) : List Int := tab m.length (fun t => if t < k ∧ m.getD t 0 = g then s else m.getD t 0)
theorem joinTo_length (m : List Int) (s g : Int) (k : Nat) : (joinTo m s g k).length = m.length := tab_length _ _
theorem joinTo_zero (m : List Int) (s g : Int) : joinTo m s g 0 = m := by
  conv => rhs; rw [← tab_self m]
  exact tab_congr (fun t _ => by rw [if_neg (by omega)])
theorem joinTo_all (m : List Int) (s g : Int) : joinTo m s g m.length = joinL m s g := by
  refine tab_congr (fun t h => ?_)
  by_cases h1 : m.getD t 0 = g
  · rw [if_pos ⟨h, h1⟩, if_pos h1]
  · rw [if_neg (fun h2 => h1 h2.2), if_neg h1]
theorem joinTo_get {m : List Int} {s g : Int} {k : Nat} (hk : k < m.length) : (joinTo m s g k).getD k 0 = m.getD k 0 := by
  unfold joinTo; rw [tab_getD _ _ hk, if_neg (by omega)]
theorem joinTo_set {m : List Int} {s g : Int} {k : Nat} (h : m.getD k 0 = g) : (joinTo m s g k).set k s = joinTo m s g (k + 1) := by
  unfold joinTo
  rw [tab_set]
  refine tab_congr (fun t _ => ?_)
  by_cases h1 : t = k
  · subst h1; rw [if_pos rfl, if_pos ⟨by omega, h⟩]
  · rw [if_neg h1]
    by_cases h2 : t < k ∧ m.getD t 0 = g
    · rw [if_pos h2, if_pos ⟨by omega, h2.2⟩]
    · rw [if_neg h2, if_neg (fun h3 => h2 ⟨by omega, h3.2⟩)]
theorem joinTo_keep {m : List Int} {s g : Int} {k : Nat} (h : m.getD k 0 ≠ g) : joinTo m s g k = joinTo m s g (k + 1) := by
  refine tab_congr (fun t _ => ?_)
  by_cases h2 : t < k ∧ m.getD t 0 = g
  · rw [if_pos h2, if_pos ⟨by omega, h2.2⟩]
  · rw [if_neg h2, if_neg (fun h3 => by
      by_cases h4 : t = k
      · subst h4; exact h h3.2
      · exact h2 ⟨by omega, h3.2⟩)]

set_option maxRecDepth 100000 in
set_option maxHeartbeats 400000 in
theorem join_any (r : Nat) (m : List Int) (a b : Nat) (w : World) (hr : Row w r m) (h9 : m.length ≤ 9) (ha : a < m.length) (hb : b < m.length) :
    Calls Try.prog 83 #[.slice (some ⟨r, 0, none⟩) m.length m.length, .int .i64 a, .int .i64 b] w fun e w' => e = .returned (.tuple #[]) ∧ Row w' r (joinL m (m.getD a 0) (m.getD b 0)) ∧ w.grownBy w' (some r) := by
  have ca := hr.cell ha
  have cb := hr.cell hb
  have Hst : Hid (∀ s g, joinTo m s g 0 = m) := joinTo_zero m
  generalize m.getD a 0 = s at *
  generalize m.getD b 0 = g at *
  go_enter Try.func83, Try.ntmps83
  go_upto_region 0 with fail
  go_quiet (fail)
  go_wp2_with fail
  go_loopg [20] m.length (fun q v wx => ∃ k : Nat, q = m.length - k ∧ k ≤ m.length ∧ v = .int .i64 k ∧ Row wx r (joinTo m s g k) ∧ w.grownBy wx (some r))
  case atStart => exact ⟨0, rfl, by omega, rfl, by rw [Hst.out]; exact hr, ⟨rfl, rfl, rfl, Nat.le_refl _, fun _ _ _ => rfl⟩⟩
  case round =>
    obtain ⟨k, rfl, hk, rfl, hrow, hgr⟩ := hrel
    by_cases hlt : k < m.length
    · have ck := hrow.cell (k := k) (by rw [joinTo_length]; exact hlt)
      have fk := hrow.frozen k
      rw [joinTo_get hlt] at ck
      by_cases he : m.getD k 0 = g
      · have he1 : (m.getD k 0 == g) = true := beq_iff_eq.2 he
        have Hs : Hid ((joinTo m s g k).set k s = joinTo m s g (k + 1)) := joinTo_set he
        clear he
        generalize m.getD k 0 = v at *
        go_wp2_with fail
        go_roundg (m.length - (k + 1))
        case measure => omega
        case rel => exact ⟨k + 1, rfl, by omega, by go_num, by rw [← Hs.out]; exact hrow.set _ _, grown_set hgr⟩
      · have he1 : (m.getD k 0 == g) = false := beq_eq_false_iff_ne.2 he
        have Hs : Hid (joinTo m s g k = joinTo m s g (k + 1)) := joinTo_keep he
        clear he
        generalize m.getD k 0 = v at *
        go_wp2_with fail
        go_roundg (m.length - (k + 1))
        case measure => omega
        case rel => exact ⟨k + 1, rfl, by omega, by go_num, by rw [← Hs.out]; exact hrow, hgr⟩
    · have Hkl : Hid (k = m.length) := by show k = m.length; omega
      go_wp2_with fail
      go_end0
      exact ⟨rfl, by rw [← joinTo_all]; rw [Hkl.out] at hrow; exact hrow, hgr⟩

set_option maxRecDepth 100000 in
set_option maxHeartbeats 400000 in
theorem firstWith_any (a : Option Addr) (cap : Nat) (m : List Int) (t : Nat) (w : World) (hr : IntsAt w a m) (h9 : m.length ≤ 9) (ht : t < m.length) :
    Calls Try.prog 84 #[.slice a m.length cap, .int .i64 (m.getD t 0)] w fun e w' => ∃ f : Nat, e = .returned (.int .i64 f) ∧ FirstOf m t f ∧ w' = w := by
  obtain ⟨b, o, rfl, hc⟩ := hr.get ht
  have Hc := hide hc
  have Hv : Hid (m.getD t 0 = m.getD t 0) := rfl
  clear hc
  generalize hv : m.getD t 0 = v at *
  have Hvt := hide hv
  clear hv
  go_enter Try.func84, Try.ntmps84
  go_wp2_with fail
  go_loopg [5] t (fun q s wx => ∃ k : Nat, q = t - k ∧ k ≤ t ∧ s = .int .i64 k ∧ Hid (∀ u, u < k → m.getD u 0 ≠ v) ∧ wx = w)
  case atStart => exact ⟨0, by omega, by omega, rfl, (fun u hu => by omega), rfl⟩
  case round =>
    obtain ⟨k, rfl, hk, rfl, Hk, rfl⟩ := hrel
    have ck := Hc.out k (by omega)
    by_cases he : m.getD k 0 = v
    · have he1 : (m.getD k 0 != v) = false := by rw [he]; exact bne_self_eq_false _
      have Hf : Hid (FirstOf m t k) := ⟨hk, by rw [he, Hvt.out], fun u hu => by rw [Hvt.out]; exact Hk.out u hu⟩
      clear he
      generalize m.getD k 0 = x at *
      go_wp2_with fail
      go_ret
      exact ⟨k, rfl, Hf.out, rfl⟩
    · have he1 : (m.getD k 0 != v) = true := bne_iff_ne.2 he
      have Hne : Hid (∀ u, u < k + 1 → m.getD u 0 ≠ v) := upto_succ Hk.out he
      have hkt : k < t := by
        rcases Nat.lt_or_ge k t with h | h
        · exact h
        · exact absurd Hvt.out (by rw [show t = k by omega]; exact he)
      clear he
      generalize m.getD k 0 = x at *
      go_wp2_with fail
      go_roundg (t - (k + 1))
      case measure => omega
      case rel => exact ⟨k + 1, rfl, by omega, by go_num, Hne, rfl⟩

set_option maxRecDepth 100000 in
set_option maxHeartbeats 400000 in
theorem toClasses_any (a : Option Addr) (cap : Nat) (m : List Int) (w : World) (hr : IntsAt w a m) (h9 : m.length ≤ 9) :
    Calls Try.prog 70 #[.slice a m.length cap] w fun e w' => e = .returned (.slice (some ⟨w.heap.size, 0, none⟩) m.length m.length) ∧ Row w' w.heap.size (clsAll m) ∧ Below w.heap.size w w' := by
  obtain ⟨i1, hi1, hy0, hy1, hy2⟩ := info_parts info_int
  go_enter Try.func70, Try.ntmps70
  go_wp2_with (at_make; refine wpList_make_row _ rfl _ _ 24 rfl 3 i1 (.int .i64 0) Try.underlying24 hi1 hy0 hy1 rfl _ _ m.length rfl rfl (by rw [hy2]; omega) (by omega) ?_)
  have hrow0 : Row (w.alloc (.cells (madeCells #[.int .i64 0] m.length) 3)) w.heap.size (clsTo m 0) := by
    unfold Row; rw [clsTo_zero, ← made_zeros]; exact heap_at_new _ _ _ rfl
  have hb0 : Below w.heap.size w (w.alloc (.cells (madeCells #[.int .i64 0] m.length) 3)) := (Below.refl _ _).alloc (Nat.le_refl _) _
  go_loopg [4, 13] m.length (fun q s4 s wx => ∃ k : Nat, q = m.length - k ∧ k ≤ m.length ∧ s = .int .i64 k ∧ s4 = .int .i64 (rk m k) ∧ Row wx w.heap.size (clsTo m k) ∧ Below w.heap.size w wx)
  case atStart => exact ⟨0, rfl, by omega, rfl, rfl, hrow0, hb0⟩
  case round =>
    obtain ⟨k, rfl, hk, rfl, rfl, hrow, hbx⟩ := hrel
    by_cases hlt : k < m.length
    · have hr' := hr.below hbx
      obtain ⟨b, o, rfl, hc⟩ := hr'.get hlt
      have ck := hc k hlt
      have Hc := hide hc
      have hfw := firstWith_any _ cap m k wr hr' h9 hlt
      have Hfw := hide hfw
      have hrk := rk_le m k
      clear hc hfw
      generalize hv : m.getD k 0 = v at *
      have Hv := hide hv
      clear hv
      go_wp2_with fail
      refine Hfw.out.mono ?_
      rintro e w' ⟨f, rfl, hf, rfl⟩
      have hfk := hf.1
      have fk := hrow.frozen k
      have kk := hrow.cell (k := k) (by rw [clsTo_length]; exact hlt)
      have kf := hrow.cell (k := f) (by rw [clsTo_length]; omega)
      generalize (clsTo m k).getD k 0 = oldk at *
      by_cases hlf : f < k
      · have Hset : Hid ((clsTo m k).set k ((clsTo m k).getD f 0) = clsTo m (k + 1)) := by
          show (clsTo m k).set k ((clsTo m k).getD f 0) = clsTo m (k + 1)
          rw [clsTo_getD (by omega) hlf, (clsOf_iff m f k).2 hf.2.1]
          exact clsTo_set m k
        have Hrk : Hid (rk m (k + 1) = rk m k) := by
          show rk m k + _ = _
          rw [if_neg (fun h => by have := FirstOf.uniq hf (FirstOf.self h) rfl; omega)]; rfl
        generalize (clsTo m k).getD f 0 = vf at *
        have Hff := hide hf
        clear hf
        go_wp2_with fail
        go_roundg (m.length - (k + 1))
        case measure => omega
        case rel => exact ⟨k + 1, rfl, by omega, by go_num, by rw [Hrk.out], by rw [← Hset.out]; exact hrow.set _ _, hbx.setCell (Nat.le_refl _) _⟩
      · have hfe : f = k := by omega
        subst hfe
        have Hset : Hid ((clsTo m f).set f (rk m f) = clsTo m (f + 1)) := by
          show (clsTo m f).set f (rk m f) = clsTo m (f + 1)
          rw [← clsTo_set m f, clsOf_eq hf]
        have Hrk : Hid (rk m (f + 1) = rk m f + 1) := by
          show rk m f + _ = _
          rw [if_pos hf.isFirst]
        have Hff := hide hf
        clear hf kf
        go_wp2_with fail
        go_roundg (m.length - (f + 1))
        case measure => omega
        case rel => exact ⟨f + 1, rfl, by omega, by go_num, by rw [Hrk.out]; go_num, by rw [← Hset.out]; exact hrow.set _ _, hbx.setCell (Nat.le_refl _) _⟩
    · have Hkl : Hid (k = m.length) := by show k = m.length; omega
      go_wp2_with fail
      go_ret
      exact ⟨rfl, by rw [← clsTo_all]; rw [Hkl.out] at hrow; exact hrow, hbx⟩
end Go.Proofs.Ytjebhhoibofmfaa
