import Derived.Test.YtjebhhoibofmfaaXSsA
namespace Go.Proofs.Ytjebhhoibofmfaa
open Go.RowKit

def overS (os : List St) (k : Nat) : List St := List.replicate k (stM (-99)) ++ os.drop k
theorem overS_length (os : List St) {k : Nat} (h : k ≤ os.length) : (overS os k).length = os.length := by simp [overS]; omega
theorem overS_get (os : List St) {k : Nat} : (overS os k).getD k st0 = os.getD k st0 := by
  simp [overS, List.getElem?_append_right]
theorem overS_set (os : List St) {k : Nat} (h : k < os.length) : (overS os k).set k (stM (-99)) = overS os (k + 1) := by
  unfold overS
  rw [List.set_append_right _ _ (by simp), List.length_replicate, Nat.sub_self, List.drop_eq_getElem_cons h, List.set_cons_zero, List.replicate_succ']
  simp

theorem stillSteps_nil (la : Option Addr) (n lc : Nat) (w : World) : Calls Try.prog 45 #[.slice none 0 0, .slice la n lc] w fun e w' => e = .returned (.bool true) ∧ w' = w := by
  go_enter Try.func45, Try.ntmps45
  go_wp2_with fail
  refine wp_loop_rounds 1 ?_
  rw [rounds_succ]
  go_wp2_with fail
  go_ret
  exact ⟨rfl, rfl⟩

set_option maxRecDepth 100000 in
set_option maxHeartbeats 2000000 in
theorem stillSteps_any (W : World) (g m cap : Nat) (os : List St) (la : Option Addr) (lc : Nat) (xs : List St) (w : World) (hW : Below W.heap.size W w) (hg : W.heap.size ≤ g) (hx : StepsAt W la xs) (hrow : SRow w g os) (hm : m ≤ os.length)
    (hbig : os.length ≤ 4611686018427387904) (hmt : ∀ i, i < m → os.getD i st0 = if i < xs.length then xs.getD i st0 else stM (-77)) :
    Calls Try.prog 45 #[.slice (some ⟨g, 0, none⟩) m cap, .slice la xs.length lc] w fun e w' => e = .returned (.bool true) ∧ w.grownBy w' (some g) := by
  have Hmt := hide hmt
  clear hmt
  have hglt := hrow.lt
  go_enter Try.func45, Try.ntmps45
  go_wp2_with fail
  go_loopg [5] m (fun q s wx => ∃ k : Nat, q = m - k ∧ k ≤ m ∧ s = .int .i64 k ∧ SRow wx g (overS os k) ∧ w.grownBy wx (some g))
  case atStart => exact ⟨0, rfl, by omega, rfl, hrow, World.grownBy.refl _ _⟩
  case round =>
    obtain ⟨k, rfl, hk, rfl, hr, hgr⟩ := hrel
    by_cases hlt : k < m
    · obtain ⟨c0, c1, c2, c3, c4⟩ := hr.cell (k := k) (by rw [overS_length _ (by omega)]; omega)
      have f0 := hr.frozen (k * 5)
      have f1 := hr.frozen (k * 5 + 1)
      have f2 := hr.frozen (k * 5 + 2)
      have f3 := hr.frozen (k * 5 + 3)
      have f4 := hr.frozen (k * 5 + 4)
      have hgw := hr.lt
      rw [overS_get] at c0 c1 c2 c3 c4
      have hk1 := Hmt.out k hlt
      have Hs : Hid ((overS os k).set k (stM (-99)) = overS os (k + 1)) := overS_set os (by omega)
      have Hl : Hid (k < (overS os k).length) := by show _ < _; rw [overS_length _ (by omega)]; omega
      by_cases hl : k < xs.length
      · rw [if_pos hl] at hk1
        have hbx : Below W.heap.size W wr := hW.grown hgr hW.size (fun q hq => by injection hq with hq; omega)
        obtain ⟨b, o, rfl, xc⟩ := (hx.below hbx).get hl
        obtain ⟨x0, x1, x2, x3, x4⟩ := xc k hl
        have hbw := block_lt x0
        rw [hk1] at c0 c1 c2 c3 c4
        clear hk1 xc
        have hg1 : decide ((xs.length : Int) ≤ (k : Int)) = false := by simp; omega
        have hg2 : decide (xs.length ≤ k) = false := by simp; omega
        generalize (xs.getD k st0).r = v1 at *
        generalize (xs.getD k st0).a = v2 at *
        generalize (xs.getD k st0).b = v3 at *
        generalize (xs.getD k st0).c = v4 at *
        generalize (xs.getD k st0).d = v5 at *
        go_upto_region 5 with fail
        go_quiet (fail)
        go_wp2_with fail
        go_roundg (m - (k + 1))
        case measure => omega
        case rel => exact ⟨k + 1, rfl, by omega, by go_num, by rw [← Hs.out]; exact SRow.set (heap_at_old _ _ hr) Hl.out (stM (-99)), grown_set (grown_set (grown_set (grown_set (grown_set (grown_drewN (grown_alloc hgr _) _)))))⟩
      · rw [if_neg hl] at hk1
        rw [hk1] at c0 c1 c2 c3 c4
        clear hk1
        simp only [stM] at c0 c1 c2 c3 c4
        have hg1 : decide ((k : Int) < (xs.length : Int)) = false := by simp; omega
        have hg2 : decide (xs.length ≤ k) = true := by simp; omega
        have hg3 : decide (k < xs.length) = false := by simp; omega
        go_upto_region 5 with fail
        go_quiet (fail)
        go_wp2_with fail
        go_roundg (m - (k + 1))
        case measure => omega
        case rel => exact ⟨k + 1, rfl, by omega, by go_num, by rw [← Hs.out]; exact SRow.set (heap_at_old _ _ hr) Hl.out (stM (-99)), grown_set (grown_set (grown_set (grown_set (grown_set (grown_drewN (grown_alloc hgr _) _)))))⟩
    · go_wp2_with fail
      go_ret
      exact ⟨rfl, hgr⟩

set_option maxRecDepth 100000 in
set_option maxHeartbeats 400000 in
theorem sameLits_any (a b : Option Addr) (ac bc : Nat) (xs : List Lt) (w : World) (ha : LitsAt w a xs) (hb : LitsAt w b xs) (hl : xs.length ≤ 4611686018427387904) :
    Calls Try.prog 47 #[.slice a xs.length ac, .slice b xs.length bc] w fun e w' => e = .returned (.bool true) ∧ ∃ n, w' = w.drewN n := by
  have hne : ((xs.length : Int) != (xs.length : Int)) = false := by simp
  go_enter Try.func47, Try.ntmps47
  go_wp2_with fail
  go_loopg [5] xs.length (fun g s wr => ∃ k : Nat, g = xs.length - k ∧ k ≤ xs.length ∧ s = .int .i64 k ∧ ∃ n, wr = w.drewN n)
  case atStart => exact ⟨0, by omega, Nat.zero_le _, rfl, 0, rfl⟩
  case round =>
    obtain ⟨k, rfl, hk, rfl, n0, rfl⟩ := hrel
    by_cases hlt : k < xs.length
    · obtain ⟨ab, ao, rfl, acell⟩ := ha.get hlt
      obtain ⟨bb, bo, rfl, bcell⟩ := hb.get hlt
      obtain ⟨a1, a2, a3⟩ := acell k hlt
      obtain ⟨b1, b2, b3⟩ := bcell k hlt
      generalize (xs.getD k lt0).x = v1 at *
      generalize (xs.getD k lt0).y = v2 at *
      generalize (xs.getD k lt0).n = v3 at *
      clear acell bcell
      go_upto_region 6 with fail
      go_quiet (fail)
      go_wp2_with fail
      go_roundg (xs.length - (k + 1))
      case measure => omega
      case rel => exact ⟨k + 1, by omega, by omega, by go_num, _, rfl⟩
    · go_wp2_with fail
      go_ret
      exact ⟨rfl, _, rfl⟩
end Go.Proofs.Ytjebhhoibofmfaa
