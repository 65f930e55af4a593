import Derived.Test.YtjebhhoibofmfaaLwA
namespace Go.Proofs.Ytjebhhoibofmfaa
open Go.RowKit

def over (os : List Int) (k : Nat) : List Int := List.replicate k (-99) ++ os.drop k
theorem over_zero (os : List Int) : over os 0 = os := rfl
theorem over_length (os : List Int) {k : Nat} (h : k ≤ os.length) : (over os k).length = os.length := by simp [over]; omega
theorem over_get (os : List Int) {k : Nat} : (over os k).getD k 0 = os.getD k 0 := by
  simp [over, List.getElem?_append_right]
theorem over_set (os : List Int) {k : Nat} (h : k < os.length) : (over os k).set k (-99) = over os (k + 1) := by
  unfold over
  rw [List.set_append_right _ _ (by simp), List.length_replicate, Nat.sub_self, List.drop_eq_getElem_cons h, List.set_cons_zero, List.replicate_succ']
  simp

theorem stillInts_nil (la : Option Addr) (n lc : Nat) (w : World) : Calls Try.prog 40 #[.slice none 0 0, .slice la n lc] w fun e w' => e = .returned (.bool true) ∧ w' = w := by
  go_enter Try.func40, Try.ntmps40
  go_wp2_with fail
  refine wp_loop_rounds 1 ?_
  rw [rounds_succ]
  go_wp2_with fail
  go_ret
  exact ⟨rfl, rfl⟩

set_option maxRecDepth 100000 in
set_option maxHeartbeats 1000000 in
theorem stillInts_any (W : World) (g m cap : Nat) (os : List Int) (la : Option Addr) (lc : Nat) (xs : List Int) (w : World) (hW : Below W.heap.size W w) (hg : W.heap.size ≤ g) (hx : IntsAt W la xs) (hrow : Row w g os) (hm : m ≤ os.length)
    (hbig : os.length ≤ 4611686018427387904) (hmt : ∀ i, i < m → os.getD i 0 = if i < xs.length then xs.getD i 0 else -77) :
    Calls Try.prog 40 #[.slice (some ⟨g, 0, none⟩) m cap, .slice la xs.length lc] w fun e w' => e = .returned (.bool true) ∧ Row w' g (over os m) ∧ w.grownBy w' (some g) := by
  have Hmt := hide hmt
  clear hmt
  go_enter Try.func40, Try.ntmps40
  go_wp2_with fail
  go_loopg [5] m (fun q s wx => ∃ k : Nat, q = m - k ∧ k ≤ m ∧ s = .int .i64 k ∧ Row wx g (over os k) ∧ w.grownBy wx (some g))
  case atStart => exact ⟨0, rfl, by omega, rfl, hrow, World.grownBy.refl _ _⟩
  case round =>
    obtain ⟨k, rfl, hk, rfl, hr, hgr⟩ := hrel
    by_cases hlt : k < m
    · have ck := hr.cell (k := k) (by rw [over_length _ (by omega)]; omega)
      have fk := hr.frozen k
      rw [over_get] at ck
      have hk1 := Hmt.out k hlt
      have Hs : Hid ((over os k).set k (-99) = over os (k + 1)) := over_set os (by omega)
      by_cases hl : k < xs.length
      · rw [if_pos hl] at hk1
        have hbx : Below W.heap.size W wr := hW.grown hgr hW.size (fun q hq => by injection hq with hq; omega)
        obtain ⟨b, o, rfl, xc⟩ := (hx.below hbx).get hl
        have x1 := xc k hl
        rw [hk1] at ck
        clear hk1 xc
        have he1 : (xs.getD k 0 != xs.getD k 0) = false := bne_self_eq_false _
        have hg1 : decide ((xs.length : Int) ≤ (k : Int)) = false := by simp; omega
        have hg2 : decide (xs.length ≤ k) = false := by simp; omega
        generalize xs.getD k 0 = v at *
        go_upto_region 4 with fail
        go_quiet (fail)
        go_wp2_with fail
        go_roundg (m - (k + 1))
        case measure => omega
        case rel => exact ⟨k + 1, rfl, by omega, by go_num, by rw [← Hs.out]; exact Row.set (w := wr.drewN nq) hr _ _, grown_set (⟨hgr.os, hgr.tape, hgr.output, hgr.size, hgr.block⟩)⟩
      · rw [if_neg hl] at hk1
        rw [hk1] at ck
        clear hk1
        have hg1 : decide ((k : Int) < (xs.length : Int)) = false := by simp; omega
        have hg2 : decide (xs.length ≤ k) = true := by simp; omega
        have hg3 : decide (k < xs.length) = false := by simp; omega
        go_upto_region 4 with fail
        go_quiet (fail)
        go_wp2_with fail
        go_roundg (m - (k + 1))
        case measure => omega
        case rel => exact ⟨k + 1, rfl, by omega, by go_num, by rw [← Hs.out]; exact Row.set (w := wr.drewN nq) hr _ _, grown_set (⟨hgr.os, hgr.tape, hgr.output, hgr.size, hgr.block⟩)⟩
    · have Hkm : Hid (k = m) := by show k = m; omega
      go_wp2_with fail
      go_ret
      exact ⟨rfl, by rw [Hkm.out] at hr; exact hr, hgr⟩
end Go.Proofs.Ytjebhhoibofmfaa
