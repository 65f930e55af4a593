import Derived.Test.YtjebhhoibofmfaaLwC
namespace Go.Proofs.Ytjebhhoibofmfaa
open Go.RowKit

def overL (os : List Lt) (k : Nat) : List Lt := List.replicate k (ltM (-99)) ++ os.drop k
theorem overL_length (os : List Lt) {k : Nat} (h : k ≤ os.length) : (overL os k).length = os.length := by simp [overL]; omega
theorem overL_get (os : List Lt) {k : Nat} : (overL os k).getD k lt0 = os.getD k lt0 := by
  simp [overL, List.getElem?_append_right]
theorem overL_set (os : List Lt) {k : Nat} (h : k < os.length) : (overL os k).set k (ltM (-99)) = overL os (k + 1) := by
  unfold overL
  rw [List.set_append_right _ _ (by simp), List.length_replicate, Nat.sub_self, List.drop_eq_getElem_cons h, List.set_cons_zero, List.replicate_succ']
  simp

theorem grown_alloc {w w' : World} {row : Option Nat} (h : w.grownBy w' row) (o : Obj) : w.grownBy (w'.alloc o) row :=
  ⟨h.os, h.tape, h.output, Nat.le_trans h.size (by simp), fun k hk hne => by rw [Below.heap_alloc _ _ _ (Nat.lt_of_lt_of_le hk h.size)]; exact h.block k hk hne⟩
theorem grown_drewN {w w' : World} {row : Option Nat} (h : w.grownBy w' row) (n : Nat) : w.grownBy (w'.drewN n) row := ⟨h.os, h.tape, h.output, h.size, h.block⟩
theorem grown_trans {w w' w'' : World} {row : Option Nat} (h : w.grownBy w' row) (h' : w'.grownBy w'' row) : w.grownBy w'' row :=
  ⟨h'.os.trans h.os, h'.tape.trans h.tape, h'.output.trans h.output, Nat.le_trans h.size h'.size, fun k hk hne => (h'.block k (Nat.lt_of_lt_of_le hk h.size) hne).trans (h.block k hk hne)⟩

theorem stillLits_nil (la : Option Addr) (n lc : Nat) (w : World) : Calls Try.prog 56 #[.slice none 0 0, .slice la n lc] w fun e w' => e = .returned (.bool true) ∧ w' = w := by
  go_enter Try.func56, Try.ntmps56
  go_wp2_with fail
  refine wp_loop_rounds 1 ?_
  rw [rounds_succ]
  go_wp2_with fail
  go_ret
  exact ⟨rfl, rfl⟩

set_option maxRecDepth 100000 in
set_option maxHeartbeats 1000000 in
theorem stillLits_any (W : World) (g m cap : Nat) (os : List Lt) (la : Option Addr) (lc : Nat) (xs : List Lt) (w : World) (hW : Below W.heap.size W w) (hg : W.heap.size ≤ g) (hx : LitsAt W la xs) (hrow : LRow w g os) (hm : m ≤ os.length)
    (hbig : os.length ≤ 4611686018427387904) (hmt : ∀ i, i < m → os.getD i lt0 = if i < xs.length then xs.getD i lt0 else ltM (-77)) :
    Calls Try.prog 56 #[.slice (some ⟨g, 0, none⟩) m cap, .slice la xs.length lc] w fun e w' => e = .returned (.bool true) ∧ LRow w' g (overL os m) ∧ w.grownBy w' (some g) := by
  have Hmt := hide hmt
  clear hmt
  have hglt := hrow.lt
  go_enter Try.func56, Try.ntmps56
  go_wp2_with fail
  go_loopg [5] m (fun q s wx => ∃ k : Nat, q = m - k ∧ k ≤ m ∧ s = .int .i64 k ∧ LRow wx g (overL os k) ∧ w.grownBy wx (some g))
  case atStart => exact ⟨0, rfl, by omega, rfl, hrow, World.grownBy.refl _ _⟩
  case round =>
    obtain ⟨k, rfl, hk, rfl, hr, hgr⟩ := hrel
    by_cases hlt : k < m
    · obtain ⟨c0, c1, c2⟩ := hr.cell (k := k) (by rw [overL_length _ (by omega)]; omega)
      have f0 := hr.frozen (k * 3)
      have f1 := hr.frozen (k * 3 + 1)
      have f2 := hr.frozen (k * 3 + 2)
      have hgw := hr.lt
      rw [overL_get] at c0 c1 c2
      have hk1 := Hmt.out k hlt
      have Hs : Hid ((overL os k).set k (ltM (-99)) = overL os (k + 1)) := overL_set os (by omega)
      have Hl : Hid (k < (overL os k).length) := by show _ < _; rw [overL_length _ (by omega)]; omega
      by_cases hl : k < xs.length
      · rw [if_pos hl] at hk1
        have hbx : Below W.heap.size W wr := hW.grown hgr hW.size (fun q hq => by injection hq with hq; omega)
        obtain ⟨b, o, rfl, xc⟩ := (hx.below hbx).get hl
        obtain ⟨x0, x1, x2⟩ := xc k hl
        have hbw := block_lt x0
        rw [hk1] at c0 c1 c2
        clear hk1 xc
        have hg1 : decide ((xs.length : Int) ≤ (k : Int)) = false := by simp; omega
        have hg2 : decide (xs.length ≤ k) = false := by simp; omega
        generalize (xs.getD k lt0).x = v1 at *
        generalize (xs.getD k lt0).y = v2 at *
        generalize (xs.getD k lt0).n = v3 at *
        go_upto_region 5 with fail
        go_quiet (fail)
        go_wp2_with fail
        go_roundg (m - (k + 1))
        case measure => omega
        case rel => exact ⟨k + 1, rfl, by omega, by go_num, by rw [← Hs.out]; exact LRow.set (heap_at_old _ _ hr) Hl.out (ltM (-99)), grown_set (grown_set (grown_set (grown_drewN (grown_alloc hgr _) _)))⟩
      · rw [if_neg hl] at hk1
        rw [hk1] at c0 c1 c2
        clear hk1
        simp only [ltM] at c0 c1 c2
        have hg1 : decide ((k : Int) < (xs.length : Int)) = false := by simp; omega
        have hg2 : decide (xs.length ≤ k) = true := by simp; omega
        have hg3 : decide (k < xs.length) = false := by simp; omega
        go_upto_region 5 with fail
        go_quiet (fail)
        go_wp2_with fail
        go_roundg (m - (k + 1))
        case measure => omega
        case rel => exact ⟨k + 1, rfl, by omega, by go_num, by rw [← Hs.out]; exact LRow.set (heap_at_old _ _ hr) Hl.out (ltM (-99)), grown_set (grown_set (grown_set (grown_drewN (grown_alloc hgr _) _)))⟩
    · have Hkm : Hid (k = m) := by show k = m; omega
      go_wp2_with fail
      go_ret
      exact ⟨rfl, by rw [Hkm.out] at hr; exact hr, hgr⟩
end Go.Proofs.Ytjebhhoibofmfaa
