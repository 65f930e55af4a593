import Derived.Test.YtjebhhoibofmfaaXLtH
namespace Go.Proofs.Ytjebhhoibofmfaa
open Go.RowKit

def okG (m : Int) (s : St) : Bool := allLow m [s.a] && allNil [s.b, s.c, s.d]
def setG (cs : List Cl) (s : St) : Nat × Nat := ofL (cs.getD s.a.toNat cl0).ls (0, 0)

set_option maxHeartbeats 1000000 in
theorem given_step (sa : Option Addr) (sc : Nat) (cs : List Cl) (s : St) (w : World) (hcs : ClausesAt w sa cs) (hl : ∀ i, i < cs.length → (cs.getD i cl0).ls.length ≤ 6 ∧ ∀ t ∈ (cs.getD i cl0).ls, LowL 9 t) :
    Calls Try.prog 102 #[.slice sa cs.length sc, .agg #[.int .i64 s.r, .int .i64 s.a, .int .i64 s.b, .int .i64 s.c, .int .i64 s.d]] w fun e w' =>
      e = .returned (.tuple #[.agg #[.int .u64 (yes (setG cs s) (okG (cs.length : Nat) s)).1, .int .u64 (yes (setG cs s) (okG (cs.length : Nat) s)).2], .bool (okG (cs.length : Nat) s)]) ∧ Below w.heap.size w w' := by
  have hbox := Box.new w s
  go_enter Try.func102, Try.ntmps102
  go_upto_region 1 with fail
  generalize hW : (w.alloc (.cells #[.int .i64 s.r, .int .i64 s.a, .int .i64 s.b, .int .i64 s.c, .int .i64 s.d] 62)).alloc (.cells #[.int .u64 0, .int .u64 0] 84) = W at *
  clear hW
  generalize hB : w.heap.size = B at *
  have hb1 := hbox.below (below_alloc W (.cells #[.int .i64 s.a] 3))
  have hs1 := ints_one (w := W.alloc (.cells #[.int .i64 s.a] 3)) (g := W.heap.size) (x := s.a) (by simp)
  obtain ⟨c0, c1, c2, c3, c4, r0, r1, f0, f1, hsz, hb0⟩ := id hbox
  have HB := hide hB
  clear hB
  go_wp2_with fail
  refine (allBelow_any (cs.length : Nat) _ 1 [s.a] _ hs1 (by simp)).mono ?_
  rintro e w' ⟨rfl, rfl⟩
  clear c0 c1 c2 c3 c4 r0 r1 f0 f1 hsz hb0 hbox hs1
  generalize W.alloc (.cells #[.int .i64 s.a] 3) = W1 at *
  obtain ⟨c0, c1, c2, c3, c4, r0, r1, f0, f1, hsz, hb0⟩ := id hb1
  cases hA : allLow (cs.length : Nat) [s.a]
  · have ho : Hid (okG (cs.length : Nat) s = false) := by show okG (cs.length : Nat) s = false; simp [okG, hA]
    go_wp2_with fail
    exact bodyPost_ret (v := .tuple #[.agg #[.int .u64 0, .int .u64 0], .bool false]) (by simp [results, Try.results102, go_sem, r0, r1]) rfl ⟨by rw [ho.out, yes_no]; rfl, hb1.end HB.out⟩
  · have hlow : belowB s.a (cs.length : Nat) = true := allB_iff.1 hA 0 (by simp)
    have z0 : B < W1.heap.size := by omega
    have z1 : B + 1 < W1.heap.size := by omega
    have hb2 := hb1.below (below_alloc W1 (.cells #[.int .i64 s.b, .int .i64 s.c, .int .i64 s.d] 3))
    have hs2 := ints_three (w := W1.alloc (.cells #[.int .i64 s.b, .int .i64 s.c, .int .i64 s.d] 3)) (g := W1.heap.size) (x := s.b) (y := s.c) (z := s.d) (by simp) (by simp) (by simp)
    have Hlow := hide hlow
    have HA := hide hA
    clear hlow hA
    go_wp2_with fail
    refine (allZero_any _ 3 [s.b, s.c, s.d] _ hs2 (by simp)).mono ?_
    rintro e w' ⟨rfl, rfl⟩
    clear c0 c1 c2 c3 c4 r0 r1 f0 f1 hsz hb0 hb1 hs2 z0 z1
    generalize W1.alloc (.cells #[.int .i64 s.b, .int .i64 s.c, .int .i64 s.d] 3) = W2 at *
    obtain ⟨c0, c1, c2, c3, c4, r0, r1, f0, f1, hsz, hb0⟩ := id hb2
    cases hZ : allNil [s.b, s.c, s.d]
    · have ho : Hid (okG (cs.length : Nat) s = false) := by show okG (cs.length : Nat) s = false; simp [okG, hZ]
      go_wp2_with fail
      exact bodyPost_ret (v := .tuple #[.agg #[.int .u64 0, .int .u64 0], .bool false]) (by simp [results, Try.results102, go_sem, r0, r1]) rfl ⟨by rw [ho.out, yes_no]; rfl, hb2.end HB.out⟩
    · have ho : Hid (okG (cs.length : Nat) s = true) := by show okG (cs.length : Nat) s = true; simp [okG, hZ, HA.out]
      have hlow := Hlow.out
      simp [belowB] at hlow
      obtain ⟨m, hm⟩ := Int.eq_ofNat_of_zero_le hlow.1
      have hlt : m < cs.length := by omega
      have hbw : Below w.heap.size w W2 := by rw [HB.out]; exact hb0
      obtain ⟨sb, so, rfl, scell⟩ := (hcs.below hbw).get hlt
      obtain ⟨s1, s2⟩ := scell m hlt
      have hlm := hl m hlt
      have Hs : Hid (setG cs s = ofL (cs.getD m cl0).ls (0, 0)) := by show _ = _; unfold setG; rw [hm]; rfl
      generalize cs.getD m cl0 = y at *
      obtain ⟨ya, yc, yl⟩ := y
      simp only at s1 s2 hlm
      rw [hm] at c1
      clear scell hlow hbw
      have Hm := hide hm
      clear hm
      go_wp2_with fail
      refine (of_any _ _ yl _ s2 hlm.2 (by omega)).mono ?_
      rintro e w4 ⟨rfl, hb⟩
      have hb5 := hb2.below hb
      clear hb c0 c1 c2 c3 c4 r0 r1 f0 f1 hsz hb0 hb2 s1 s2
      obtain ⟨c0, c1, c2, c3, c4, r0, r1, f0, f1, hsz, hb0⟩ := id hb5
      generalize ofL yl (0, 0) = q at *
      obtain ⟨q1, q2⟩ := q
      go_wp2_with fail
      exact bodyPost_ret (v := .tuple #[.agg #[.int .u64 q1, .int .u64 q2], .bool true]) (by simp [results, Try.results102, go_sem, set_same r0, set_other, r1]) rfl ⟨by rw [ho.out, yes_yes, Hs.out], hb5.end HB.out⟩
end Go.Proofs.Ytjebhhoibofmfaa
