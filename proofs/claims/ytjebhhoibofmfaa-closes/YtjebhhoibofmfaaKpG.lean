import Derived.Test.YtjebhhoibofmfaaKpE
namespace Go.Proofs.Ytjebhhoibofmfaa
open Go.RowKit

set_option maxRecDepth 100000 in
set_option maxHeartbeats 1000000 in
theorem some_any (la ca : Option Addr) (lc cc : Nat) (ls : List Lt) (c : List Int) (w : World) (hls : LitsAt w la ls) (hc : IntsAt w ca c) (hin : LitsIn ls c.length) :
    Calls Try.prog 26 #[.slice la ls.length lc, .slice ca c.length cc] w fun e w' => e = .returned (.bool (holdsB c ls)) ∧ ∃ n, w' = w.drewN n := by
  have Hin := hide hin
  have h6 := hin.1
  clear hin
  go_enter Try.func26, Try.ntmps26
  go_wp2_with fail
  go_loopg [5] ls.length (fun g s wr => ∃ k : Nat, g = ls.length - k ∧ k ≤ ls.length ∧ s = .int .i64 k ∧ Hid (∀ t, t < k → litB c (ls.getD t lt0) = false) ∧ ∃ n, wr = w.drewN n)
  case atStart => exact ⟨0, by omega, Nat.zero_le _, rfl, (fun t h => by omega), 0, rfl⟩
  case round =>
    obtain ⟨k, rfl, hk, rfl, Hk, n0, rfl⟩ := hrel
    by_cases hlt : k < ls.length
    · obtain ⟨lb, lo, rfl, lcell⟩ := hls.get hlt
      obtain ⟨l1, l2, l3⟩ := lcell k hlt
      obtain ⟨⟨bx0, bx⟩, by0, bY⟩ := Hin.out.2 k hlt
      obtain ⟨nx, hnx⟩ := Int.eq_ofNat_of_zero_le bx0
      obtain ⟨ny, hny⟩ := Int.eq_ofNat_of_zero_le by0
      obtain ⟨cb, co, rfl, ccell⟩ := hc.get (i := nx) (by omega)
      have c1 := ccell nx (by omega)
      have c2 := ccell ny (by omega)
      have hst : litB c (ls.getD k lt0) = (decide (c.getD nx 0 = c.getD ny 0) != (ls.getD k lt0).n) := by simp only [litB, eqB, cls, hnx, hny, Int.toNat_natCast]
      rw [hnx] at l1 bx
      rw [hny] at l2 bY
      generalize c.getD nx 0 = vx at *
      generalize c.getD ny 0 = vy at *
      generalize (ls.getD k lt0).n = nt at *
      have Hst := hide hst
      clear hst ccell lcell bx0 by0 hnx hny
      have d1 : decide ((nx : Int) < 0) = false := by simp
      have d2 : decide ((ny : Int) < 0) = false := by simp
      have d3 : decide ((c.length : Int) ≤ (nx : Int)) = false := by simp; omega
      by_cases he : vx = vy
      · have hb1 : (vx == vy) = true := by simp [he]
        have He := hide he
        clear he
        cases nt
        · go_wp2_with fail
          go_quiet (fail)
          go_wp2_with fail
          go_ret
          exact ⟨ret_bool (by rw [holdsB, anyB_yes k hlt (by rw [Hst.out]; simp [He.out])]), _, World.drewN_drewN _ _ _⟩
        · go_wp2_with fail
          go_quiet (fail)
          go_wp2_with fail
          go_roundg (ls.length - (k + 1))
          case measure => omega
          case rel => exact ⟨k + 1, rfl, by omega, by go_num, upto_succ Hk.out (by rw [Hst.out]; simp [He.out]), _, rfl⟩
      · have hb1 : (vx == vy) = false := by simp [he]
        have He := hide he
        clear he
        cases nt
        · go_wp2_with fail
          go_quiet (fail)
          go_wp2_with fail
          go_roundg (ls.length - (k + 1))
          case measure => omega
          case rel => exact ⟨k + 1, rfl, by omega, by go_num, upto_succ Hk.out (by rw [Hst.out]; simp [He.out]), _, rfl⟩
        · go_wp2_with fail
          go_quiet (fail)
          go_wp2_with fail
          go_ret
          exact ⟨ret_bool (by rw [holdsB, anyB_yes k hlt (by rw [Hst.out]; simp [He.out])]), _, World.drewN_drewN _ _ _⟩
    · go_wp2_with fail
      go_ret
      exact ⟨ret_bool (by rw [holdsB, anyB_no (fun t ht => Hk.out t (by omega))]), _, rfl⟩
end Go.Proofs.Ytjebhhoibofmfaa
