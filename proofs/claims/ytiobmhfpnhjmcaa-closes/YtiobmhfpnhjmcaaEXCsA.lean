import Derived.Test.YtiobmhfpnhjmcaaEXLwI
namespace Go.Proofs.Ytiobmhfpnhjmcaa
open Go.RowKit
set_option maxRecDepth 100000 in
set_option maxHeartbeats 400000 in
theorem sameInts_any (a b : Option Addr) (ac bc : Nat) (xs : List Int) (w : World) (ha : IntsAt w a xs) (hb : IntsAt w b xs) (hl : xs.length ≤ 4611686018427387904) :
    Calls Try.prog 25 #[.slice a xs.length ac, .slice b xs.length bc] w fun e w' => e = .returned (.bool true) ∧ ∃ n, w' = w.drewN n := by
  have hne : ((xs.length : Int) != (xs.length : Int)) = false := by simp
  go_enter Try.func25, Try.ntmps25
  go_wp2_with fail
  go_loopg [5] xs.length (fun g s wr => ∃ k : Nat, g = xs.length - k ∧ k ≤ xs.length ∧ s = .int .i64 k ∧ ∃ n, wr = w.drewN n)
  case atStart => exact ⟨0, by omega, Nat.zero_le _, rfl, 0, rfl⟩
  case round =>
    obtain ⟨k, rfl, hk, rfl, n0, rfl⟩ := hrel
    by_cases hlt : k < xs.length
    · obtain ⟨ab, ao, rfl, acell⟩ := ha.get hlt
      obtain ⟨bb, bo, rfl, bcell⟩ := hb.get hlt
      have a1 := acell k hlt
      have b1 := bcell k hlt
      generalize xs.getD k 0 = v at *
      have hv : (v != v) = false := by simp
      clear acell bcell
      go_upto_region 6 with fail
      go_quiet (fail)
      go_wp2_with fail
      go_roundg (xs.length - (k + 1))
      case measure => omega
      case rel => exact ⟨k + 1, rfl, by omega, by go_num, _, rfl⟩
    · go_wp2_with fail
      go_ret
      exact ⟨rfl, n0, rfl⟩
end Go.Proofs.Ytiobmhfpnhjmcaa
