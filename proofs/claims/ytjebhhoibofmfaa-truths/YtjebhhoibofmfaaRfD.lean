import Derived.Test.YtjebhhoibofmfaaRfA
namespace Go.Proofs.Ytjebhhoibofmfaa
open Go.RowKit

theorem anyB_succ {n : Nat} {p : Nat → Bool} : anyB (n + 1) p = (anyB n p || p n) := by simp [anyB, List.range_succ]

set_option maxRecDepth 100000 in
set_option maxHeartbeats 800000 in
theorem rHolds_any (ta sa ca : Option Addr) (tl tc sc cc : Nat) (cs : List Cl) (c : List Int) (w : World) (hcs : ClausesAt w sa cs) (hc : IntsAt w ca c) (hin : ClausesIn cs c.length) :
    Calls Try.prog 65 #[.agg #[.slice ta tl tc, .slice sa cs.length sc], .slice ca c.length cc] w fun e w' => e = .returned (.bool (allHoldB c cs)) ∧ Below w.heap.size w w' := by
  have Hin := hide hin
  have h16 := hin.1
  have hb0 : Below w.heap.size w (w.alloc (.cells #[.slice ta tl tc, .slice sa cs.length sc] 33)) := (Below.refl _ _).alloc (Nat.le_refl _) _
  have hcs' := hcs.below hb0
  have hc' := hc.below hb0
  clear hin
  go_enter Try.func65, Try.ntmps65
  go_wp2_with fail
  have q2 : (w.alloc (.cells #[.slice ta tl tc, .slice sa cs.length sc] 33)).cell? ⟨w.heap.size, 1, none⟩ = some (.slice sa cs.length sc) := by simp
  have hsz : w.heap.size ≤ (w.alloc (.cells #[.slice ta tl tc, .slice sa cs.length sc] 33)).heap.size := by simp
  generalize hW : w.alloc (.cells #[.slice ta tl tc, .slice sa cs.length sc] 33) = W at *
  clear hW
  go_loopg [5] cs.length (fun g v wr => ∃ k : Nat, g = cs.length - k ∧ k ≤ cs.length ∧ v = .int .i64 k ∧ Hid (∀ t, t < k → holdsB c (cs.getD t cl0).ls = true) ∧ Below W.heap.size W wr)
  case atStart => exact ⟨0, by omega, Nat.zero_le _, rfl, (fun t h => by omega), Below.refl _ _⟩
  case round =>
    obtain ⟨i, rfl, hi, rfl, Hi, hb⟩ := hrel
    have r2 := cell_below hb q2
    by_cases hlt : i < cs.length
    · obtain ⟨sb, so, rfl, scell⟩ := hcs'.get hlt
      obtain ⟨s1, s2⟩ := scell i hlt
      have hin := Hin.out.2 i hlt
      generalize hq : cs.getD i cl0 = q at *
      obtain ⟨qa, qc, ql⟩ := q
      have Hq := hide hq
      simp only at s1 s2 hin
      have Hli := hide hin
      have h6 := hin.1
      clear hq scell hin
      have s1' := cell_below hb s1
      go_wp2_with fail
      go_loopg [6, 7] ql.length (fun g v6 v wr' => ∃ (k : Nat), g = ql.length - k ∧ k ≤ ql.length ∧ v = .int .i64 k ∧ v6 = .bool (anyB k fun t => litB c (ql.getD t lt0)) ∧ Below W.heap.size W wr')
      case atStart => exact ⟨0, by omega, Nat.zero_le _, rfl, rfl, hb⟩
      case round =>
        clear r2 s1' hb
        obtain ⟨k, rfl, hk, rfl, rfl, hb⟩ := hrel
        have r2 := cell_below hb q2
        have s1' := cell_below hb s1
        by_cases hkt : k < ql.length
        · obtain ⟨lb, lo, rfl, lcell⟩ := (s2.below hb).get hkt
          obtain ⟨l1, l2, l3⟩ := lcell k hkt
          obtain ⟨⟨bx0, bx⟩, by0, bY⟩ := Hli.out.2 k hkt
          obtain ⟨nx, hnx⟩ := Int.eq_ofNat_of_zero_le bx0
          obtain ⟨ny, hny⟩ := Int.eq_ofNat_of_zero_le by0
          obtain ⟨cb, co, rfl, ccell⟩ := (hc'.below hb).get (i := nx) (by omega)
          have c1 := ccell nx (by omega)
          have c2 := ccell ny (by omega)
          have hst : litB c (ql.getD k lt0) = (decide (c.getD nx 0 = c.getD ny 0) != (ql.getD k lt0).n) := by simp only [litB, eqB, cls, hnx, hny, Int.toNat_natCast]
          have hsu : (anyB (k + 1) fun t => litB c (ql.getD t lt0)) = ((anyB k fun t => litB c (ql.getD t lt0)) || litB c (ql.getD k lt0)) := anyB_succ
          rw [hnx] at l1 bx
          rw [hny] at l2 bY
          generalize c.getD nx 0 = vx at *
          generalize c.getD ny 0 = vy at *
          generalize (ql.getD k lt0).n = nt at *
          generalize hav : (anyB k fun t => litB c (ql.getD t lt0)) = av at *
          have Hst := hide hst
          have Hsu := hide hsu
          clear hst hsu hav ccell lcell bx0 by0 hnx hny
          have hcb := block_lt c1
          have hwb := block_lt r2
          have hwb2 := block_lt s1'
          have d1 : decide ((nx : Int) < 0) = false := by simp
          have d2 : decide ((ny : Int) < 0) = false := by simp
          cases nt <;> cases av
          · go_upto_region 11 with fail
            go_quiet (fail)
            go_wp2_with fail
            go_roundg (ql.length - (k + 1))
            case measure => omega
            case rel => exact ⟨k + 1, rfl, by omega, by go_num, by rw [Hsu.out, Hst.out]; congr 1; rw [Bool.eq_iff_iff]; simp, below_drewN (hb.alloc hb.size _) _⟩
          · go_upto_region 11 with fail
            go_quiet (fail)
            go_wp2_with fail
            go_roundg (ql.length - (k + 1))
            case measure => omega
            case rel => exact ⟨k + 1, rfl, by omega, by go_num, by rw [Hsu.out]; simp, below_drewN (hb.alloc hb.size _) _⟩
          · go_upto_region 10 with fail
            go_quiet (fail)
            go_wp2_with fail
            go_roundg (ql.length - (k + 1))
            case measure => omega
            case rel => exact ⟨k + 1, rfl, by omega, by go_num, by rw [Hsu.out, Hst.out]; congr 1; rw [Bool.eq_iff_iff]; simp, below_drewN (hb.alloc hb.size _) _⟩
          · go_upto_region 10 with fail
            go_quiet (fail)
            go_wp2_with fail
            go_roundg (ql.length - (k + 1))
            case measure => omega
            case rel => exact ⟨k + 1, rfl, by omega, by go_num, by rw [Hsu.out]; simp, below_drewN (hb.alloc hb.size _) _⟩
        · obtain rfl : k = ql.length := by omega
          have hh : (anyB ql.length fun t => litB c (ql.getD t lt0)) = holdsB c ql := rfl
          rw [hh]
          clear hh
          cases hho : holdsB c ql
          · go_wp2_with fail
            go_ret
            exact ⟨ret_bool (by rw [allHoldB, allB_no i hlt (by rw [Hq.out]; exact hho)]), hb0.trans (hb.mono hsz)⟩
          · go_wp2_with fail
            go_roundg (cs.length - (i + 1))
            case measure => omega
            case rel => exact ⟨i + 1, rfl, by omega, by go_num, upto_succ Hi.out (by rw [Hq.out]; exact hho), hb⟩
    · go_wp2_with fail
      go_ret
      exact ⟨ret_bool (by rw [allHoldB, allB_yes (fun t ht => Hi.out t (by omega))]), hb0.trans (hb.mono hsz)⟩
end Go.Proofs.Ytjebhhoibofmfaa
