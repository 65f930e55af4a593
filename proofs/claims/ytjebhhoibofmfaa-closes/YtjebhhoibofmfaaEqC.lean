import Derived.Test.YtjebhhoibofmfaaEqB
namespace Go.Proofs.Ytjebhhoibofmfaa
open Go.RowKit

/-- Two terms that are not equal, but must be. -/
def forcedB (ts : List Tm) (c : List Int) (i j : Nat) : Bool := !decide (c.getD i 0 = c.getD j 0) && mustB ts c i j

theorem ret_three {x y x' y' : Int} {b : Bool} (h1 : x = x') (h2 : y = y') : Ending.returned (.tuple #[.int .i64 x, .int .i64 y, .bool b]) = .returned (.tuple #[.int .i64 x', .int .i64 y', .bool b]) := by rw [h1, h2]

set_option maxHeartbeats 800000 in
theorem findForced_any (ta ca : Option Addr) (tc cc : Nat) (ts : List Tm) (c : List Int) (w : World) (ht : TermsAt w ta ts) (hc : IntsAt w ca c)
    (hl : ts.length ≤ c.length) (h9 : ts.length ≤ 9) (hin : ArgsIn ts c.length) :
    Calls Try.prog 61 #[.slice ta ts.length tc, .slice ca c.length cc] w fun e w' => ∃ (i j : Nat) (f : Bool), e = .returned (.tuple #[.int .i64 i, .int .i64 j, .bool f]) ∧
      (f = true → j < i ∧ i < ts.length ∧ forcedB ts c i j = true) ∧ (f = false → ∀ i j, j < i → i < ts.length → forcedB ts c i j = false) ∧ Below w.heap.size w w' := by
  have Hin := hide hin
  clear hin
  go_enter Try.func61, Try.ntmps61
  go_wp2_with fail
  go_loopg [11] ts.length (fun g s wr => ∃ i : Nat, g = ts.length - i ∧ i ≤ ts.length ∧ s = .int .i64 i ∧ Hid (∀ x y, y < x → x < i → forcedB ts c x y = false) ∧ Below w.heap.size w wr)
  case atStart => exact ⟨0, by omega, Nat.zero_le _, rfl, (fun x y _ h => by omega), Below.refl _ _⟩
  case round =>
    obtain ⟨i, rfl, hi, rfl, Hi, hb⟩ := hrel
    by_cases hlt : i < ts.length
    · go_wp2_with fail
      go_loopg [15] i (fun g s wr => ∃ j : Nat, g = i - j ∧ j ≤ i ∧ s = .int .i64 j ∧ Hid (∀ y, y < j → forcedB ts c i y = false) ∧ Below w.heap.size w wr)
      case atStart => exact ⟨0, by omega, Nat.zero_le _, rfl, (fun y h => by omega), hb⟩
      case round =>
        obtain ⟨j, rfl, hj, rfl, Hj, hb2⟩ := hrel
        by_cases hjt : j < i
        · obtain ⟨cb, co, rfl, ccell⟩ := (hc.below hb2).get (i := i) (by omega)
          have c1 := ccell i (by omega)
          have c2 := ccell j (by omega)
          have ht' := ht.below hb2
          have hc' := hc.below hb2
          have hst : forcedB ts c i j = (!decide (c.getD i 0 = c.getD j 0) && mustB ts c i j) := rfl
          generalize c.getD i 0 = vi at *
          generalize c.getD j 0 = vj at *
          have Hst := hide hst
          clear ccell hst
          by_cases he : vi = vj
          · have hb1 : (vi != vj) = false := by simp [he]
            have He := hide he
            clear he
            go_upto_region 7 with fail
            go_quiet (fail)
            go_wp2_with fail
            go_roundg (i - (j + 1))
            case measure => omega
            case rel => exact ⟨j + 1, rfl, by omega, by go_num, upto_succ Hj.out (by rw [Hst.out]; simp [He.out]), below_drewN hb2 _⟩
          · have hb1 : (vi != vj) = true := by simp [he]
            have He := hide he
            clear he
            have hne : Nonempty (Up wr) := ⟨⟨wr, Below.refl _ _⟩⟩
            have d1 : ∀ u : Up wr, u.world.cell? ⟨cb, co + i, none⟩ = some (.int .i64 vi) := fun u => u.cell c1
            have d2 : ∀ u : Up wr, u.world.cell? ⟨cb, co + j, none⟩ = some (.int .i64 vj) := fun u => u.cell c2
            go_upto_region 7 with fail
            refine wp_region_up (by kernel_rfl) (by kernel_rfl) ?_
            repeat (go_big_quiet_step ((go_at_call 79; exact calls_up (must_any ta _ tc cc ts c i j _ (ht'.below (Up.above _)) (hc'.below (Up.above _)) (by omega) (by omega) Hin.out))))
            refine wpQuiet_nil ?_
            intro _ hw'
            obtain ⟨nq, hw''⟩ := hw'
            subst hw''
            have hb3 := hb2.trans (nq.above.mono hb2.size)
            have hf' : forcedB ts c i j = mustB ts c i j := by rw [Hst.out]; simp [He.out]
            have Hf := hide hf'
            clear d1 d2 hf' hne
            cases hf : mustB ts c i j
            · go_wp2_with fail
              go_roundg (i - (j + 1))
              case measure => omega
              case rel => exact ⟨j + 1, rfl, by omega, by go_num, upto_succ Hj.out (by rw [Hf.out, hf]), hb3⟩
            · go_wp2_with fail
              go_ret3
              exact ⟨i, j, true, rfl, fun _ => ⟨hjt, hlt, by rw [Hf.out, hf]⟩, (fun h => by cases h), hb3⟩
        · go_wp2_with fail
          go_roundg (ts.length - (i + 1))
          case measure => omega
          case rel => exact ⟨i + 1, rfl, by omega, by go_num, (fun x y h1 h2 => by
            rcases Nat.lt_succ_iff_lt_or_eq.1 h2 with h3 | h3
            · exact Hi.out x y h1 h3
            · subst h3; exact Hj.out y (by omega)), hb2⟩
    · go_wp2_with fail
      go_ret3
      exact ⟨0, 0, false, rfl, (fun h => by cases h), (fun _ x y h1 h2 => Hi.out x y h1 (by omega)), hb⟩
end Go.Proofs.Ytjebhhoibofmfaa
