import Derived.Test.YtjebhhoibofmfaaRfA
namespace Go.Proofs.Ytjebhhoibofmfaa
open Go.RowKit

theorem must_split (ts : List Tm) (c : List Int) (i : Nat) : ∀ j, mustB ts c i j = (alikeB (ts.getD i tm0).sym (ts.getD j tm0).sym (ts.getD i tm0).args.length (ts.getD j tm0).args.length && argsEq c (ts.getD i tm0).args (ts.getD j tm0).args) := fun _ => rfl

theorem mustB_symm (ts : List Tm) (c : List Int) (i j : Nat) : mustB ts c i j = mustB ts c j i := by
  rw [Bool.eq_iff_iff]
  simp only [mustB, alikeB, argsEq, Bool.and_eq_true, decide_eq_true_eq, allB_iff, eqB]
  constructor
  · rintro ⟨⟨h1, h2⟩, h3⟩
    exact ⟨⟨h1.symm, h2.symm⟩, fun t ht => (h3 t (by omega)).symm⟩
  · rintro ⟨⟨h1, h2⟩, h3⟩
    exact ⟨⟨h1.symm, h2.symm⟩, fun t ht => (h3 t (by omega)).symm⟩

theorem forcedB_symm (ts : List Tm) (c : List Int) (i j : Nat) : forcedB ts c i j = forcedB ts c j i := by
  rw [forcedB, forcedB, mustB_symm ts c i j]
  congr 2
  rw [Bool.eq_iff_iff]; simp [eq_comm]

set_option maxRecDepth 100000 in
set_option maxHeartbeats 1000000 in
theorem rSound_any (ta ca : Option Addr) (tc cc : Nat) (ts : List Tm) (c : List Int) (w : World) (ht : TermsAt w ta ts) (hc : IntsAt w ca c)
    (hl : ts.length ≤ c.length) (h9 : ts.length ≤ 9) (hin : ArgsIn ts c.length) :
    Calls Try.prog 64 #[.slice ta ts.length tc, .slice ca c.length cc] w fun e w' => e = .returned (.bool (soundB ts c)) ∧ ∃ n, w' = w.drewN n := by
  have Hin := hide hin
  clear hin
  go_enter Try.func64, Try.ntmps64
  go_wp2_with fail
  go_loopg [5] ts.length (fun g s wr => ∃ i : Nat, g = ts.length - i ∧ i ≤ ts.length ∧ s = .int .i64 i ∧ Hid (∀ x y, x < i → x < y → y < ts.length → forcedB ts c x y = false) ∧ ∃ n, wr = w.drewN n)
  case atStart => exact ⟨0, by omega, Nat.zero_le _, rfl, (fun x y h => by omega), 0, rfl⟩
  case round =>
    obtain ⟨i, rfl, hi, rfl, Hi, n0, rfl⟩ := hrel
    by_cases hlt : i < ts.length
    · obtain ⟨tb, tf, rfl, tcell⟩ := ht.get hlt
      obtain ⟨cb, co, rfl, ccell⟩ := hc.get (i := i) (by omega)
      have Htc := hide tcell
      have Hcc := hide ccell
      obtain ⟨x1, x2, x3⟩ := tcell i hlt
      have cI := ccell i (by omega)
      have hax := Hin.out i hlt
      have Hfs : Hid (∀ j, mustB ts c i j = (alikeB (ts.getD i tm0).sym (ts.getD j tm0).sym (ts.getD i tm0).args.length (ts.getD j tm0).args.length && argsEq c (ts.getD i tm0).args (ts.getD j tm0).args)) := must_split ts c i
      have Hff : Hid (∀ j, forcedB ts c i j = (!decide (c.getD i 0 = c.getD j 0) && mustB ts c i j)) := fun _ => rfl
      generalize ts.getD i tm0 = x at *
      obtain ⟨xs, xa, xc, xl⟩ := x
      simp only at x1 x2 x3 hax
      obtain ⟨hx2, hax⟩ := hax
      have Hax := hide hax
      generalize c.getD i 0 = ci at *
      clear tcell ccell hax
      go_wp2_with fail
      go_loopg [6] (ts.length - (i + 1)) (fun g s wr => ∃ j : Nat, g = ts.length - j ∧ i < j ∧ j ≤ ts.length ∧ s = .int .i64 j ∧ Hid (∀ y, i < y → y < j → forcedB ts c i y = false) ∧ ∃ n, wr = w.drewN n)
      case atStart => exact ⟨i + 1, by omega, by omega, by omega, by go_num, (fun y h => by omega), n0, rfl⟩
      case round =>
        obtain ⟨j, rfl, hij, hj, rfl, Hj, n1, rfl⟩ := hrel
        by_cases hjt : j < ts.length
        · obtain ⟨y1, y2, y3⟩ := Htc.out j (by omega)
          have cJ := Hcc.out j (by omega)
          have hay := Hin.out j (by omega)
          have hfs := Hfs.out j
          have hff := Hff.out j
          generalize ts.getD j tm0 = y at *
          obtain ⟨ys, ya, yc, yl⟩ := y
          simp only at y1 y2 y3 hay hfs
          obtain ⟨hy2, hay⟩ := hay
          have Hay := hide hay
          generalize c.getD j 0 = cj at *
          have Hf := hide hfs
          have Hg := hide hff
          clear hfs hay hff
          go_upto_region 7 with fail
          go_cut [7] (fun t wx => t = .bool (alikeB xs ys xl.length yl.length) ∧ ∃ n, wx = w.drewN n)
          case first =>
            by_cases h2 : xs = ys
            · have hb2 : (xs == ys) = true := by simp [h2]
              have H2 := hide h2
              clear h2
              go_quiet (fail)
              go_wp2_with fail
              go_meet
              exact ⟨by congr 1; simp [H2.out, alikeB]; rw [Bool.eq_iff_iff]; simp; try omega, _, World.drewN_drewN _ _ _⟩
            · have hb2 : (xs == ys) = false := by simp [h2]
              have H2 := hide h2
              clear h2
              go_quiet (fail)
              go_wp2_with fail
              go_meet
              exact ⟨by simp [H2.out, alikeB], _, World.drewN_drewN _ _ _⟩
          case rest =>
            obtain ⟨rfl, n2, rfl⟩ := hcut
            go_wp2_with fail
            go_loopg [7, 8] xl.length (fun g s7 s8 wr => ∃ (k : Nat) (lk : Bool), g = xl.length - k ∧ k ≤ xl.length ∧ s8 = .int .i64 k ∧ s7 = .bool lk ∧
              Hid (lk = true → (alikeB xs ys xl.length yl.length = true ∧ ∀ t, t < k → eqB c (xl.getD t 0) (yl.getD t 0) = true)) ∧ Hid (lk = false → mustB ts c i j = false) ∧ ∃ n, wr = w.drewN n)
            case atStart => exact ⟨0, _, by omega, Nat.zero_le _, rfl, rfl, (fun h => ⟨h, fun t ht => by omega⟩), (fun h => by rw [Hf.out, h]; rfl), n2, rfl⟩
            case round =>
              obtain ⟨k, lk, rfl, hk, rfl, rfl, Ht, He, n3, rfl⟩ := hrel
              cases lk
              · have hff := hide (He.out rfl)
                go_upto_region 12 with fail
                go_quiet (fail)
                go_wp2_with fail
                go_roundg (ts.length - (j + 1))
                case measure => omega
                case rel => exact ⟨j + 1, rfl, by omega, by omega, by go_num, (fun y h1 h2 => by
                  rcases Nat.lt_succ_iff_lt_or_eq.1 h2 with h3 | h3
                  · exact Hj.out y h1 h3
                  · subst h3; rw [Hg.out, hff.out]; simp), _, rfl⟩
              · obtain ⟨ht1, ht2⟩ := Ht.out rfl
                have hll : xl.length = yl.length := by simp [alikeB] at ht1; exact ht1.2
                have Ht1 := hide ht1
                have Ht2 := hide ht2
                have Hll := hide hll
                clear ht1 ht2 hll
                by_cases hkl : k < xl.length
                · obtain ⟨xb, xo, rfl, xcell⟩ := x3.get hkl
                  have hly : k < yl.length := by have := Hll.out; omega
                  obtain ⟨yb, yo, rfl, ycell⟩ := y3.get hly
                  obtain ⟨nx, hnx⟩ := Int.eq_ofNat_of_zero_le (Hax.out k hkl).1
                  obtain ⟨ny, hny⟩ := Int.eq_ofNat_of_zero_le (Hay.out k hly).1
                  have bx := (Hax.out k hkl).2
                  have bY := (Hay.out k hly).2
                  rw [hnx] at bx
                  rw [hny] at bY
                  have e1 := xcell k hkl
                  have e2 := ycell k hly
                  have e3 := Hcc.out nx (by omega)
                  have e4 := Hcc.out ny (by omega)
                  rw [hnx] at e1
                  rw [hny] at e2
                  have hst : eqB c (xl.getD k 0) (yl.getD k 0) = decide (c.getD nx 0 = c.getD ny 0) := by simp only [eqB, cls, hnx, hny, Int.toNat_natCast]
                  generalize c.getD nx 0 = vx at *
                  generalize c.getD ny 0 = vy at *
                  have Hst := hide hst
                  have Hx3 := hide x3
                  have Hy3 := hide y3
                  clear x3 y3 xcell ycell hnx hny hst
                  go_upto_region 11 with fail
                  go_quiet (fail)
                  go_wp2_with fail
                  go_roundg (xl.length - (k + 1))
                  case measure => omega
                  case rel =>
                    refine ⟨k + 1, _, rfl, by omega, by go_num, rfl, ?_, ?_, _, rfl⟩
                    · intro hv
                      exact ⟨Ht1.out, upto_succ Ht2.out (by rw [Hst.out]; simpa using hv)⟩
                    · intro hv
                      rw [Hf.out, argsEq, allB_no k hkl (by rw [Hst.out]; simpa using hv)]; simp
                · have Hfin : Hid (mustB ts c i j = true) := by
                    show mustB ts c i j = true
                    rw [Hf.out, Ht1.out, argsEq, allB_yes (fun t ht => Ht2.out t (by omega))]; rfl
                  by_cases h1 : ci = cj
                  · have hb1 : (ci != cj) = false := by simp [h1]
                    have H1 := hide h1
                    clear h1
                    go_upto_region 12 with fail
                    go_quiet (fail)
                    go_wp2_with fail
                    go_roundg (ts.length - (j + 1))
                    case measure => omega
                    case rel => exact ⟨j + 1, rfl, by omega, by omega, by go_num, (fun y h1 h2 => by
                      rcases Nat.lt_succ_iff_lt_or_eq.1 h2 with h3 | h3
                      · exact Hj.out y h1 h3
                      · subst h3; rw [Hg.out, H1.out]; simp), _, rfl⟩
                  · have hb1 : (ci != cj) = true := by simp [h1]
                    have H1 := hide h1
                    clear h1
                    go_upto_region 12 with fail
                    go_quiet (fail)
                    go_wp2_with fail
                    go_ret
                    exact ⟨ret_bool (by rw [soundB_no hij hjt (by rw [forcedB_symm, Hg.out, Hfin.out]; simp [H1.out])]), _, rfl⟩
        · go_wp2_with fail
          go_roundg (ts.length - (i + 1))
          case measure => omega
          case rel => exact ⟨i + 1, rfl, by omega, by go_num, (fun x y h1 h2 h3 => by
            rcases Nat.lt_succ_iff_lt_or_eq.1 h1 with h4 | h4
            · exact Hi.out x y h4 h2 h3
            · subst h4; exact Hj.out y h2 (by omega)), n1, rfl⟩
    · go_wp2_with fail
      go_ret
      exact ⟨ret_bool (by rw [soundB_yes (fun x y h1 h2 => by rw [forcedB_symm]; exact Hi.out y x (by omega) h1 h2)]), n0, rfl⟩
end Go.Proofs.Ytjebhhoibofmfaa
