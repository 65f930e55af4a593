import Derived.Test.YtiobmhfpnhjmcaaEXLwI
namespace Go.Proofs.Ytiobmhfpnhjmcaa
open Go.RowKit
theorem termB_sym {n s : Int} {a : Option Addr} {cap : Nat} {xs : List Int} (h : belowB s 10 = false) : termB n ⟨s, a, cap, xs⟩ = false := by
  simp [termB, h]
theorem termB_len {n s : Int} {a : Option Addr} {cap : Nat} {xs : List Int} (h : ¬ xs.length ≤ 2) : termB n ⟨s, a, cap, xs⟩ = false := by
  simp [termB, h]
set_option maxHeartbeats 400000 in
theorem rTerms_any (ta : Option Addr) (tc : Nat) (ts : List Tm) (w : World) (ht : TermsAt w ta ts) :
    Calls Try.prog 38 #[.slice ta ts.length tc] w fun e w' => e = .returned (.bool (termsB ts)) ∧ w' = w := by
  by_cases h1 : 1 ≤ ts.length
  · by_cases h9 : ts.length ≤ 9
    · go_enter Try.func38, Try.ntmps38
      go_wp2_with fail
      go_loopg [3] ts.length (fun g v wr => ∃ i : Nat, g = ts.length - i ∧ i ≤ ts.length ∧ v = .int .i64 i ∧ Hid (∀ t, t < i → termB (t : Int) (ts.getD t tm0) = true) ∧ wr = w)
      case atStart => exact ⟨0, by omega, Nat.zero_le _, rfl, (fun t h => by omega), rfl⟩
      case round =>
        obtain ⟨i, rfl, hi, rfl, Hi, rfl⟩ := hrel
        by_cases hlt : i < ts.length
        · obtain ⟨tb, tf, rfl, tcell⟩ := ht.get hlt
          obtain ⟨t1, t2, t3⟩ := tcell i hlt
          generalize hq : ts.getD i tm0 = q at *
          obtain ⟨qs, qa, qc, ql⟩ := q
          have Hq := hide hq
          clear hq tcell
          simp only at t1 t2 t3
          by_cases hs0 : qs < 0
          · go_wp2_with fail
            go_ret
            exact ⟨ret_bool (by rw [termsB_no i hlt (by rw [Hq.out]; exact termB_sym (by simp [belowB]; omega))]), rfl⟩
          · by_cases hs9 : 9 < qs
            · go_wp2_with fail
              go_ret
              exact ⟨ret_bool (by rw [termsB_no i hlt (by rw [Hq.out]; exact termB_sym (by simp [belowB]; omega))]), rfl⟩
            · by_cases h2 : ql.length ≤ 2
              · have hs : belowB qs 10 = true := by simp [belowB]; omega
                have Hs := hide hs
                clear hs
                go_wp2_with fail
                go_loopg [4] ql.length (fun g v wr' => ∃ k : Nat, g = ql.length - k ∧ k ≤ ql.length ∧ v = .int .i64 k ∧ Hid (∀ t, t < k → belowB (ql.getD t 0) i = true) ∧ wr' = wr)
                case atStart => exact ⟨0, by omega, Nat.zero_le _, rfl, (fun t h => by omega), rfl⟩
                case round =>
                  obtain ⟨k, rfl, hk, rfl, Hk, rfl⟩ := hrel
                  by_cases hkt : k < ql.length
                  · obtain ⟨xb, xo, rfl, xcell⟩ := t3.get hkt
                    have x1 := xcell k hkt
                    generalize hv : ql.getD k 0 = v at *
                    have Hv := hide hv
                    clear xcell hv
                    by_cases hv0 : v < 0
                    · go_wp2_with fail
                      go_ret
                      exact ⟨ret_bool (by rw [termsB_no i hlt (by rw [Hq.out]; exact termB_no k hkt (by rw [Hv.out]; simp [belowB]; omega))]), rfl⟩
                    · by_cases hvi : v < i
                      · go_wp2_with fail
                        go_roundg (ql.length - (k + 1))
                        case measure => omega
                        case rel => exact ⟨k + 1, rfl, by omega, by go_num, upto_succ Hk.out (by rw [Hv.out]; simp [belowB]; omega), rfl⟩
                      · go_wp2_with fail
                        go_ret
                        exact ⟨ret_bool (by rw [termsB_no i hlt (by rw [Hq.out]; exact termB_no k hkt (by rw [Hv.out]; simp [belowB]; omega))]), rfl⟩
                  · go_wp2_with fail
                    go_roundg (ts.length - (i + 1))
                    case measure => omega
                    case rel => exact ⟨i + 1, rfl, by omega, by go_num, upto_succ Hi.out (by rw [Hq.out]; exact termB_yes Hs.out h2 (fun t ht => Hk.out t (by omega))), rfl⟩
              · go_wp2_with fail
                go_ret
                exact ⟨ret_bool (by rw [termsB_no i hlt (by rw [Hq.out]; exact termB_len h2)]), rfl⟩
        · go_wp2_with fail
          go_ret
          exact ⟨ret_bool (by rw [termsB_yes h1 h9 (fun t ht => Hi.out t (by omega))]), rfl⟩
    · go_enter Try.func38, Try.ntmps38
      go_wp2_with fail
      go_ret
      exact ⟨ret_bool (by simp [termsB, h9]), rfl⟩
  · go_enter Try.func38, Try.ntmps38
    go_wp2_with fail
    go_ret
    exact ⟨ret_bool (by simp [termsB, h1]), rfl⟩
end Go.Proofs.Ytiobmhfpnhjmcaa
namespace Go.Proofs.Ytiobmhfpnhjmcaa
open Go.RowKit
theorem must_split (ts : List Tm) (c : List Int) (i : Nat) : ∀ j, mustB ts c i j = (alikeB (ts.getD i tm0).sym (ts.getD j tm0).sym (ts.getD i tm0).args.length (ts.getD j tm0).args.length && argsEq c (ts.getD i tm0).args (ts.getD j tm0).args) := fun _ => rfl
theorem mustB_symm (ts : List Tm) (c : List Int) (i j : Nat) : mustB ts c i j = mustB ts c j i := by
  rw [Bool.eq_iff_iff]
  simp only [mustB, alikeB, argsEq, Bool.and_eq_true, decide_eq_true_eq, allB_iff, eqB]
  constructor
  · rintro ⟨⟨h1, h2⟩, h3⟩
    exact ⟨⟨h1.symm, h2.symm⟩, fun t ht => (h3 t (by omega)).symm⟩
  · rintro ⟨⟨h1, h2⟩, h3⟩
    exact ⟨⟨h1.symm, h2.symm⟩, fun t ht => (h3 t (by omega)).symm⟩
theorem forcedB_symm (ts : List Tm) (c : List Int) (i j : Nat) : forcedB ts c i j = forcedB ts c j i := by
  rw [forcedB, forcedB, mustB_symm ts c i j]
  congr 2
  rw [Bool.eq_iff_iff]; simp [eq_comm]
set_option maxRecDepth 100000 in
set_option maxHeartbeats 1000000 in
theorem rSound_any (ta ca : Option Addr) (tc cc : Nat) (ts : List Tm) (c : List Int) (w : World) (ht : TermsAt w ta ts) (hc : IntsAt w ca c)
    (hl : ts.length ≤ c.length) (h9 : ts.length ≤ 9) (hin : ArgsIn ts c.length) :
    Calls Try.prog 45 #[.slice ta ts.length tc, .slice ca c.length cc] w fun e w' => e = .returned (.bool (soundB ts c)) ∧ ∃ n, w' = w.drewN n := by
  have Hin := hide hin
  clear hin
  go_enter Try.func45, Try.ntmps45
  go_wp2_with fail
  go_loopg [5] ts.length (fun g s wr => ∃ i : Nat, g = ts.length - i ∧ i ≤ ts.length ∧ s = .int .i64 i ∧ Hid (∀ x y, x < i → x < y → y < ts.length → forcedB ts c x y = false) ∧ ∃ n, wr = w.drewN n)
  case atStart => exact ⟨0, by omega, Nat.zero_le _, rfl, (fun x y h => by omega), 0, rfl⟩
  case round =>
    obtain ⟨i, rfl, hi, rfl, Hi, n0, rfl⟩ := hrel
    by_cases hlt : i < ts.length
    · obtain ⟨tb, tf, rfl, tcell⟩ := ht.get hlt
      obtain ⟨cb, co, rfl, ccell⟩ := hc.get (i := i) (by omega)
      have Htc := hide tcell
      have Hcc := hide ccell
      obtain ⟨x1, x2, x3⟩ := tcell i hlt
      have cI := ccell i (by omega)
      have hax := Hin.out i hlt
      have Hfs : Hid (∀ j, mustB ts c i j = (alikeB (ts.getD i tm0).sym (ts.getD j tm0).sym (ts.getD i tm0).args.length (ts.getD j tm0).args.length && argsEq c (ts.getD i tm0).args (ts.getD j tm0).args)) := must_split ts c i
      have Hff : Hid (∀ j, forcedB ts c i j = (!decide (c.getD i 0 = c.getD j 0) && mustB ts c i j)) := fun _ => rfl
      generalize ts.getD i tm0 = x at *
      obtain ⟨xs, xa, xc, xl⟩ := x
      simp only at x1 x2 x3 hax
      obtain ⟨hx2, hax⟩ := hax
      have Hax := hide hax
      generalize c.getD i 0 = ci at *
      clear tcell ccell hax
      go_wp2_with fail
      go_loopg [6] (ts.length - (i + 1)) (fun g s wr => ∃ j : Nat, g = ts.length - j ∧ i < j ∧ j ≤ ts.length ∧ s = .int .i64 j ∧ Hid (∀ y, i < y → y < j → forcedB ts c i y = false) ∧ ∃ n, wr = w.drewN n)
      case atStart => exact ⟨i + 1, by omega, by omega, by omega, by go_num, (fun y h => by omega), n0, rfl⟩
      case round =>
        obtain ⟨j, rfl, hij, hj, rfl, Hj, n1, rfl⟩ := hrel
        by_cases hjt : j < ts.length
        · obtain ⟨y1, y2, y3⟩ := Htc.out j (by omega)
          have cJ := Hcc.out j (by omega)
          have hay := Hin.out j (by omega)
          have hfs := Hfs.out j
          have hff := Hff.out j
          generalize ts.getD j tm0 = y at *
          obtain ⟨ys, ya, yc, yl⟩ := y
          simp only at y1 y2 y3 hay hfs
          obtain ⟨hy2, hay⟩ := hay
          have Hay := hide hay
          generalize c.getD j 0 = cj at *
          have Hf := hide hfs
          have Hg := hide hff
          clear hfs hay hff
          go_upto_region 7 with fail
          go_cut [7] (fun t wx => t = .bool (alikeB xs ys xl.length yl.length) ∧ ∃ n, wx = w.drewN n)
          case first =>
            by_cases h2 : xs = ys
            · have hb2 : (xs == ys) = true := by simp [h2]
              have H2 := hide h2
              clear h2
              go_quiet (fail)
              go_wp2_with fail
              go_meet
              exact ⟨by congr 1; simp [H2.out, alikeB]; rw [Bool.eq_iff_iff]; simp; try omega, _, World.drewN_drewN _ _ _⟩
            · have hb2 : (xs == ys) = false := by simp [h2]
              have H2 := hide h2
              clear h2
              go_quiet (fail)
              go_wp2_with fail
              go_meet
              exact ⟨by simp [H2.out, alikeB], _, World.drewN_drewN _ _ _⟩
          case rest =>
            obtain ⟨rfl, n2, rfl⟩ := hcut
            go_wp2_with fail
            go_loopg [7, 8] xl.length (fun g s7 s8 wr => ∃ (k : Nat) (lk : Bool), g = xl.length - k ∧ k ≤ xl.length ∧ s8 = .int .i64 k ∧ s7 = .bool lk ∧
              Hid (lk = true → (alikeB xs ys xl.length yl.length = true ∧ ∀ t, t < k → eqB c (xl.getD t 0) (yl.getD t 0) = true)) ∧ Hid (lk = false → mustB ts c i j = false) ∧ ∃ n, wr = w.drewN n)
            case atStart => exact ⟨0, _, by omega, Nat.zero_le _, rfl, rfl, (fun h => ⟨h, fun t ht => by omega⟩), (fun h => by rw [Hf.out, h]; rfl), n2, rfl⟩
            case round =>
              obtain ⟨k, lk, rfl, hk, rfl, rfl, Ht, He, n3, rfl⟩ := hrel
              cases lk
              · have hff := hide (He.out rfl)
                go_upto_region 12 with fail
                go_quiet (fail)
                go_wp2_with fail
                go_roundg (ts.length - (j + 1))
                case measure => omega
                case rel => exact ⟨j + 1, rfl, by omega, by omega, by go_num, (fun y h1 h2 => by
                  rcases Nat.lt_succ_iff_lt_or_eq.1 h2 with h3 | h3
                  · exact Hj.out y h1 h3
                  · subst h3; rw [Hg.out, hff.out]; simp), _, rfl⟩
              · obtain ⟨ht1, ht2⟩ := Ht.out rfl
                have hll : xl.length = yl.length := by simp [alikeB] at ht1; exact ht1.2
                have Ht1 := hide ht1
                have Ht2 := hide ht2
                have Hll := hide hll
                clear ht1 ht2 hll
                by_cases hkl : k < xl.length
                · obtain ⟨xb, xo, rfl, xcell⟩ := x3.get hkl
                  have hly : k < yl.length := by have := Hll.out; omega
                  obtain ⟨yb, yo, rfl, ycell⟩ := y3.get hly
                  obtain ⟨nx, hnx⟩ := Int.eq_ofNat_of_zero_le (Hax.out k hkl).1
                  obtain ⟨ny, hny⟩ := Int.eq_ofNat_of_zero_le (Hay.out k hly).1
                  have bx := (Hax.out k hkl).2
                  have bY := (Hay.out k hly).2
                  rw [hnx] at bx
                  rw [hny] at bY
                  have e1 := xcell k hkl
                  have e2 := ycell k hly
                  have e3 := Hcc.out nx (by omega)
                  have e4 := Hcc.out ny (by omega)
                  rw [hnx] at e1
                  rw [hny] at e2
                  have hst : eqB c (xl.getD k 0) (yl.getD k 0) = decide (c.getD nx 0 = c.getD ny 0) := by simp only [eqB, cls, hnx, hny, Int.toNat_natCast]
                  generalize c.getD nx 0 = vx at *
                  generalize c.getD ny 0 = vy at *
                  have Hst := hide hst
                  have Hx3 := hide x3
                  have Hy3 := hide y3
                  clear x3 y3 xcell ycell hnx hny hst
                  go_upto_region 11 with fail
                  go_quiet (fail)
                  go_wp2_with fail
                  go_roundg (xl.length - (k + 1))
                  case measure => omega
                  case rel =>
                    refine ⟨k + 1, _, rfl, by omega, by go_num, rfl, ?_, ?_, _, rfl⟩
                    · intro hv
                      exact ⟨Ht1.out, upto_succ Ht2.out (by rw [Hst.out]; simpa using hv)⟩
                    · intro hv
                      rw [Hf.out, argsEq, allB_no k hkl (by rw [Hst.out]; simpa using hv)]; simp
                · have Hfin : Hid (mustB ts c i j = true) := by
                    show mustB ts c i j = true
                    rw [Hf.out, Ht1.out, argsEq, allB_yes (fun t ht => Ht2.out t (by omega))]; rfl
                  by_cases h1 : ci = cj
                  · have hb1 : (ci != cj) = false := by simp [h1]
                    have H1 := hide h1
                    clear h1
                    go_upto_region 12 with fail
                    go_quiet (fail)
                    go_wp2_with fail
                    go_roundg (ts.length - (j + 1))
                    case measure => omega
                    case rel => exact ⟨j + 1, rfl, by omega, by omega, by go_num, (fun y h1 h2 => by
                      rcases Nat.lt_succ_iff_lt_or_eq.1 h2 with h3 | h3
                      · exact Hj.out y h1 h3
                      · subst h3; rw [Hg.out, H1.out]; simp), _, rfl⟩
                  · have hb1 : (ci != cj) = true := by simp [h1]
                    have H1 := hide h1
                    clear h1
                    go_upto_region 12 with fail
                    go_quiet (fail)
                    go_wp2_with fail
                    go_ret
                    exact ⟨ret_bool (by rw [soundB_no hij hjt (by rw [forcedB_symm, Hg.out, Hfin.out]; simp [H1.out])]), _, rfl⟩
        · go_wp2_with fail
          go_roundg (ts.length - (i + 1))
          case measure => omega
          case rel => exact ⟨i + 1, rfl, by omega, by go_num, (fun x y h1 h2 h3 => by
            rcases Nat.lt_succ_iff_lt_or_eq.1 h1 with h4 | h4
            · exact Hi.out x y h4 h2 h3
            · subst h4; exact Hj.out y h2 (by omega)), n1, rfl⟩
    · go_wp2_with fail
      go_ret
      exact ⟨ret_bool (by rw [soundB_yes (fun x y h1 h2 => by rw [forcedB_symm]; exact Hi.out y x (by omega) h1 h2)]), n0, rfl⟩
end Go.Proofs.Ytiobmhfpnhjmcaa
namespace Go.Proofs.Ytiobmhfpnhjmcaa
open Go.RowKit
set_option maxRecDepth 100000 in
set_option maxHeartbeats 800000 in
theorem look_any (ta sa : Option Addr) (tc sc : Nat) (ts : List Tm) (cs : List Cl) (w : World) (ht : TermsAt w ta ts) (hcs : ClausesAt w sa cs) :
    Calls Try.prog 44 #[.agg #[.slice ta ts.length tc, .slice sa cs.length sc]] w fun e w' => e = .returned (.int .i64 (refuseI ts cs)) ∧ Below w.heap.size w w' := by
  have hb0 : Below w.heap.size w (w.alloc (.cells #[.slice ta ts.length tc, .slice sa cs.length sc] 33)) := (Below.refl _ _).alloc (Nat.le_refl _) _
  have ht' := ht.below hb0
  have hcs' := hcs.below hb0
  cases h1 : termsB ts
  · go_enter Try.func44, Try.ntmps44
    go_wp2_with (go_at_call 38; refine (rTerms_any ta tc ts _ ht').mono ?_; rintro e w' ⟨rfl, rfl⟩)
    go_ret
    exact ⟨ret_int (by simp [refuseI, h1]), hb0⟩
  · have h9 := (len_of h1).2
    have H1 := hide h1
    by_cases h16 : cs.length ≤ 16
    · go_enter Try.func44, Try.ntmps44
      go_wp2_with (go_at_call 38; refine (rTerms_any ta tc ts _ ht').mono ?_; rintro e w' ⟨rfl, rfl⟩)
      have q1 : (w.alloc (.cells #[.slice ta ts.length tc, .slice sa cs.length sc] 33)).cell? ⟨w.heap.size, 0, none⟩ = some (.slice ta ts.length tc) := by simp
      have q2 : (w.alloc (.cells #[.slice ta ts.length tc, .slice sa cs.length sc] 33)).cell? ⟨w.heap.size, 1, none⟩ = some (.slice sa cs.length sc) := by simp
      have hsz : w.heap.size ≤ (w.alloc (.cells #[.slice ta ts.length tc, .slice sa cs.length sc] 33)).heap.size := by simp
      generalize hW : w.alloc (.cells #[.slice ta ts.length tc, .slice sa cs.length sc] 33) = W at *
      clear hW
      clear h1
      go_loopg [4] cs.length (fun g v wr => ∃ k : Nat, g = cs.length - k ∧ k ≤ cs.length ∧ v = .int .i64 k ∧ Hid (∀ t, t < k → clauseB ts.length (cs.getD t cl0).ls = true) ∧ Below W.heap.size W wr)
      case atStart => exact ⟨0, by omega, Nat.zero_le _, rfl, (fun t h => by omega), Below.refl _ _⟩
      case round =>
        obtain ⟨i, rfl, hi, rfl, Hi, hb⟩ := hrel
        have r1 := cell_below hb q1
        have r2 := cell_below hb q2
        by_cases hlt : i < cs.length
        · obtain ⟨sb, so, rfl, scell⟩ := hcs'.get hlt
          obtain ⟨s1, s2⟩ := scell i hlt
          generalize hq : cs.getD i cl0 = q at *
          obtain ⟨qa, qc, ql⟩ := q
          have Hq := hide hq
          clear hq scell
          simp only at s1 s2
          have s1' := cell_below hb s1
          by_cases h6 : ql.length ≤ 6
          · go_wp2_with fail
            go_loopg [5] ql.length (fun g v wr' => ∃ k : Nat, g = ql.length - k ∧ k ≤ ql.length ∧ v = .int .i64 k ∧ Hid (∀ t, t < k → litOk ts.length (ql.getD t lt0) = true) ∧ Below W.heap.size W wr')
            case atStart => exact ⟨0, by omega, Nat.zero_le _, rfl, (fun t h => by omega), hb⟩
            case round =>
              clear r1 r2 s1' hb
              obtain ⟨k, rfl, hk, rfl, Hk, hb⟩ := hrel
              have r1 := cell_below hb q1
              have r2 := cell_below hb q2
              have s1' := cell_below hb s1
              by_cases hkt : k < ql.length
              · obtain ⟨lb, lo, rfl, lcell⟩ := (s2.below hb).get hkt
                obtain ⟨l1, l2, l3⟩ := lcell k hkt
                have hst : litOk ts.length (ql.getD k lt0) = (belowB (ql.getD k lt0).x ts.length && belowB (ql.getD k lt0).y ts.length) := rfl
                generalize (ql.getD k lt0).x = vx at *
                generalize (ql.getD k lt0).y = vy at *
                generalize (ql.getD k lt0).n = vn at *
                have Hst := hide hst
                clear hst lcell
                have hwb := block_lt r1
                have hwb2 := block_lt s1'
                have hno : (belowB vx ts.length && belowB vy ts.length) = false → refuseI ts cs = 3 := by
                  intro hf
                  have h3 : clausesB ts.length cs = false := clausesB_no i hlt (by rw [Hq.out]; exact clauseB_no k hkt (by rw [Hst.out, hf]))
                  simp [refuseI, H1.out, h3]
                have Hno := hide hno
                clear hno
                by_cases x0 : vx < 0
                · go_wp2_with fail
                  go_ret
                  exact ⟨ret_int (by rw [Hno.out (by simp [belowB]; omega)]), hb0.trans ((hb.alloc hb.size _).mono hsz)⟩
                · by_cases x1 : (ts.length : Int) ≤ vx
                  · go_wp2_with fail
                    go_ret
                    exact ⟨ret_int (by rw [Hno.out (by simp [belowB]; omega)]), hb0.trans ((hb.alloc hb.size _).mono hsz)⟩
                  · by_cases y0 : vy < 0
                    · go_wp2_with fail
                      go_ret
                      exact ⟨ret_int (by rw [Hno.out (by simp [belowB]; omega)]), hb0.trans ((hb.alloc hb.size _).mono hsz)⟩
                    · by_cases y1 : (ts.length : Int) ≤ vy
                      · go_wp2_with fail
                        go_ret
                        exact ⟨ret_int (by rw [Hno.out (by simp [belowB]; omega)]), hb0.trans ((hb.alloc hb.size _).mono hsz)⟩
                      · go_wp2_with fail
                        go_roundg (ql.length - (k + 1))
                        case measure => omega
                        case rel => exact ⟨k + 1, rfl, by omega, by go_num, upto_succ Hk.out (by rw [Hst.out]; simp [belowB]; omega), hb.alloc hb.size _⟩
              · go_wp2_with fail
                go_roundg (cs.length - (i + 1))
                case measure => omega
                case rel => exact ⟨i + 1, rfl, by omega, by go_num, upto_succ Hi.out (by rw [Hq.out]; show clauseB _ ql = true; exact clauseB_yes h6 (fun t ht => Hk.out t (by omega))), hb⟩
          · go_wp2_with fail
            go_ret
            exact ⟨ret_int (by
              have h3 : clausesB ts.length cs = false := clausesB_no i hlt (by rw [Hq.out]; simp [clauseB, h6])
              simp [refuseI, H1.out, h3]), hb0.trans (hb.mono hsz)⟩
        · go_wp2_with fail
          go_ret
          exact ⟨ret_int (by simp [refuseI, H1.out, clausesB_yes h16 (fun t ht => Hi.out t (by omega))]), hb0.trans (hb.mono hsz)⟩
    · go_enter Try.func44, Try.ntmps44
      go_wp2_with (go_at_call 38; refine (rTerms_any ta tc ts _ ht').mono ?_; rintro e w' ⟨rfl, rfl⟩)
      go_ret
      exact ⟨ret_int (by simp [refuseI, h1, clausesB, h16]), hb0⟩
end Go.Proofs.Ytiobmhfpnhjmcaa
namespace Go.Proofs.Ytiobmhfpnhjmcaa
open Go.RowKit
theorem anyB_succ {n : Nat} {p : Nat → Bool} : anyB (n + 1) p = (anyB n p || p n) := by simp [anyB, List.range_succ]
set_option maxRecDepth 100000 in
set_option maxHeartbeats 800000 in
theorem rHolds_any (ta sa ca : Option Addr) (tl tc sc cc : Nat) (cs : List Cl) (c : List Int) (w : World) (hcs : ClausesAt w sa cs) (hc : IntsAt w ca c) (hin : ClausesIn cs c.length) :
    Calls Try.prog 46 #[.agg #[.slice ta tl tc, .slice sa cs.length sc], .slice ca c.length cc] w fun e w' => e = .returned (.bool (allHoldB c cs)) ∧ Below w.heap.size w w' := by
  have Hin := hide hin
  have h16 := hin.1
  have hb0 : Below w.heap.size w (w.alloc (.cells #[.slice ta tl tc, .slice sa cs.length sc] 33)) := (Below.refl _ _).alloc (Nat.le_refl _) _
  have hcs' := hcs.below hb0
  have hc' := hc.below hb0
  clear hin
  go_enter Try.func46, Try.ntmps46
  go_wp2_with fail
  have q2 : (w.alloc (.cells #[.slice ta tl tc, .slice sa cs.length sc] 33)).cell? ⟨w.heap.size, 1, none⟩ = some (.slice sa cs.length sc) := by simp
  have hsz : w.heap.size ≤ (w.alloc (.cells #[.slice ta tl tc, .slice sa cs.length sc] 33)).heap.size := by simp
  generalize hW : w.alloc (.cells #[.slice ta tl tc, .slice sa cs.length sc] 33) = W at *
  clear hW
  go_loopg [5] cs.length (fun g v wr => ∃ k : Nat, g = cs.length - k ∧ k ≤ cs.length ∧ v = .int .i64 k ∧ Hid (∀ t, t < k → holdsB c (cs.getD t cl0).ls = true) ∧ Below W.heap.size W wr)
  case atStart => exact ⟨0, by omega, Nat.zero_le _, rfl, (fun t h => by omega), Below.refl _ _⟩
  case round =>
    obtain ⟨i, rfl, hi, rfl, Hi, hb⟩ := hrel
    have r2 := cell_below hb q2
    by_cases hlt : i < cs.length
    · obtain ⟨sb, so, rfl, scell⟩ := hcs'.get hlt
      obtain ⟨s1, s2⟩ := scell i hlt
      have hin := Hin.out.2 i hlt
      generalize hq : cs.getD i cl0 = q at *
      obtain ⟨qa, qc, ql⟩ := q
      have Hq := hide hq
      simp only at s1 s2 hin
      have Hli := hide hin
      have h6 := hin.1
      clear hq scell hin
      have s1' := cell_below hb s1
      go_wp2_with fail
      go_loopg [6, 7] ql.length (fun g v6 v wr' => ∃ (k : Nat), g = ql.length - k ∧ k ≤ ql.length ∧ v = .int .i64 k ∧ v6 = .bool (anyB k fun t => litB c (ql.getD t lt0)) ∧ Below W.heap.size W wr')
      case atStart => exact ⟨0, by omega, Nat.zero_le _, rfl, rfl, hb⟩
      case round =>
        clear r2 s1' hb
        obtain ⟨k, rfl, hk, rfl, rfl, hb⟩ := hrel
        have r2 := cell_below hb q2
        have s1' := cell_below hb s1
        by_cases hkt : k < ql.length
        · obtain ⟨lb, lo, rfl, lcell⟩ := (s2.below hb).get hkt
          obtain ⟨l1, l2, l3⟩ := lcell k hkt
          obtain ⟨⟨bx0, bx⟩, by0, bY⟩ := Hli.out.2 k hkt
          obtain ⟨nx, hnx⟩ := Int.eq_ofNat_of_zero_le bx0
          obtain ⟨ny, hny⟩ := Int.eq_ofNat_of_zero_le by0
          obtain ⟨cb, co, rfl, ccell⟩ := (hc'.below hb).get (i := nx) (by omega)
          have c1 := ccell nx (by omega)
          have c2 := ccell ny (by omega)
          have hst : litB c (ql.getD k lt0) = (decide (c.getD nx 0 = c.getD ny 0) != (ql.getD k lt0).n) := by simp only [litB, eqB, cls, hnx, hny, Int.toNat_natCast]
          have hsu : (anyB (k + 1) fun t => litB c (ql.getD t lt0)) = ((anyB k fun t => litB c (ql.getD t lt0)) || litB c (ql.getD k lt0)) := anyB_succ
          rw [hnx] at l1 bx
          rw [hny] at l2 bY
          generalize c.getD nx 0 = vx at *
          generalize c.getD ny 0 = vy at *
          generalize (ql.getD k lt0).n = nt at *
          generalize hav : (anyB k fun t => litB c (ql.getD t lt0)) = av at *
          have Hst := hide hst
          have Hsu := hide hsu
          clear hst hsu hav ccell lcell bx0 by0 hnx hny
          have hcb := block_lt c1
          have hwb := block_lt r2
          have hwb2 := block_lt s1'
          have d1 : decide ((nx : Int) < 0) = false := by simp
          have d2 : decide ((ny : Int) < 0) = false := by simp
          cases nt <;> cases av
          · go_upto_region 11 with fail
            go_quiet (fail)
            go_wp2_with fail
            go_roundg (ql.length - (k + 1))
            case measure => omega
            case rel => exact ⟨k + 1, rfl, by omega, by go_num, by rw [Hsu.out, Hst.out]; congr 1; rw [Bool.eq_iff_iff]; simp, below_drewN (hb.alloc hb.size _) _⟩
          · go_upto_region 11 with fail
            go_quiet (fail)
            go_wp2_with fail
            go_roundg (ql.length - (k + 1))
            case measure => omega
            case rel => exact ⟨k + 1, rfl, by omega, by go_num, by rw [Hsu.out]; simp, below_drewN (hb.alloc hb.size _) _⟩
          · go_upto_region 10 with fail
            go_quiet (fail)
            go_wp2_with fail
            go_roundg (ql.length - (k + 1))
            case measure => omega
            case rel => exact ⟨k + 1, rfl, by omega, by go_num, by rw [Hsu.out, Hst.out]; congr 1; rw [Bool.eq_iff_iff]; simp, below_drewN (hb.alloc hb.size _) _⟩
          · go_upto_region 10 with fail
            go_quiet (fail)
            go_wp2_with fail
            go_roundg (ql.length - (k + 1))
            case measure => omega
            case rel => exact ⟨k + 1, rfl, by omega, by go_num, by rw [Hsu.out]; simp, below_drewN (hb.alloc hb.size _) _⟩
        · obtain rfl : k = ql.length := by omega
          have hh : (anyB ql.length fun t => litB c (ql.getD t lt0)) = holdsB c ql := rfl
          rw [hh]
          clear hh
          cases hho : holdsB c ql
          · go_wp2_with fail
            go_ret
            exact ⟨ret_bool (by rw [allHoldB, allB_no i hlt (by rw [Hq.out]; exact hho)]), hb0.trans (hb.mono hsz)⟩
          · go_wp2_with fail
            go_roundg (cs.length - (i + 1))
            case measure => omega
            case rel => exact ⟨i + 1, rfl, by omega, by go_num, upto_succ Hi.out (by rw [Hq.out]; exact hho), hb⟩
    · go_wp2_with fail
      go_ret
      exact ⟨ret_bool (by rw [allHoldB, allB_yes (fun t ht => Hi.out t (by omega))]), hb0.trans (hb.mono hsz)⟩
end Go.Proofs.Ytiobmhfpnhjmcaa
namespace Go.Proofs.Ytiobmhfpnhjmcaa
open Go.RowKit
set_option maxRecDepth 100000 in
set_option maxHeartbeats 800000 in
theorem rTrue_any (ta sa ca : Option Addr) (tc sc cc : Nat) (ts : List Tm) (cs : List Cl) (c : List Int) (w : World) (ht : TermsAt w ta ts) (hcs : ClausesAt w sa cs) (hc : IntsAt w ca c) :
    Calls Try.prog 32 #[.agg #[.slice ta ts.length tc, .slice sa cs.length sc], .slice ca c.length cc] w fun e w' =>
      e = .returned (.tuple #[.bool (trueB ts cs c), .int .i64 (trueE ts cs c)]) ∧ Below w.heap.size w w' := by
  have hb0 : Below w.heap.size w (w.alloc (.cells #[.slice ta ts.length tc, .slice sa cs.length sc] 33)) := (Below.refl _ _).alloc (Nat.le_refl _) _
  go_enter Try.func32, Try.ntmps32
  go_wp2_with fail
  refine (look_any ta sa tc sc ts cs _ (ht.below hb0) (hcs.below hb0)).mono ?_
  rintro e w1 ⟨rfl, hb⟩
  have q1 : w1.cell? ⟨w.heap.size, 0, none⟩ = some (.slice ta ts.length tc) := cell_below hb (by simp)
  have q2 : w1.cell? ⟨w.heap.size, 1, none⟩ = some (.slice sa cs.length sc) := cell_below hb (by simp)
  have hsz : w.heap.size + 1 ≤ w1.heap.size := by have := hb.size; simp at this; exact this
  have hb1 : Below w.heap.size w w1 := hb0.trans (hb.mono (by simp))
  clear hb hb0
  by_cases he : refuseI ts cs = 0
  · have hbe : (refuseI ts cs != 0) = false := by simp [he]
    have hts : termsB ts = true := by cases h : termsB ts; simp [refuseI, h] at he; rfl
    have hcl : clausesB ts.length cs = true := by cases h : clausesB ts.length cs; simp [refuseI, hts, h] at he; rfl
    have h9 := (len_of hts).2
    have He := hide he
    have Hts := hide hts
    have Hcl := hide hcl
    clear he hts hcl
    by_cases hl : (c.length : Int) = ts.length
    · have hb1' : ((c.length : Int) != ts.length) = false := by simp [hl]
      have hc9 : c.length ≤ 9 := by omega
      have hl2 : ts.length ≤ c.length := by omega
      have hl3 : c.length = ts.length := by omega
      have Hl := hide hl
      have Hlen := hide hl3
      have hc1 := hc.below hb1
      clear hl hl3
      go_wp2_with fail
      go_loopg [7, 8] c.length (fun g s v wr => ∃ k nx : Nat, g = c.length - k ∧ k ≤ c.length ∧ v = .int .i64 k ∧ s = .int .i64 nx ∧ nx ≤ k ∧ Hid (rgs 0 c = rgs nx (c.drop k)) ∧ wr = w1)
      case atStart => exact ⟨0, 0, by omega, Nat.zero_le _, rfl, rfl, Nat.le_refl _, rfl, rfl⟩
      case round =>
        obtain ⟨k, nx, rfl, hk, rfl, rfl, hnk, Hr, rfl⟩ := hrel
        by_cases hlt : k < c.length
        · obtain ⟨cb, co, rfl, ccell⟩ := hc1.get hlt
          have c1 := ccell k hlt
          generalize hv : c.getD k 0 = v at *
          have Hv := hide hv
          clear hv ccell
          by_cases v0 : v < 0
          · go_wp2_with fail
            go_ret2
            have hf : classesB c ts.length = false := by simp [classesB, rgs_no hlt Hr.out (by rw [Hv.out]; simp [belowB]; omega)]
            exact ⟨ret_bi (by simp [trueB, hf]) (by simp [trueE, hf, He.out]), hb1⟩
          · by_cases v1 : (nx : Int) < v
            · go_wp2_with fail
              go_ret2
              have hf : classesB c ts.length = false := by simp [classesB, rgs_no hlt Hr.out (by rw [Hv.out]; simp [belowB]; omega)]
              exact ⟨ret_bi (by simp [trueB, hf]) (by simp [trueE, hf, He.out]), hb1⟩
            · have hbl : belowB v (nx + 1) = true := by simp [belowB]; omega
              have Hbl := hide hbl
              clear hbl
              by_cases he : v = nx
              · have hb2 : (v == (nx : Int)) = true := by simp [he]
                have He2 := hide he
                clear he
                go_wp2_with fail
                go_roundg (c.length - (k + 1))
                case measure => omega
                case rel => exact ⟨k + 1, nx + 1, rfl, by omega, by go_num, by go_num, by omega, by have := rgs_on hlt Hr.out (by rw [Hv.out]; exact Hbl.out); rw [Hv.out, if_pos He2.out] at this; exact this, rfl⟩
              · have hb2 : (v == (nx : Int)) = false := by simp [he]
                have He2 := hide he
                clear he
                go_wp2_with fail
                go_roundg (c.length - (k + 1))
                case measure => omega
                case rel => exact ⟨k + 1, nx, rfl, by omega, by go_num, rfl, by omega, by have := rgs_on hlt Hr.out (by rw [Hv.out]; exact Hbl.out); rw [Hv.out, if_neg He2.out] at this; exact this, rfl⟩
        · have hk' : classesB c ts.length = true := by simp [classesB, Hlen.out, Hr.out, List.drop_of_length_le (show c.length ≤ k by omega), rgs]
          have Hk := hide hk'
          clear hk'
          go_wp2_with fail
          refine (rSound_any ta ca tc cc ts c _ (ht.below hb1) hc1 hl2 h9 (argsIn_of Hts.out hl2)).mono ?_
          rintro e w3 ⟨rfl, n3, rfl⟩
          have hb4 : Below w.heap.size w (wr.drewN n3) := below_drewN hb1 _
          go_wp2_with fail
          refine (rHolds_any ta sa ca ts.length tc sc cc cs c _ (hcs.below hb4) (hc.below hb4) (by rw [Hlen.out]; exact clausesIn_of Hcl.out)).mono ?_
          rintro e w5 ⟨rfl, hb5⟩
          cases hsd : soundB ts c
          · go_wp2_with fail
            go_ret2
            exact ⟨ret_bi (by simp [trueB, hsd]) (by simp [trueE, Hk.out, He.out]), hb4.trans (hb5.mono hb4.size)⟩
          · go_wp2_with fail
            go_ret2
            exact ⟨ret_bi (by simp [trueB, Hk.out, hsd, He.out]) (by simp [trueE, Hk.out, He.out]), hb4.trans (hb5.mono hb4.size)⟩
    · have hb2 : ((c.length : Int) != ts.length) = true := by simp [hl]
      have hf : classesB c ts.length = false := by simp [classesB, hl]
      have Hf := hide hf
      clear hf
      go_wp2_with fail
      go_ret2
      exact ⟨ret_bi (by simp [trueB, Hf.out]) (by simp [trueE, Hf.out, He.out]), hb1⟩
  · have hbe : (refuseI ts cs != 0) = true := by simp [he]
    go_wp2_with fail
    go_ret2
    exact ⟨ret_bi (by simp [trueB, he]) (by simp [trueE, he]), hb1⟩
end Go.Proofs.Ytiobmhfpnhjmcaa
