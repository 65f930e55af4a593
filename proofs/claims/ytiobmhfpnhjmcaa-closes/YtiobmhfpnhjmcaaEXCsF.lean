import Derived.Test.YtiobmhfpnhjmcaaEXCsE
import Derived.Test.YtiobmhfpnhjmcaaEMRf
import Derived.Test.YtiobmhfpnhjmcaaEMCl
namespace Go.Proofs.Ytiobmhfpnhjmcaa
open Go.RowKit
theorem make_row_of {P : Program} (w : World) {ops : Array Oper} {rest : List Oper} {o : Oper} {a : Act} {Q : Exit → Act → World → Prop}
    (hg : o.guard = none) (l c : Operand) (t : TypeId) (hop : o.op = Op.makeSlice t l c)
    (e : TypeId) (i : TypeInfo) (z : Value) (ht : P.underlying t = some (.slice e)) (hi : P.info? e = some i) (hz : i.zero = some z) (hsize : i.size = 1) (hz1 : z.cells = #[z])
    (kl kc : IntKind) (n : Nat) (L : Int) (hL : L = (n : Int)) (hl : a.eval l = .int kl L) (hc : a.eval c = .int kc L) (hbytes : i.bytes * n ≤ 281474976710656) (h63 : n ≤ 9223372036854775807)
    (hK : wpList P ops Q rest (a.put o.dst (.slice (some ⟨w.heap.size, 0, none⟩) n n)) (w.alloc (.cells (madeCells #[z] n) e))) :
    wpList P ops Q (o :: rest) a w := by
  subst hL
  exact wpList_make_row w hg l c t hop e i z ht hi hz hsize hz1 kl kc n hl hc hbytes h63 hK
set_option maxRecDepth 100000 in
set_option maxHeartbeats 12000000 in
theorem rClose_any (ta pa : Option Addr) (tc pc : Nat) (ts : List Tm) (ps : List Pr) (C : List Int) (w : World) (ht : TermsAt w ta ts) (hp : PairsAt w pa ps) (htc : ts.length ≤ tc) (hpl : ps.length ≤ 8796093022208)
    (hC : termsB ts = true → pairsB ts.length ps = true → CloseOf ts ps C) :
    Calls Try.prog 24 #[.slice ta ts.length tc, .slice pa ps.length pc] w fun e w' =>
      ((termsB ts = false ∧ e = .returned (.tuple #[.slice none 0 0, .int .i64 1])) ∨ (termsB ts = true ∧ pairsB ts.length ps = false ∧ e = .returned (.tuple #[.slice none 0 0, .int .i64 2])) ∨
        (termsB ts = true ∧ pairsB ts.length ps = true ∧ ∃ oa oc, e = .returned (.tuple #[.slice oa C.length oc, .int .i64 0]) ∧ IntsAt w' oa C)) ∧ Below w.heap.size w w' := by
  obtain ⟨i1, hi1, hy0, hy1, hy2⟩ := info_parts info_bool
  obtain ⟨i2, hi2, hx0, hx1, hx2⟩ := info_parts info_int
  have HC := hide hC
  clear hC
  go_enter Try.func24, Try.ntmps24
  go_wp2_with fail
  refine (rTerms_any ta tc ts w ht).mono ?_
  rintro e w1 ⟨rfl, hw1⟩
  cases h1 : termsB ts
  · go_wp2_with fail
    go_ret2
    exact ⟨.inl ⟨h1, rfl⟩, by subst hw1; exact Below.refl _ _⟩
  · have Hts := hide h1
    have h9 := (len_of h1).2
    have h0 := (len_of h1).1
    subst hw1
    clear h1
    by_cases h60 : ps.length ≤ 60
    · have h60' : ¬ (60 : Int) < (ps.length : Int) := by omega
      go_upto_block 0 with fail
      go_cut [7] (fun s7 wx => Hid (pairsB ts.length ps = true) ∧ Below w1.heap.size w1 wx)
      case first =>
        go_wp2_with fail
        go_loopg [7] ps.length (fun q s7 wr => ∃ i : Nat, q = ps.length - i ∧ i ≤ ps.length ∧ s7 = .int .i64 i ∧ Hid (∀ t, t < i → pairOk ts.length (ps.getD t pr0) = true) ∧ Below w1.heap.size w1 wr)
        case atStart => exact ⟨0, by omega, by omega, rfl, (fun t h => by omega), Below.refl _ _⟩
        case round =>
          obtain ⟨i, rfl, hi, rfl, Hi, hb⟩ := hrel
          by_cases hlt : i < ps.length
          · obtain ⟨pb, po, rfl, pcell⟩ := (hp.below hb).get hlt
            obtain ⟨p1, p2⟩ := pcell i hlt
            generalize hq : ps.getD i pr0 = q at *
            obtain ⟨x, y⟩ := q
            have Hq := hide hq
            clear hq pcell
            simp only at p1 p2
            have Hbad : Hid (pairOk ts.length ⟨x, y⟩ = false → pairsB ts.length ps = false) := fun h => pairsB_no i hlt (by rw [Hq.out]; exact h)
            have hbA : Below w1.heap.size w1 (wr.alloc (.cells #[.int .i64 x, .int .i64 y] 29)) := hb.alloc hb.size _
            have hlt' : (i : Int) < (ps.length : Int) := by omega
            by_cases x0 : x < 0
            · have Hf := hide (Hbad.out (by simp [pairOk, belowB]; omega))
              go_wp2_with fail
              go_ret2
              exact ⟨.inr (.inl ⟨Hts.out, Hf.out, rfl⟩), hbA⟩
            · by_cases x9 : (ts.length : Int) ≤ x
              · have Hf := hide (Hbad.out (by simp [pairOk, belowB]; omega))
                go_wp2_with fail
                go_ret2
                exact ⟨.inr (.inl ⟨Hts.out, Hf.out, rfl⟩), hbA⟩
              · by_cases y0 : y < 0
                · have Hf := hide (Hbad.out (by simp [pairOk, belowB]; omega))
                  go_wp2_with fail
                  go_ret2
                  exact ⟨.inr (.inl ⟨Hts.out, Hf.out, rfl⟩), hbA⟩
                · by_cases y9 : (ts.length : Int) ≤ y
                  · have Hf := hide (Hbad.out (by simp [pairOk, belowB]; omega))
                    go_wp2_with fail
                    go_ret2
                    exact ⟨.inr (.inl ⟨Hts.out, Hf.out, rfl⟩), hbA⟩
                  · have Hok : Hid (pairOk ts.length ⟨x, y⟩ = true) := by show pairOk ts.length ⟨x, y⟩ = true; simp [pairOk, belowB]; omega
                    go_wp2_with fail
                    go_roundg (ps.length - (i + 1))
                    case measure => omega
                    case rel => exact ⟨i + 1, rfl, by omega, by go_num, upto_succ Hi.out (by rw [Hq.out]; exact Hok.out), hbA⟩
          · have hng : ¬ (i : Int) < (ps.length : Int) := by omega
            have Hpb : Hid (pairsB ts.length ps = true) := by
              show pairsB ts.length ps = true
              simp only [pairsB, Bool.and_eq_true, decide_eq_true_eq]
              exact ⟨h60, allB_yes (fun t ht => Hi.out t (by omega))⟩
            go_wp2_with fail
            go_meet
            exact ⟨Hpb, hb⟩
      case rest =>
        obtain ⟨Hpb, hbc⟩ := hcut
        have Hco := hide (HC.out Hts.out Hpb.out)
        have ht2 := ht.below hbc
        have hp2 := hp.below hbc
        have hnn81 : ts.length * ts.length ≤ 81 := Nat.mul_le_mul h9 h9
        have hn81 : (ts.length : Int) * ts.length ≤ 81 := by
          have h2 : ((ts.length * ts.length : Nat) : Int) ≤ 81 := by omega
          simpa using h2
        have hn00 : (0 : Int) ≤ (ts.length : Int) * ts.length := Int.mul_nonneg (by omega) (by omega)
        clear ht hp HC
        go_upto_region 14 with (at_make; refine make_row_of _ rfl _ _ 75 rfl 4 i1 (.bool false) Try.underlying75 hi1 hy0 hy1 rfl _ _ (ts.length * ts.length) _ (by simp) rfl rfl (by rw [hy2]; omega) (by omega) ?_)
        obtain ⟨w2, hw2⟩ : ∃ w2, w2 = wc.alloc (.cells (madeCells #[.bool false] (ts.length * ts.length)) 4) := ⟨_, rfl⟩
        have hbA : Below wc.heap.size wc w2 := by rw [hw2]; exact below_new _ _
        have hrow2 : BRow w2 wc.heap.size (tabB (ts.length * ts.length) fun _ => false) := by rw [hw2]; unfold BRow; rw [← made_bools]; exact heap_at_new _ _ _ rfl
        rw [← hw2]
        have ht3 := ht2.below hbA
        have hp3 := hp2.below hbA
        have hcon := all_any ta tc ts w2 ht3 Hts.out htc
        have Hcon := hide hcon
        have hlt2 : wc.heap.size < w2.heap.size := by rw [hw2]; simp
        have hb12 : Below w1.heap.size w1 w2 := hbc.trans (hbA.mono hbc.size)
        clear hw2 hcon ht2 hp2 hbA
        go_wp2_with fail
        refine Hcon.out.mono ?_
        rintro e w3 ⟨ya, yc, ys, rfl, hys, hmap, hy9, hb3⟩
        have hrow3 := hrow2.below hb3 hlt2
        have hp4 := hp3.below hb3
        have hb13 : Below w1.heap.size w1 w3 := hb12.trans (hb3.mono hb12.size)
        have Hmap := hide hmap
        have hg1 : w1.heap.size ≤ wc.heap.size := hbc.size
        clear Hcon hb12 hb3 hrow2 ht3 hp3 hmap hlt2 hbc
        generalize wc.heap.size = g at *
        have Hpi : Hid (PairsIn ps ts.length) := pairsIn_of Hpb.out
        have hyl : (ys.map Wy.xs).length = ys.length := List.length_map _
        have Hget : Hid (∀ i, i < ys.length → (ys.map Wy.xs).getD i [] = (ys.getD i wy0).xs) := fun i hi => by simp [hi]
        have Hlen : Hid (∀ i, i < ys.length → (ys.getD i wy0).xs.length = ts.length) := fun i hi => by
          have hm : (ys.getD i wy0).xs ∈ ys.map Wy.xs := by
            rw [← Hget.out i hi, List.getD_eq_getElem?_getD, List.getElem?_eq_getElem (by simpa using hi), Option.getD_some]; exact List.getElem_mem _
          rw [Hmap.out] at hm
          exact (eachL_only Hts.out hm).1
        go_upto_block 2 with fail
        go_cut [12] (fun s12 wx => BRow wx g (tabB (ts.length * ts.length) (apF (ys.map Wy.xs) ps ts.length)) ∧ Below w1.heap.size w1 wx)
        case first =>
          go_wp2_with fail
          go_loopg [12] ys.length (fun q s12 wr => ∃ i : Nat, q = ys.length - i ∧ i ≤ ys.length ∧ s12 = .int .i64 i ∧ BRow wr g (tabB (ts.length * ts.length) (apF ((ys.map Wy.xs).take i) ps ts.length)) ∧ w3.grownBy wr (some g))
          case atStart => exact ⟨0, by omega, by omega, rfl, (by have e : apF (List.take 0 (ys.map Wy.xs)) ps ts.length = fun _ => false := (by funext k; simp [apF]); rw [e]; exact hrow3), World.grownBy.refl _ _⟩
          case round =>
            obtain ⟨i, rfl, hi, rfl, hrow, hbr⟩ := hrel
            by_cases hlt : i < ys.length
            · have hlt' : (i : Int) < (ys.length : Int) := by omega
              obtain ⟨yb, yo, rfl, ycell⟩ := (ways_kept hys hrow3 hbr).get hlt
              obtain ⟨y1, y2⟩ := ycell i hlt
              have hpr := pairs_kept hp4 hrow3 hbr
              have Hyx := hide (Hlen.out i hlt)
              have Hsn : Hid (∀ k, apF ((ys.map Wy.xs).take (i + 1)) ps ts.length k = (apF ((ys.map Wy.xs).take i) ps ts.length k || (pairsHold (ys.getD i wy0).xs ps && !decide ((ys.getD i wy0).xs.getD (k / ts.length) 0 = (ys.getD i wy0).xs.getD (k % ts.length) 0)))) := fun k => by
                rw [apF_snoc _ _ _ (by rw [hyl]; exact hlt), Hget.out i hlt]
              generalize ys.getD i wy0 = y at *
              obtain ⟨xa, xc, xs⟩ := y
              simp only [wyVal] at y1 y2 Hyx Hsn
              clear ycell
              go_upto_block 4 with fail
              go_cut [14] (fun s14 wx => s14 = .bool (pairsHold xs ps) ∧ ∃ m, wx = wr.drewN m)
              case first =>
                go_wp2_with fail
                go_loopg [14, 15] ps.length (fun q s14 s15 wx => ∃ (k : Nat) (f : Bool), q = ps.length - k ∧ k ≤ ps.length ∧ s15 = .int .i64 k ∧ s14 = .bool f ∧ Hid (f = allB k fun t => eqB xs (ps.getD t pr0).x (ps.getD t pr0).y) ∧ ∃ m, wx = wr.drewN m)
                case atStart => exact ⟨0, true, by omega, by omega, rfl, rfl, rfl, 0, rfl⟩
                case round =>
                  obtain ⟨k, f, rfl, hk, rfl, rfl, Hf, m, rfl⟩ := hrel
                  by_cases hkl : k < ps.length
                  · have hkl' : (k : Int) < (ps.length : Int) := by omega
                    obtain ⟨pb, po, rfl, pcell⟩ := hpr.get hkl
                    obtain ⟨p1, p2⟩ := pcell k hkl
                    obtain ⟨⟨bx0, bx⟩, by0, bY⟩ := Hpi.out.2 k hkl
                    have HfS : Hid ((allB (k + 1) fun t => eqB xs (ps.getD t pr0).x (ps.getD t pr0).y) = (f && eqB xs (ps.getD k pr0).x (ps.getD k pr0).y)) := by
                      show _ = _
                      rw [Hf.out, allB, allB, List.range_succ, List.all_append]; simp
                    generalize ps.getD k pr0 = q at *
                    obtain ⟨x, y⟩ := q
                    simp only at p1 p2 bx0 bx by0 bY HfS
                    obtain ⟨nx, rfl⟩ := Int.eq_ofNat_of_zero_le bx0
                    obtain ⟨ny, rfl⟩ := Int.eq_ofNat_of_zero_le by0
                    obtain ⟨xb, xo, rfl, xcell⟩ := y2.get (i := nx) (by rw [Hyx.out]; omega)
                    have c1 := xcell nx (by rw [Hyx.out]; omega)
                    have c2 := xcell ny (by rw [Hyx.out]; omega)
                    have hst : eqB xs (nx : Int) (ny : Int) = decide (xs.getD nx 0 = xs.getD ny 0) := rfl
                    have bx' : (nx : Int) < (xs.length : Int) := by rw [Hyx.out]; exact bx
                    have bY' : (ny : Int) < (xs.length : Int) := by rw [Hyx.out]; exact bY
                    generalize xs.getD nx 0 = v1 at *
                    generalize xs.getD ny 0 = v2 at *
                    have Hst := hide hst
                    clear pcell xcell hst bx0 by0
                    cases f
                    · go_wp2_with fail
                      go_quiet (fail)
                      go_wp2_with fail
                      go_roundg (ps.length - (k + 1))
                      case measure => omega
                      case rel => exact ⟨k + 1, false, rfl, by omega, by go_num, rfl, (by show _ = _; rw [HfS.out]; rfl), _, rfl⟩
                    · by_cases he : v1 = v2
                      · have hb1 : (v1 == v2) = true := by simp [he]
                        have He := hide he
                        clear he
                        go_wp2_with fail
                        go_quiet (fail)
                        go_wp2_with fail
                        go_roundg (ps.length - (k + 1))
                        case measure => omega
                        case rel => exact ⟨k + 1, true, rfl, by omega, by go_num, rfl, (by show _ = _; rw [HfS.out, Hst.out]; simp [He.out]), _, rfl⟩
                      · have hb1 : (v1 == v2) = false := by simp [he]
                        have He := hide he
                        clear he
                        go_wp2_with fail
                        go_quiet (fail)
                        go_wp2_with fail
                        go_roundg (ps.length - (k + 1))
                        case measure => omega
                        case rel => exact ⟨k + 1, false, rfl, by omega, by go_num, rfl, (by show _ = _; rw [HfS.out, Hst.out]; simp [He.out]), _, rfl⟩
                  · have hng : ¬ (k : Int) < (ps.length : Int) := by omega
                    have hke : Hid (f = pairsHold xs ps) := by
                      show _ = _
                      have : k = ps.length := by omega
                      rw [Hf.out, this]; rfl
                    go_wp2_with fail
                    go_meet
                    exact ⟨by rw [hke.out], m, rfl⟩
              case rest =>
                obtain ⟨rfl, m0, rfl⟩ := hcut
                have hrowm : BRow (wr.drewN m0) g (tabB (ts.length * ts.length) (apF ((ys.map Wy.xs).take i) ps ts.length)) := hrow
                have hbrm : w3.grownBy (wr.drewN m0) (some g) := gb_trans hbr (gb_below (below_drewN (Below.refl _ _) m0) _)
                have y2m : IntsAt (wr.drewN m0) xa xs := y2
                clear y1 hrow hbr hpr y2
                generalize wr.drewN m0 = wm at *
                cases hf : pairsHold xs ps
                · have hrowF : BRow wm g (tabB (ts.length * ts.length) (apF ((ys.map Wy.xs).take (i + 1)) ps ts.length)) := by
                    rw [tabB_congr (fun t _ => by rw [Hsn.out t, hf, Bool.false_and, Bool.or_false])]; exact hrowm
                  clear hf
                  go_wp2_with fail
                  go_loopg [16] 1 (fun q s16 wx => q = 1 ∧ wx = wm)
                  case atStart => exact ⟨rfl, rfl⟩
                  case round =>
                    obtain ⟨rfl, rfl⟩ := hrel
                    go_wp2_with fail
                    go_roundg (ys.length - (i + 1))
                    case measure => omega
                    case rel => exact ⟨i + 1, rfl, by omega, by go_num, hrowF, hbrm⟩
                · have Hsn2 : Hid (∀ t, apF ((ys.map Wy.xs).take (i + 1)) ps ts.length t = (apF ((ys.map Wy.xs).take i) ps ts.length t || !decide (xs.getD (t / ts.length) 0 = xs.getD (t % ts.length) 0))) := fun t => by
                    rw [Hsn.out t, hf, Bool.true_and]
                  clear hf
                  go_wp2_with fail
                  go_loopg [16] (ts.length * ts.length) (fun q s16 wx => ∃ k : Nat, q = ts.length * ts.length - k ∧ k ≤ ts.length * ts.length ∧ s16 = .int .i64 k ∧
                    BRow wx g (tabB (ts.length * ts.length) fun t => apF ((ys.map Wy.xs).take i) ps ts.length t || (decide (t < k) && !decide (xs.getD (t / ts.length) 0 = xs.getD (t % ts.length) 0))) ∧ wm.grownBy wx (some g))
                  case atStart => exact ⟨0, by omega, by omega, rfl, (by rw [tabB_congr (g := apF ((ys.map Wy.xs).take i) ps ts.length) (fun t _ => by simp)]; exact hrowm), World.grownBy.refl _ _⟩
                  case round =>
                    obtain ⟨k, rfl, hk, rfl, hrowk, hbk⟩ := hrel
                    by_cases hkl : k < ts.length * ts.length
                    · have hkl' : (k : Int) < (ts.length : Int) * ts.length := by
                        have h2 : ((k : Nat) : Int) < ((ts.length * ts.length : Nat) : Int) := by omega
                        simpa using h2
                      have hA : k / ts.length < ts.length := Nat.div_lt_of_lt_mul hkl
                      have hB : k % ts.length < ts.length := Nat.mod_lt _ (by omega)
                      have eA0 : (k : Int) / ts.length = ((k / ts.length : Nat) : Int) := (Int.natCast_ediv k ts.length).symm
                      have eB0 : (k : Int) % ts.length = ((k % ts.length : Nat) : Int) := (Int.natCast_emod k ts.length).symm
                      have Hnext : Hid (∀ t, (apF ((ys.map Wy.xs).take i) ps ts.length t || (decide (t < k + 1) && !decide (xs.getD (t / ts.length) 0 = xs.getD (t % ts.length) 0))) =
                          if t = k then (apF ((ys.map Wy.xs).take i) ps ts.length k || !decide (xs.getD (k / ts.length) 0 = xs.getD (k % ts.length) 0)) else (apF ((ys.map Wy.xs).take i) ps ts.length t || (decide (t < k) && !decide (xs.getD (t / ts.length) 0 = xs.getD (t % ts.length) 0)))) := fun t => by
                        by_cases h : t = k
                        · subst h; simp
                        · have e : decide (t < k + 1) = decide (t < k) := by rw [Bool.eq_iff_iff]; simp; omega
                          rw [if_neg h, e]
                      obtain ⟨xb, xo, rfl, xcell⟩ := (ints_kept y2m hrowm hbk).get (i := k / ts.length) (by rw [Hyx.out]; exact hA)
                      have c1 := xcell (k / ts.length) (by rw [Hyx.out]; exact hA)
                      have c2 := xcell (k % ts.length) (by rw [Hyx.out]; exact hB)
                      have rc := hrowk.cell (k := k) (by rw [tabB_length]; exact hkl)
                      have rf := hrowk.frozen k
                      have rset := hrowk.set k true
                      have Hrset := hide rset
                      have Hrowk := hide hrowk
                      have Hbk := hide hbk
                      have hxl : (xs.length : Int) = (ts.length : Int) := by rw [Hyx.out]
                      generalize hvA : xs.getD (k / ts.length) 0 = v1 at *
                      generalize hvB : xs.getD (k % ts.length) 0 = v2 at *
                      generalize k / ts.length = A at *
                      generalize k % ts.length = Bq at *
                      have HvA := hide hvA
                      have HvB := hide hvB
                      clear xcell rset hrowk hbk hvA hvB
                      have hA' : (A : Int) < (xs.length : Int) := by omega
                      have hB' : (Bq : Int) < (xs.length : Int) := by omega
                      have hw64 : wrap64 (A : Int) = (A : Int) := wrap64_small (by omega) (by omega)
                      by_cases he : v1 = v2
                      · have hb1 : (v1 != v2) = false := by simp [he]
                        have He := hide he
                        clear he
                        have hnx : BRow wr g (tabB (ts.length * ts.length) fun t => apF ((ys.map Wy.xs).take i) ps ts.length t || (decide (t < k + 1) && !decide (xs.getD (t / ts.length) 0 = xs.getD (t % ts.length) 0))) := by
                          rw [tabB_congr (fun t _ => by
                            show _ = (apF ((ys.map Wy.xs).take i) ps ts.length t || (decide (t < k) && !decide (xs.getD (t / ts.length) 0 = xs.getD (t % ts.length) 0)))
                            rw [Hnext.out t]
                            by_cases h : t = k
                            · rw [if_pos h, h]; simp [He.out]
                            · rw [if_neg h])]
                          exact Hrowk.out
                        have Hnx := hide hnx
                        clear hnx rc rf
                        go_upto_region 27 with fail
                        go_quiet (fail)
                        go_wp2_with fail
                        go_roundg (ts.length * ts.length - (k + 1))
                        case measure => omega
                        case rel => exact ⟨k + 1, rfl, by omega, by go_num, Hnx.out.below (B := wr.heap.size) (below_drewN (Below.refl _ _) _) Hnx.out.lt, gb_trans Hbk.out (gb_below (below_drewN (Below.refl _ _) _) _)⟩
                      · have hb1 : (v1 != v2) = true := by simp [he]
                        have He := hide he
                        clear he
                        have Hset : Hid ((tabB (ts.length * ts.length) fun t => apF ((ys.map Wy.xs).take i) ps ts.length t || (decide (t < k) && !decide (xs.getD (t / ts.length) 0 = xs.getD (t % ts.length) 0))).set k true =
                            tabB (ts.length * ts.length) fun t => apF ((ys.map Wy.xs).take i) ps ts.length t || (decide (t < k + 1) && !decide (xs.getD (t / ts.length) 0 = xs.getD (t % ts.length) 0))) := by
                          show _ = _
                          rw [tabB_set]
                          refine tabB_congr (fun t _ => ?_)
                          rw [Hnext.out t]
                          by_cases h : t = k
                          · rw [if_pos h, if_pos h]; simp [He.out]
                          · rw [if_neg h, if_neg h]
                        have rc' : ∀ n', (wr.drewN n').cell? ⟨g, k, none⟩ = some (.bool ((tabB (ts.length * ts.length) fun t => apF ((ys.map Wy.xs).take i) ps ts.length t || (decide (t < k) && !decide (xs.getD (t / ts.length) 0 = xs.getD (t % ts.length) 0))).getD k false)) := fun n' => rc
                        have rf' : ∀ n', (wr.drewN n').frozen? ⟨g, k, none⟩ = false := fun n' => rf
                        generalize (tabB (ts.length * ts.length) fun t => apF ((ys.map Wy.xs).take i) ps ts.length t || (decide (t < k) && !decide (xs.getD (t / ts.length) 0 = xs.getD (t % ts.length) 0))).getD k false = ob at *
                        clear rc rf
                        go_upto_region 27 with fail
                        go_quiet (fail)
                        go_wp2_with fail
                        go_roundg (ts.length * ts.length - (k + 1))
                        case measure => omega
                        case rel => exact ⟨k + 1, rfl, by omega, by go_num, (by rw [← Hset.out]; exact BRow.set (Hrowk.out.below (B := wr.heap.size) (below_drewN (Below.refl _ _) _) Hrowk.out.lt) k true), gb_trans (gb_trans Hbk.out (gb_below (below_drewN (Below.refl _ _) _) _)) (gb_set _ _ _ _)⟩
                    · have hng : ¬ (k : Int) < (ts.length : Int) * ts.length := by
                        have h2 : ¬ ((k : Nat) : Int) < ((ts.length * ts.length : Nat) : Int) := by omega
                        simpa using h2
                      have hrowF : BRow wr g (tabB (ts.length * ts.length) (apF ((ys.map Wy.xs).take (i + 1)) ps ts.length)) := by
                        rw [tabB_congr (fun t ht => by rw [Hsn2.out t])]
                        rw [tabB_congr (f := fun t => apF ((ys.map Wy.xs).take i) ps ts.length t || (decide (t < k) && !decide (xs.getD (t / ts.length) 0 = xs.getD (t % ts.length) 0))) (g := fun t => apF ((ys.map Wy.xs).take i) ps ts.length t || !decide (xs.getD (t / ts.length) 0 = xs.getD (t % ts.length) 0)) (fun t ht => by
                          have : decide (t < k) = true := by simp; omega
                          rw [this, Bool.true_and])] at hrowk
                        exact hrowk
                      have hbF := gb_trans hbrm hbk
                      clear hrowk hbk
                      go_wp2_with fail
                      go_roundg (ys.length - (i + 1))
                      case measure => omega
                      case rel => exact ⟨i + 1, rfl, by omega, by go_num, hrowF, hbF⟩
            · have hng : ¬ (i : Int) < (ys.length : Int) := by omega
              have hrowE : BRow wr g (tabB (ts.length * ts.length) (apF (ys.map Wy.xs) ps ts.length)) := by
                rw [List.take_of_length_le (by rw [hyl]; omega)] at hrow; exact hrow
              go_wp2_with fail
              go_meet
              exact ⟨hrowE, hb13.grown hbr hb13.size (fun k hk => by injection hk with hk; omega)⟩
        case rest =>
          obtain ⟨hrowE, hbE⟩ := hcut
          generalize hwE : wc = wE at *
          clear hwE
          rw [Hmap.out] at hrowE
          clear hys hp4 hb13 hrow3 Hget Hlen Hmap Hpi hyl
          have HCl : Hid (C.length = ts.length) := Hco.out.1
          have hgl := hrowE.lt
          have HE := hide hrowE
          clear hrowE
          go_wp2_with fail
          go_loopg [17, 18, 19] ts.length (fun q s17 s18 s19 wr => ∃ (i : Nat) (oa : Option Addr) (oc : Nat) (nx : Int), q = ts.length - i ∧ i ≤ ts.length ∧ s19 = .int .i64 i ∧ s18 = .int .i64 nx ∧ Hid (nx = nxt C i) ∧ s17 = .slice oa i oc ∧
            wr.ownsRow wE.heap.size 3 1 (.slice oa i oc) i (intCells (C.take i)) ∧ Below wE.heap.size wE wr)
          case atStart => exact ⟨0, none, 0, 0, by omega, by omega, rfl, rfl, rfl, rfl, World.ownsRow_nil _ _ _ _, Below.refl _ _⟩
          case round =>
            obtain ⟨i, oa, oc, nx, rfl, hi, rfl, rfl, Hnx, rfl, hown, hbr⟩ := hrel
            have hnx0 := nxt_nonneg C i
            rw [← Hnx.out] at hnx0
            by_cases hlt : i < ts.length
            · have hlt' : (i : Int) < (ts.length : Int) := by omega
              have hrowr := HE.out.below hbr hgl
              have hlenT : (C.take i).length = i := by simp; have := HCl.out; omega
              have hout : IntsAt wr oa (C.take i) := intsAt_of_own (cap := oc) (base := wE.heap.size) (by rw [hlenT]; exact hown)
              have HlenT := hide hlenT
              have hP72 : i * ts.length ≤ 72 := Nat.le_trans (Nat.mul_le_mul (show i ≤ 8 by omega) h9) (by decide)
              have hPn : i * ts.length + ts.length ≤ ts.length * ts.length := by
                have := Nat.mul_le_mul_right ts.length (show i + 1 ≤ ts.length by omega)
                rw [Nat.succ_mul] at this; exact this
              have Hcell : Hid (∀ t, t < i → wr.cell? ⟨g, i * ts.length + t, none⟩ = some (.bool (!decide (C.getD i 0 = C.getD t 0)))) := fun t ht => by
                have h := hrowr.cell (k := i * ts.length + t) (by rw [tabB_length]; omega)
                rw [tabB_getD _ _ (by omega), ap_close Hts.out Hco.out hlt (by omega)] at h
                exact h
              have hmul : (i : Int) * (ts.length : Int) = ((i * ts.length : Nat) : Int) := by simp
              have hsq : ((ts.length * ts.length : Nat) : Int) = (ts.length : Int) * ts.length := by simp
              generalize i * ts.length = P at *
              clear hlenT hrowr
              go_upto_block 10 with fail
              go_cut [20] (fun s20 wx => s20 = .int .i64 (C.getD i 0) ∧ wx = wr)
              case first =>
                go_wp2_with fail
                go_loopg [20, 21] i (fun m s20 s21 wx => ∃ (j cl : Int), m ≤ i ∧ s21 = .int .i64 j ∧ Hid (j = (m : Int) - 1) ∧ s20 = .int .i64 cl ∧ Hid ((∃ t, m ≤ t ∧ t < i ∧ C.getD t 0 = C.getD i 0) → cl = C.getD i 0) ∧ Hid ((¬ ∃ t, m ≤ t ∧ t < i ∧ C.getD t 0 = C.getD i 0) → cl = nxt C i) ∧ wx = wr)
                case atStart => exact ⟨(i : Int) - 1, nx, by omega, by go_num, rfl, rfl, (fun h => by obtain ⟨t, h1, h2, _⟩ := h; omega), (fun _ => Hnx.out), rfl⟩
                case round =>
                  obtain ⟨j, cl, hm, rfl, Hj, rfl, H1, H2, rfl⟩ := hrel
                  by_cases hj0 : 0 ≤ j
                  · obtain ⟨t, rfl⟩ := Int.eq_ofNat_of_zero_le hj0
                    have ht1 : t < i := by have := Hj.out; omega
                    have Hm : Hid (gk = t + 1) := by have := Hj.out; show gk = t + 1; omega
                    have rc := Hcell.out t ht1
                    obtain ⟨ob, oo, rfl, ocell⟩ := hout.get (i := t) (by rw [HlenT.out]; exact ht1)
                    have oc1 := ocell t (by rw [HlenT.out]; exact ht1)
                    have Hoc : Hid ((C.take i).getD t 0 = C.getD t 0) := by
                      show _ = _
                      rw [List.getD_eq_getElem?_getD, List.getD_eq_getElem?_getD, List.getElem?_take, if_pos ht1]
                    rw [Hoc.out] at oc1
                    have k1 : (P : Int) + (t : Int) < (ts.length : Int) * ts.length := by omega
                    have k2 : (t : Int) < (i : Int) := by omega
                    have ht8 : t ≤ 8 := by omega
                    clear ocell hj0 hsq
                    by_cases he : C.getD i 0 = C.getD t 0
                    · rw [show (!decide (C.getD i 0 = C.getD t 0)) = false by rw [decide_eq_true he]; rfl] at rc
                      have He := hide he
                      clear he
                      generalize hvt : C.getD t 0 = vt at *
                      have Hvt := hide hvt
                      clear hvt
                      go_wp2_with fail
                      go_roundg t
                      case measure => have := Hm.out; omega
                      case rel =>
                        exact ⟨(t : Int) - 1, vt, by omega, by go_num, rfl, rfl, (fun _ => He.out.symm), (fun h => absurd ⟨t, Nat.le_refl _, ht1, by rw [Hvt.out]; exact He.out.symm⟩ h), rfl⟩
                    · rw [show (!decide (C.getD i 0 = C.getD t 0)) = true by rw [decide_eq_false he]; rfl] at rc
                      have He := hide he
                      clear he oc1
                      go_wp2_with fail
                      go_roundg t
                      case measure => have := Hm.out; omega
                      case rel =>
                        refine ⟨(t : Int) - 1, cl, by omega, by go_num, rfl, rfl, ?_, ?_, rfl⟩
                        · rintro ⟨t', h1, h2, h3⟩
                          refine H1.out ⟨t', ?_, h2, h3⟩
                          rw [Hm.out]
                          rcases Nat.lt_or_ge t t' with h | h
                          · exact h
                          · have : t' = t := by omega
                            rw [this] at h3; exact absurd h3.symm He.out
                        · intro h
                          refine H2.out (fun ⟨t', h1, h2, h3⟩ => h ⟨t', ?_, h2, h3⟩)
                          rw [Hm.out] at h1; omega
                  · have Hcl : Hid (cl = C.getD i 0) := by
                      have hg0 : gk = 0 := by have := Hj.out; omega
                      refine class_end Hco.out.2.1 (by rw [HCl.out]; exact hlt) (fun ⟨t, h1, h2⟩ => H1.out ⟨t, by omega, h1, h2⟩) (fun h => H2.out (fun ⟨t, _, h2, h3⟩ => h ⟨t, h2, h3⟩))
                    go_wp2_with fail
                    go_meet
                    exact ⟨by rw [Hcl.out], rfl⟩
              case rest =>
                obtain ⟨rfl, rfl⟩ := hcut
                have Htk : Hid (intCells (C.take (i + 1)) = intCells (C.take i) ++ [.int .i64 (C.getD i 0)]) := by
                  show _ = _
                  have e : C.take (i + 1) = C.take i ++ [C.getD i 0] := by
                    rw [List.getD_eq_getElem?_getD, List.getElem?_eq_getElem (by rw [HCl.out]; exact hlt), Option.getD_some, List.take_succ_eq_append_getElem (by rw [HCl.out]; exact hlt)]
                  rw [e]; simp [intCells]
                have Hnext : Hid (nxt C (i + 1) = if C.getD i 0 = nx then nx + 1 else nx) := by show _ = _; rw [nxt, Hnx.out]
                have hszr := hbr.size
                clear hout Hcell hmul hsq
                generalize C.getD i 0 = ci at *
                by_cases hcx : ci = nx
                · have hbx : (ci == nx) = true := by simp [hcx]
                  have Hcx := hide hcx
                  clear hcx
                  go_wp2_with (at_builtin; refine wpList_append_own _ rfl (.tmp 161) (.tmp 163) 24 rfl wE.heap.size 3 i2 (.int .i64 0) 1 8 Try.underlying24 hi2 hx0 hx1 hx2 rfl (by decide) (.slice oa i oc) i (intCells (C.take i)) rfl (hown.alloc _) ⟨wc.heap.size, 0, none⟩ 1 1 [.int .i64 ci] rfl rfl (new_one _ _ _) (fun u hu => by simp at hu; subst hu; rfl) (by unfold maxLen; omega) (by omega) (by simp; omega) ?_; intro qv w5 hown5 hgr5 hz5; clear hz5; obtain ⟨qa, qc, hqv⟩ := own_val hown5; subst hqv)
                  go_roundg (ts.length - (i + 1))
                  case measure => omega
                  case rel => exact ⟨i + 1, qa, qc, nx + 1, rfl, by omega, by go_num, by go_num, (by show _ = _; rw [Hnext.out, if_pos Hcx.out]), rfl, by rw [Htk.out]; exact hown5, (hbr.alloc hszr _).grown hgr5 (by simp; omega) (fun k hk => (hown.lt k hk).1)⟩
                · have hbx : (ci == nx) = false := by simp [hcx]
                  have Hcx := hide hcx
                  clear hcx
                  go_wp2_with (at_builtin; refine wpList_append_own _ rfl (.tmp 161) (.tmp 163) 24 rfl wE.heap.size 3 i2 (.int .i64 0) 1 8 Try.underlying24 hi2 hx0 hx1 hx2 rfl (by decide) (.slice oa i oc) i (intCells (C.take i)) rfl (hown.alloc _) ⟨wc.heap.size, 0, none⟩ 1 1 [.int .i64 ci] rfl rfl (new_one _ _ _) (fun u hu => by simp at hu; subst hu; rfl) (by unfold maxLen; omega) (by omega) (by simp; omega) ?_; intro qv w5 hown5 hgr5 hz5; clear hz5; obtain ⟨qa, qc, hqv⟩ := own_val hown5; subst hqv)
                  go_roundg (ts.length - (i + 1))
                  case measure => omega
                  case rel => exact ⟨i + 1, qa, qc, nx, rfl, by omega, by go_num, rfl, (by show _ = _; rw [Hnext.out, if_neg Hcx.out]), rfl, by rw [Htk.out]; exact hown5, (hbr.alloc hszr _).grown hgr5 (by simp; omega) (fun k hk => (hown.lt k hk).1)⟩
            · have hng : ¬ (i : Int) < (ts.length : Int) := by omega
              have hie : i = C.length := by have := HCl.out; omega
              have hfin : wr.ownsRow wE.heap.size 3 1 (.slice oa C.length oc) C.length (intCells C) := by
                have h := hown
                rw [hie, List.take_length] at h
                exact h
              have Hie := hide hie
              have Hints := hide (intsAt_of_own hfin)
              clear hfin hie hown
              go_wp2_with fail
              go_ret2
              exact ⟨.inr (.inr ⟨Hts.out, Hpb.out, oa, ⟨oc, by rw [← Hie.out]; rfl⟩, Hints.out⟩), hbE.trans (hbr.mono hbE.size)⟩
    · have hpb : Hid (pairsB ts.length ps = false) := by show pairsB ts.length ps = false; simp [pairsB, h60]
      have h61 : (60 : Int) < (ps.length : Int) := by omega
      go_wp2_with fail
      go_ret2
      exact ⟨.inr (.inl ⟨Hts.out, hpb.out, rfl⟩), Below.refl _ _⟩
end Go.Proofs.Ytiobmhfpnhjmcaa
