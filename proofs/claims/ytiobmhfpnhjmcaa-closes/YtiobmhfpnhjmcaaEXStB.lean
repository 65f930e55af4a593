import Derived.Test.YtiobmhfpnhjmcaaEMSt
namespace Go.Proofs.Ytiobmhfpnhjmcaa
open Go.RowKit
theorem new0 {w : World} {cs : Array Value} {t : TypeId} {k : Nat} {v : Value} (h : cs[k]? = some v) : (w.alloc (.cells cs t)).cell? ⟨w.heap.size, k, none⟩ = some v := by
  rw [cell_of_row _ _ _ cs t (0, 0) (heap_at_new _ _ _ rfl)]; exact h
theorem cell_grown {w w' : World} {g b o : Nat} {v : Value} (hg : w.grownBy w' (some g)) (hne : b ≠ g) (h : w.cell? ⟨b, o, none⟩ = some v) : w'.cell? ⟨b, o, none⟩ = some v := by
  rw [World.cell?_of_block (w := w) (w' := w') (hg.block b (block_lt h) (fun e => hne (by injection e)))]; exact h
set_option maxRecDepth 100000 in
set_option maxHeartbeats 4000000 in
theorem still_any (W wN w : World) (H : Nat) (ta sa : Option Addr) (tc sc : Nat) (ts : List Tm) (cs : List Cl) (hW : Below W.heap.size W w) (hWH : W.heap.size ≤ H)
    (hh : HandAt H wN ta sa ts cs (.slice ta ts.length tc) (.slice sa cs.length sc)) (hN : Below wN.heap.size wN w) (ht : TermsAt W ta ts) (hcs : ClausesAt W sa cs)
    (hta : ∀ i, i < ts.length → (ts.getD i tm0).a = none → (ts.getD i tm0).args = []) (hca : ∀ i, i < cs.length → (cs.getD i cl0).a = none → (cs.getD i cl0).ls = [])
    (hto : TmsOk ts) (hco : ClsOk cs) (htl : ts.length ≤ 4398046510976) (hcl : cs.length ≤ 5864062014634) :
    Calls Try.prog 23 #[.pointer (some ⟨H, 0, none⟩)] w fun e w' => e = .returned (.bool true) ∧ Touch H wN.heap.size w w' := by
  obtain ⟨T, A, C, L, g, cg, M, bs, cbs, hH, hT, hlow, hM, hC⟩ := hh
  have hHN := (Array.getElem?_eq_some_iff.1 hH).1
  have hHw : w.heap[H]? = some (.cells #[T, A, C, L, .slice ta ts.length tc, .slice sa cs.length sc] 72 (0, 0)) := (hN.block H hHN).trans hH
  have hNw := hN.size
  obtain ⟨tA, tl, hTe, htl8, hTT⟩ : ∃ (tA : Option Addr) (tl : Nat), T = .slice tA tl tl ∧ tl ≤ ts.length + 8 ∧ (0 < tl → tl = ts.length + 8 ∧ tA = some ⟨g, 0, none⟩ ∧ HT (H + 1) g wN ts bs A (ts.length + 8) ∧ ta ≠ none) := by
    rcases hT with ⟨h1, h2, h3, h4⟩ | ⟨h1, h2, h3⟩
    · exact ⟨none, 0, h3, by omega, fun h => by omega⟩
    · exact ⟨_, _, h2, Nat.le_refl _, fun _ => ⟨rfl, rfl, h3, h1⟩⟩
  obtain ⟨cA, cl, hCe, hcl8, hCC⟩ : ∃ (cA : Option Addr) (cl : Nat), C = .slice cA cl cl ∧ cl ≤ cs.length + 8 ∧ (0 < cl → cl = cs.length + 8 ∧ cA = some ⟨cg, 0, none⟩ ∧ HC M cg wN cs cbs L (cs.length + 8) ∧ sa ≠ none) := by
    rcases hC with ⟨h1, h2, h3, h4⟩ | ⟨h1, h2, h3⟩
    · exact ⟨none, 0, h3, by omega, fun h => by omega⟩
    · exact ⟨_, _, h2, Nat.le_refl _, fun _ => ⟨rfl, rfl, h3, h1⟩⟩
  subst hTe
  subst hCe
  have HT0 : Hid (0 < tl → tl = ts.length + 8 ∧ tA = some ⟨g, 0, none⟩ ∧ Apart g wN.heap.size ts bs ∧ H < g ∧ g < M ∧ ∀ j, j < ts.length → (ts.getD j tm0).a ≠ none → bs.getD j 0 < M) := fun h => by
    obtain ⟨h1, h2, h3, h4⟩ := hTT h
    exact ⟨h1, h2, h3.apart, h3.1, (hlow h4).1, (hlow h4).2⟩
  have HTs : Hid (0 < tl → TLeft (H + 1) g w ts bs A 0) := fun h => TLeft.start ((hTT h).2.2.1.up hN)
  have HC0 : Hid (0 < cl → cl = cs.length + 8 ∧ cA = some ⟨cg, 0, none⟩ ∧ ApartC cg wN.heap.size cs cbs ∧ M ≤ cg) := fun h => by
    obtain ⟨h1, h2, h3, h4⟩ := hCC h
    exact ⟨h1, h2, h3.apart, h3.1⟩
  have HCs : Hid (0 < cl → HC M cg w cs cbs L (cs.length + 8)) := fun h => (hCC h).2.2.1.up hN
  have Hta := hide hta
  have Hca := hide hca
  have Hto := hide hto
  have Hco := hide hco
  clear hTT hCC hT hC hlow hH hta hca hto hco hN
  generalize hNd : wN.heap.size = N at *
  clear hNd
  go_enter Try.func23, Try.ntmps23
  go_wp2_with fail
  go_loopg [3] tl (fun q v wr => ∃ i : Nat, q = tl - i ∧ i ≤ tl ∧ v = .int .i64 i ∧ Hid (0 < tl → TLeft (H + 1) g wr ts bs A i) ∧ Hid (0 < cl → HC M cg wr cs cbs L (cs.length + 8)) ∧ Touch H N w wr)
  case atStart => exact ⟨0, by omega, Nat.zero_le _, rfl, HTs, HCs, Touch.refl _ _ _⟩
  case round =>
    obtain ⟨i, rfl, hi, rfl, HL, HCr, htch⟩ := hrel
    have hHr : wr.heap[H]? = some (.cells #[.slice tA tl tl, A, .slice cA cl cl, L, .slice ta ts.length tc, .slice sa cs.length sc] 72 (0, 0)) := (htch.block H (by omega) (.inl (Nat.le_refl _))).trans hHw
    have hWr : Below W.heap.size W wr := hW.trans (htch.below (by omega) hW.size)
    have hHlt : H < wr.heap.size := (Array.getElem?_eq_some_iff.1 hHr).1
    by_cases hlt : i < tl
    · obtain ⟨htl', htA, hap, hHg, hgM, hbM⟩ := HT0.out (by omega)
      have hl1 := HL.out (by omega)
      subst htl'
      subst htA
      obtain ⟨t0, t1⟩ := hl1.1.cell (k := i) (by rw [tOver_length]; exact hlt)
      rw [tOver_get ts bs hlt] at t0 t1
      have hglt := hl1.1.lt
      clear HTs HCs HT0 HL
      by_cases hin : i < ts.length
      · rw [if_pos hin] at t0 t1
        obtain ⟨tb, tf, rfl, tcell⟩ := ht.get hin
        obtain ⟨c1, c2, c3⟩ := tcell i hin
        have htb : tb < W.heap.size := block_lt c1
        obtain ⟨ag, acap, rfl, haglt, hacap, hacap2, acell⟩ := own_cell hl1.2.1 (by omega)
        have a1 := acell i _ (aDone_get ts bs hin)
        have hnone := Hta.out i hin
        have hok := Hto.out i hin
        have hrow0 := hl1.2.2 i (Nat.le_refl _) hin
        have hbM1 := hbM i hin
        have hapi := hap.2.1 i hin
        obtain ⟨b, hbd⟩ : ∃ b, b = bs.getD i 0 := ⟨_, rfl⟩
        rw [← hbd] at t0 t1 a1 hrow0 hbM1 hapi
        generalize hq : ts.getD i tm0 = q at *
        obtain ⟨sym, ad0, cap, args⟩ := q
        have Hq := hide hq
        have Hbd := hide hbd
        simp only at c1 c2 c3 hnone hok hrow0 hbM1 hapi
        clear tcell hq hbd acell
        obtain ⟨h0, h1, h2, h3, h4, h5, hf⟩ := heap6 hHr
        have Hl1 := hide hl1
        have Hap := hide hap
        have HbM := hide hbM
        replace c1 := cell_below hWr c1
        replace c2 := cell_below hWr c2
        clear hl1 hap hbM hf h2 h3 h5
        cases ad0 with
        | none =>
          have hargs : args = [] := hnone rfl
          have hcap0 : cap = 0 := hok.1 rfl
          subst hargs
          subst hcap0
          simp only [hTm, hArg, List.length_nil] at t0 t1 a1 c2
          clear hnone hok hrow0 hbM1 c3
          go_upto_region 5 with fail
          obtain ⟨w1, hw1⟩ : ∃ w1, w1 = wr.alloc (.cells #[.int .i64 sym, .slice none 0 0] 61) := ⟨_, rfl⟩
          rw [← hw1]
          have hb1 : Below wr.heap.size wr w1 := by rw [hw1]; exact (Below.refl _ _).alloc (Nat.le_refl _) _
          have e0 : w1.cell? ⟨wr.heap.size, 0, none⟩ = some (.int .i64 sym) := by rw [hw1]; exact new0 rfl
          have e1 : w1.cell? ⟨wr.heap.size, 1, none⟩ = some (.slice none 0 0) := by rw [hw1]; exact new0 rfl
          replace h0 := cell_below hb1 h0
          replace h1 := cell_below hb1 h1
          replace h4 := cell_below hb1 h4
          replace c1 := cell_below hb1 c1
          replace c2 := cell_below hb1 c2
          replace a1 := cell_below hb1 a1
          replace t0 := cell_below hb1 t0
          replace t1 := cell_below hb1 t1
          clear hw1
          go_upto_region 10 with fail
          obtain ⟨w2, hw2⟩ : ∃ w2, w2 = w1.alloc (.cells #[.int .i64 sym, .slice none 0 0] 61) := ⟨_, rfl⟩
          rw [← hw2]
          have hb2 : Below w1.heap.size w1 w2 := by rw [hw2]; exact (Below.refl _ _).alloc (Nat.le_refl _) _
          have x0 : w2.cell? ⟨w1.heap.size, 0, none⟩ = some (.int .i64 sym) := by rw [hw2]; exact new0 rfl
          have x1 : w2.cell? ⟨w1.heap.size, 1, none⟩ = some (.slice none 0 0) := by rw [hw2]; exact new0 rfl
          replace h0 := cell_below hb2 h0
          replace h1 := cell_below hb2 h1
          replace a1 := cell_below hb2 a1
          replace e0 := cell_below hb2 e0
          replace e1 := cell_below hb2 e1
          replace t0 := cell_below hb2 t0
          replace t1 := cell_below hb2 t1
          have hb12 : Below wr.heap.size wr w2 := hb1.trans (hb2.mono hb1.size)
          have f0 : w2.frozen? ⟨g, i * 2, none⟩ = false := (Hl1.out.1.below hb12).frozen _
          have f1 : w2.frozen? ⟨g, i * 2 + 1, none⟩ = false := (Hl1.out.1.below hb12).frozen _
          clear hw2 h4 c1 c2
          go_wp2_with (go_at_call 31; refine (stillInts_nil _ _ _ _).mono ?_; rintro e w' ⟨rfl, hw'⟩; rw [hw']; clear hw' w')
          go_loopg [8] 0 (fun q v wx => q = 0 ∧ v = .int .i64 0 ∧ wx = w2)
          case atStart => exact ⟨rfl, rfl, rfl⟩
          case round =>
            obtain ⟨rfl, rfl, hwr⟩ := hrel
            rw [hwr]
            clear hwr
            go_upto_region 17 with fail
            go_quiet ((go_at_call 31; refine (stillInts_nil _ _ _ _).mono ?_; rintro e w' ⟨rfl, rfl⟩; refine ⟨rfl, _, rfl⟩))
            go_wp2_with fail
            go_roundg (ts.length + 8 - (i + 1))
            case measure => omega
            case rel =>
              refine ⟨i + 1, rfl, by omega, by go_num, fun _ => TLeft.mark (Hl1.out.up (below_drewN hb12 nq)) Hap.out (grown_set grown_one) ?_, fun h => ((HCr.out h).up (below_drewN hb12 nq)).low (grown_set grown_one) hgM, (htch.up (below_drewN hb12 nq)).one (grown_set grown_one) hHg Hap.out.1⟩
              rw [← tOver_set]
              exact (Hl1.out.1.below (below_drewN hb12 nq)).set (by rw [tOver_length]; exact hlt) (tmM (-99))
        | some y =>
          have hrow := hrow0 y rfl
          have hblt := hrow.lt
          have hbM2 : b < M := hbM1 (by simp)
          have hbN : b < N := hapi.2 (by simp)
          have hgb : g < b := hapi.1
          have hal : args.length ≤ 17592186043904 := hok.2
          simp only [hTm, hArg] at t0 t1 a1
          have Hc3 := hide c3
          clear hnone hok hrow0 hbM1 hapi c3
          go_upto_region 5 with fail
          obtain ⟨w1, hw1⟩ : ∃ w1, w1 = wr.alloc (.cells #[.int .i64 sym, .slice (some ⟨b, 0, none⟩) args.length (args.length + 8)] 61) := ⟨_, rfl⟩
          rw [← hw1]
          have hb1 : Below wr.heap.size wr w1 := by rw [hw1]; exact (Below.refl _ _).alloc (Nat.le_refl _) _
          have e0 : w1.cell? ⟨wr.heap.size, 0, none⟩ = some (.int .i64 sym) := by rw [hw1]; exact new0 rfl
          have e1 : w1.cell? ⟨wr.heap.size, 1, none⟩ = some (.slice (some ⟨b, 0, none⟩) args.length (args.length + 8)) := by rw [hw1]; exact new0 rfl
          replace h0 := cell_below hb1 h0
          replace h1 := cell_below hb1 h1
          replace h4 := cell_below hb1 h4
          replace c1 := cell_below hb1 c1
          replace c2 := cell_below hb1 c2
          replace a1 := cell_below hb1 a1
          replace t0 := cell_below hb1 t0
          replace t1 := cell_below hb1 t1
          clear hw1
          go_upto_region 10 with fail
          obtain ⟨w2, hw2⟩ : ∃ w2, w2 = w1.alloc (.cells #[.int .i64 sym, .slice (some y) args.length cap] 61) := ⟨_, rfl⟩
          rw [← hw2]
          have hb2 : Below w1.heap.size w1 w2 := by rw [hw2]; exact (Below.refl _ _).alloc (Nat.le_refl _) _
          have x0 : w2.cell? ⟨w1.heap.size, 0, none⟩ = some (.int .i64 sym) := by rw [hw2]; exact new0 rfl
          have x1 : w2.cell? ⟨w1.heap.size, 1, none⟩ = some (.slice (some y) args.length cap) := by rw [hw2]; exact new0 rfl
          replace h0 := cell_below hb2 h0
          replace h1 := cell_below hb2 h1
          replace a1 := cell_below hb2 a1
          replace e0 := cell_below hb2 e0
          replace e1 := cell_below hb2 e1
          replace t0 := cell_below hb2 t0
          replace t1 := cell_below hb2 t1
          have hb12 : Below wr.heap.size wr w2 := hb1.trans (hb2.mono hb1.size)
          have hs1 := hb1.size
          have hl2 := Hl1.out.up hb12
          have hrow2 := hrow.up hb12
          have hW2 : Below W.heap.size W w2 := hWr.trans (hb12.mono hWr.size)
          have hagb : ag ≠ b := fun e => by
            have := own_type Hl1.out.2.1 (e0 := 3) (by decide) ag rfl
            obtain ⟨cur, e', q1, q2⟩ := this
            rw [e] at q1
            unfold Row at hrow
            rw [hrow] at q1
            injection q1 with q1
            injection q1 with _ q1
            exact q2 q1.symm
          have Hl2 := hide hl2
          clear hw2 h4 c1 c2 hl2
          generalize hw0 : wr = w0 at *
          clear hw0
          go_wp2_with fail
          refine (stillInts_any W b args.length (args.length + 8) (full args) (some y) cap args w2 hW2 (by omega) Hc3.out hrow2 (by rw [full_length]; omega) (by rw [full_length]; omega) (fun i hi => full_mt args i (by omega))).mono ?_
          rintro e w3 ⟨rfl, hrow3, hg3⟩
          rw [← back_zero] at hrow3
          have e0' := cell_grown hg3 (show w0.heap.size ≠ b by omega) e0
          have x0' := cell_grown hg3 (show w1.heap.size ≠ b by omega) x0
          have x1' := cell_grown hg3 (show w1.heap.size ≠ b by omega) x1
          have Hg3 := hide hg3
          clear hg3
          go_wp2_with fail
          clear e0' x0' x1'
          go_loopg [8] args.length (fun q v wx => ∃ k : Nat, q = args.length - k ∧ k ≤ args.length ∧ v = .int .i64 k ∧ Row wx b (back args k) ∧ w2.grownBy wx (some b))
          case atStart => exact ⟨0, by omega, Nat.zero_le _, rfl, hrow3, Hg3.out⟩
          case round =>
            clear hrow3 Hg3
            obtain ⟨k, rfl, hk, rfl, hrowk, hgk⟩ := hrel
            have e1' := cell_grown hgk (show w0.heap.size ≠ b by omega) e1
            have x1' := cell_grown hgk (show w1.heap.size ≠ b by omega) x1
            have hWk : Below W.heap.size W wr := hW2.grown hgk hW2.size (fun q hq => by injection hq with hq; omega)
            by_cases hkl : k < args.length
            · obtain ⟨xb, xo, hyy, xcell⟩ := (Hc3.out.below hWk).get hkl
              injection hyy with hyy
              subst hyy
              have xk := xcell k hkl
              have ck := hrowk.cell (k := k) (by rw [back_length _ (by omega)]; omega)
              have fk := hrowk.frozen k
              have Hs : Hid ((back args k).set k (args.getD k 0) = back args (k + 1)) := back_set args hkl
              generalize args.getD k 0 = v at *
              generalize (back args k).getD k 0 = v0 at *
              have Hrk := hide hrowk
              have Hgk := hide hgk
              clear xcell hrowk hgk h0 h1 a1 e0 e1 x0 x1 t0 t1
              go_upto_region 16 with fail
              go_region
              go_wp2_with fail
              go_roundg (args.length - (k + 1))
              case measure => omega
              case rel => exact ⟨k + 1, rfl, by omega, by go_num, by rw [← Hs.out]; exact Hrk.out.set k v, grown_drewN (grown_set Hgk.out) 1⟩
            · obtain rfl : k = args.length := by omega
              rw [back_all] at hrowk
              have h0' := cell_grown hgk (show H ≠ b by omega) h0
              have h1' := cell_grown hgk (show H ≠ b by omega) h1
              have a1' := cell_grown hgk hagb a1
              have t0' := cell_grown hgk (show g ≠ b by omega) t0
              have t1' := cell_grown hgk (show g ≠ b by omega) t1
              clear h0 h1 a1 e0 e1 x0 x1 t0 t1
              have Hrk := hide hrowk
              have Hgk := hide hgk
              clear hrowk hgk
              go_upto_region 17 with fail
              go_cut [9] (fun s wz => s = .bool true ∧ wr.grownBy wz (some b))
              case first =>
                go_region_with (go_at_call 31; refine (stillInts_any W b (args.length + 8) (args.length + 8) (full args) (some y) cap args _ hWk.drew (by omega) Hc3.out Hrk.out (by rw [full_length]; omega) (by rw [full_length]; omega) (fun i hi => full_mt args i (by omega))).mono ?_; rintro e w' ⟨rfl, hrow4, hg4⟩)
                all_goals (go_wp2_with fail; go_meet; exact ⟨rfl, ⟨hg4.os, hg4.tape, hg4.output, hg4.size, hg4.block⟩⟩)
              case rest =>
                obtain ⟨rfl, hg4⟩ := hcut
                have hgt : w2.grownBy wc (some b) := grown_trans Hgk.out hg4
                have hmid := TLeft.mid Hl2.out Hap.out hin (by rw [Hq.out]) (by rw [← Hbd.out]; exact hgt)
                have h0 := cell_grown hg4 (show H ≠ b by omega) h0'
                have t0 := cell_grown hg4 (show g ≠ b by omega) t0'
                have t1 := cell_grown hg4 (show g ≠ b by omega) t1'
                have f0 := hmid.1.frozen (i * 2)
                have f1 := hmid.1.frozen (i * 2 + 1)
                have Hmid := hide hmid
                have Hgt := hide hgt
                clear hmid hgt hg4 h0' h1' a1' t0' t1' e1' x1'
                go_wp2_with fail
                go_roundg (ts.length + 8 - (i + 1))
                case measure => omega
                case rel =>
                  refine ⟨i + 1, rfl, by omega, by go_num, fun _ => TLeft.mark' Hmid.out Hap.out (grown_set grown_one) ?_, fun h => (((HCr.out h).up hb12).low Hgt.out hbM2).low (grown_set grown_one) hgM, ((htch.up hb12).one Hgt.out (by omega) hbN).one (grown_set grown_one) hHg Hap.out.1⟩
                  rw [← tOver_set]
                  exact Hmid.out.1.set (by rw [tOver_length]; exact hlt) (tmM (-99))
      · rw [if_neg hin] at t0 t1
        simp only [tmM, List.length_nil] at t0 t1
        obtain ⟨h0, h1, h2, h3, h4, h5, hf⟩ := heap6 hHr
        have Hl1 := hide hl1
        have Hap := hide hap
        have HbM := hide hbM
        clear hl1 hap hbM hf h1 h2 h3 h5
        go_upto_region 5 with fail
        obtain ⟨w1, hw1⟩ : ∃ w1, w1 = wr.alloc (.cells #[.int .i64 (-77), .slice none 0 0] 61) := ⟨_, rfl⟩
        rw [← hw1]
        have hb1 : Below wr.heap.size wr w1 := by rw [hw1]; exact (Below.refl _ _).alloc (Nat.le_refl _) _
        have e0 : w1.cell? ⟨wr.heap.size, 0, none⟩ = some (.int .i64 (-77)) := by rw [hw1]; exact new0 rfl
        have e1 : w1.cell? ⟨wr.heap.size, 1, none⟩ = some (.slice none 0 0) := by rw [hw1]; exact new0 rfl
        replace h0 := cell_below hb1 h0
        replace h4 := cell_below hb1 h4
        replace t0 := cell_below hb1 t0
        replace t1 := cell_below hb1 t1
        have f0 : w1.frozen? ⟨g, i * 2, none⟩ = false := (Hl1.out.1.below hb1).frozen _
        have f1 : w1.frozen? ⟨g, i * 2 + 1, none⟩ = false := (Hl1.out.1.below hb1).frozen _
        clear hw1
        go_wp2_with fail
        go_roundg (ts.length + 8 - (i + 1))
        case measure => omega
        case rel =>
          refine ⟨i + 1, rfl, by omega, by go_num, fun _ => TLeft.mark (Hl1.out.up hb1) Hap.out (grown_set grown_one) ?_, fun h => ((HCr.out h).up hb1).low (grown_set grown_one) hgM, (htch.up hb1).one (grown_set grown_one) hHg Hap.out.1⟩
          rw [← tOver_set]
          exact (Hl1.out.1.below hb1).set (by rw [tOver_length]; exact hlt) (tmM (-99))
    · clear HTs HCs HT0 HL
      obtain ⟨i1, hi1, hy0, hy1, hy2⟩ := info_parts info_lit
      have hsz : (Try.prog.info? 44).map (·.size) = some 3 := by rw [hi1]; simp [hy1]
      obtain ⟨h0, h1, h2, h3, h4, h5, hf⟩ := heap6 hHr
      have HC1 : Hid (0 < cl → CLeft cg wr cs cbs L 0) := fun h => CLeft.start (HCr.out h)
      clear h1 h2 h3 h4 h5 hf HCr
      go_wp2_with fail
      clear h0 hHr hHlt hWr
      go_loopg [10] cl (fun q v wx => ∃ i : Nat, q = cl - i ∧ i ≤ cl ∧ v = .int .i64 i ∧ Hid (0 < cl → CLeft cg wx cs cbs L i) ∧ Touch H N w wx)
      case atStart => exact ⟨0, by omega, Nat.zero_le _, rfl, HC1, htch⟩
      case round =>
        clear HC1 htch hlt hi
        obtain ⟨i, rfl, hi, rfl, HL, htch⟩ := hrel
        have hHr : wr.heap[H]? = some (.cells #[.slice tA tl tl, A, .slice cA cl cl, L, .slice ta ts.length tc, .slice sa cs.length sc] 72 (0, 0)) := (htch.block H (by omega) (.inl (Nat.le_refl _))).trans hHw
        have hWr : Below W.heap.size W wr := hW.trans (htch.below (by omega) hW.size)
        have hHlt : H < wr.heap.size := (Array.getElem?_eq_some_iff.1 hHr).1
        obtain ⟨h0, h1, h2, h3, h4, h5, hf⟩ := heap6 hHr
        clear h0 h1 h4 hf
        by_cases hlt : i < cl
        · obtain ⟨hcl', hcA, hap, hMg⟩ := HC0.out (by omega)
          have hl1 := HL.out (by omega)
          subst hcl'
          subst hcA
          have c0 := hl1.1.cell (k := i) (by rw [cOver_length]; exact hlt)
          have f0 := hl1.1.frozen i
          rw [cOver_get cs cbs hlt] at c0
          have hcglt := hl1.1.lt
          clear HL
          by_cases hin : i < cs.length
          · obtain ⟨sb, so, rfl, scell⟩ := hcs.get hin
            obtain ⟨s1, s2⟩ := scell i hin
            obtain ⟨lg, lcap, rfl, hlglt, hlcap, hlcap2, lcell⟩ := own_cell hl1.2.1 (by omega)
            have l1 := lcell i _ (lDone_get cs cbs hin)
            have hnone := Hca.out i hin
            have hok := Hco.out i hin
            have hrow0 : (cs.getD i cl0).a ≠ none → LRow wr (cbs.getD i 0) (fullL (cs.getD i cl0).ls) := fun q => by
              have := hl1.2.2 i (Nat.le_refl _) (by omega) (.inr q)
              unfold cRowLits at this
              rw [if_pos hin] at this
              exact this
            have hapi : cbs.getD i 0 > cg ∧ ((cs.getD i cl0).a ≠ none → cbs.getD i 0 < N) := ⟨(hap.2.1 i (by omega)).1, fun q => (hap.2.1 i (by omega)).2 (.inr q)⟩
            unfold cVal at c0
            rw [if_pos hin] at c0
            obtain ⟨b, hbd⟩ : ∃ b, b = cbs.getD i 0 := ⟨_, rfl⟩
            rw [← hbd] at c0 l1 hrow0 hapi
            generalize hq : cs.getD i cl0 = q at *
            obtain ⟨ad0, cap, ls⟩ := q
            have Hq := hide hq
            have Hbd := hide hbd
            simp only at s1 s2 hnone hok hrow0 hapi
            clear scell hq hbd lcell
            have Hl1 := hide hl1
            have Hap := hide hap
            replace s1 := cell_below hWr s1
            clear hl1 hap
            cases ad0 with
            | none =>
              have hargs : ls = [] := hnone rfl
              have hcap0 : cap = 0 := hok.1 rfl
              subst hargs
              subst hcap0
              simp only [hCl, hLit, List.length_nil] at c0 l1 s1
              clear hnone hok hrow0 s2 hapi
              go_upto_region 29 with fail
              go_wp2_with fail
              refine (stillLits_nil _ _ _ _).mono ?_
              rintro e w' ⟨rfl, hw'⟩
              rw [hw']
              clear hw' w'
              go_wp2_with (refine wpList_copy_zero rfl (.tmp 165) (.tmp 166) 45 45 rfl 44 3 Try.underlying45 hsz 0 none 0 rfl rfl ?_)
              refine (stillLits_nil _ _ _ _).mono ?_
              rintro e w' ⟨rfl, hw'⟩
              rw [hw']
              clear hw' w'
              go_wp2_with fail
              go_roundg (cs.length + 8 - (i + 1))
              case measure => omega
              case rel =>
                exact ⟨i + 1, rfl, by omega, by go_num, fun _ => CLeft.mark Hl1.out Hap.out grown_one (by rw [← cOver_set]; exact Hl1.out.1.set i _), htch.one grown_one (by omega) Hap.out.1⟩
            | some y =>
              have hrow := hrow0 (by simp)
              have hblt := hrow.lt
              have hbN : b < N := hapi.2 (by simp)
              have hgb : cg < b := hapi.1
              have hal : ls.length ≤ 5864062014634 := hok.2
              simp only [hCl, hLit] at c0 l1
              have Hs2 := hide s2
              have hlgb : lg ≠ b := fun e => by
                have := own_type Hl1.out.2.1 (e0 := 44) (by decide) lg rfl
                obtain ⟨cur, e', q1, q2⟩ := this
                rw [e] at q1
                unfold LRow at hrow
                rw [hrow] at q1
                injection q1 with q1
                injection q1 with _ q1
                exact q2 q1.symm
              clear hnone hok hrow0 hapi s2
              go_upto_region 29 with fail
              go_wp2_with fail
              refine (stillLits_any W b ls.length (ls.length + 8) (fullL ls) (some y) cap ls wr hWr (by omega) Hs2.out hrow (by rw [fullL_length]; omega) (by rw [fullL_length]; omega) (fun i hi => fullL_mt ls i (by omega))).mono ?_
              rintro e w1 ⟨rfl, hrow1, hg1⟩
              have hW1 : Below W.heap.size W w1 := hWr.grown hg1 hWr.size (fun q hq => by injection hq with hq; omega)
              have hsrc := (Hs2.out.below hW1).src
              have Hg1 := hide hg1
              clear hg1
              go_wp2_with (refine wpList_copy_rows rfl (.tmp 165) (.tmp 166) 45 45 rfl 44 3 Try.underlying45 hsz (by decide) b ls.length (ls.length + 8) (some y) ls.length cap rfl rfl (lsCells (overL (fullL ls) ls.length)) 44 hrow1 (lsCells ls) (by rw [lsCells_length]; simp) hsrc (by rw [lsCells_length, lsCells_length, overL_length _ (by rw [fullL_length]; omega), fullL_length]; omega) (lsCells_one _) ?_)
              intro w2 hr2 hg2
              rw [back_lits] at hr2
              have hg12 : wr.grownBy w2 (some b) := grown_trans Hg1.out hg2
              have hW2 : Below W.heap.size W w2 := hWr.grown hg12 hWr.size (fun q hq => by injection hq with hq; omega)
              have h2' := cell_grown hg12 (show H ≠ b by omega) h2
              have h3' := cell_grown hg12 (show H ≠ b by omega) h3
              have l1' := cell_grown hg12 hlgb l1
              have Hg12 := hide hg12
              have Hr2 : Hid (LRow w2 b (fullL ls)) := hr2
              clear hg2 hsrc hrow1 hW1 Hg1 hg12 hr2
              go_wp2_with fail
              refine (stillLits_any W b (ls.length + 8) (ls.length + 8) (fullL ls) (some y) cap ls w2 hW2 (by omega) Hs2.out Hr2.out (by rw [fullL_length]; omega) (by rw [fullL_length]; omega) (fun i hi => fullL_mt ls i (by omega))).mono ?_
              rintro e w3 ⟨rfl, hrow3, hg3⟩
              have hgt : wr.grownBy w3 (some b) := grown_trans Hg12.out hg3
              have hmid := CLeft.mid Hl1.out Hap.out hin (by rw [Hq.out]; simp) (by rw [← Hbd.out]; exact hgt)
              have h2'' := cell_grown hgt (show H ≠ b by omega) h2
              have c0'' := cell_grown hgt (show cg ≠ b by omega) c0
              have f0'' := hmid.1.frozen i
              have Hmid := hide hmid
              have Hgt := hide hgt
              clear hmid hgt hg3 hrow3
              go_wp2_with fail
              go_roundg (cs.length + 8 - (i + 1))
              case measure => omega
              case rel =>
                exact ⟨i + 1, rfl, by omega, by go_num, fun _ => CLeft.mark' Hmid.out Hap.out grown_one (by rw [← cOver_set]; exact Hmid.out.1.set i _), (htch.one Hgt.out (by omega) hbN).one grown_one (by omega) Hap.out.1⟩
          · unfold cVal at c0
            rw [if_neg hin] at c0
            have hrow := hl1.2.2 i (Nat.le_refl _) hlt (.inl (by omega))
            unfold cRowLits at hrow
            rw [if_neg hin] at hrow
            obtain ⟨d0, d1, d2⟩ := hrow.cell (k := 0) (by simp)
            simp only [List.getD_cons_zero, ltM, Nat.zero_mul, Nat.zero_add] at d0 d1 d2
            generalize cbs.getD i 0 = b at *
            have Hl1 := hide hl1
            have Hap := hide hap
            clear hl1 hap hrow
            go_wp2_with fail
            go_roundg (cs.length + 8 - (i + 1))
            case measure => omega
            case rel =>
              exact ⟨i + 1, rfl, by omega, by go_num, fun _ => CLeft.mark Hl1.out Hap.out grown_one (by rw [← cOver_set]; exact Hl1.out.1.set i _), htch.one grown_one (by omega) Hap.out.1⟩
        · go_wp2_with fail
          go_ret
          exact ⟨rfl, htch⟩
end Go.Proofs.Ytiobmhfpnhjmcaa
