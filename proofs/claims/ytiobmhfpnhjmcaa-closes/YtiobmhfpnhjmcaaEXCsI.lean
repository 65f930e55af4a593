import Derived.Test.YtiobmhfpnhjmcaaEXCsG
import Derived.Test.YtiobmhfpnhjmcaaEXCsF
import Derived.Test.YtiobmhfpnhjmcaaEXCsA
import Derived.Test.YtiobmhfpnhjmcaaEMSt
import Derived.Test.YtiobmhfpnhjmcaaEXStB
namespace Go.Proofs.Ytiobmhfpnhjmcaa
open Go.RowKit
def closeE (ts : List Tm) (ps : List Pr) : Int := if termsB ts then if pairsB ts.length ps then 0 else 2 else 1
def CloseIs (ts : List Tm) (ps : List Pr) (C : List Int) : Prop := (closeE ts ps = 0 → CloseOf ts ps C) ∧ (closeE ts ps ≠ 0 → C = [])
theorem SameT.closeE {ts ts' : List Tm} (h : SameT ts ts') (ps : List Pr) : closeE ts' ps = closeE ts ps := by
  unfold Go.Proofs.Ytiobmhfpnhjmcaa.closeE
  rw [h.termsB, h.len]
theorem SameT.closeOf {ts ts' : List Tm} (h : SameT ts ts') {ps : List Pr} {C : List Int} (hc : CloseOf ts' ps C) : CloseOf ts ps C := by
  obtain ⟨h1, h2, h3, h4, h5⟩ := hc
  refine ⟨by rw [h1, h.len], h2, by rw [← h.soundB]; exact h3, h4, ?_⟩
  intro d e1 e2 e3
  have := h5 d (by rw [e1, h.len]) (by rw [h.soundB]; exact e2) e3
  rw [h.len] at this
  exact this
theorem SameT.closeIs {ts ts' : List Tm} (h : SameT ts ts') {ps : List Pr} {C : List Int} (hc : CloseIs ts' ps C) : CloseIs ts ps C :=
  ⟨fun e => h.closeOf (hc.1 (by rw [h.closeE]; exact e)), fun e => hc.2 (by rw [h.closeE]; exact e)⟩
def CapIs (ca : Option Addr) (cc : Nat) (C : List Int) : Prop := (ca = none → cc = 0) ∧ (ca ≠ none → cc = C.length)
theorem close_both (ta pa : Option Addr) (tc pc : Nat) (ts : List Tm) (ps : List Pr) (w : World) (ht : TermsAt w ta ts) (hp : PairsAt w pa ps) :
    Calls Try.prog 14 #[.slice ta ts.length tc, .slice pa ps.length pc] w fun e w' => ∃ (ca : Option Addr) (cc : Nat) (C : List Int),
      e = .returned (.tuple #[.slice ca C.length cc, .int .i64 (closeE ts ps)]) ∧ CloseIs ts ps C ∧ ((closeE ts ps ≠ 0 ∧ ca = none) ∨ (closeE ts ps = 0 ∧ ∃ g, ca = some ⟨g, 0, none⟩ ∧ w.heap.size ≤ g ∧ Row w' g C)) ∧ Below w.heap.size w w' ∧ CapIs ca cc C := by
  refine (close_any ta pa tc pc ts ps w ht hp).mono ?_
  rintro e w' ⟨h, hb⟩
  rcases h with ⟨h1, rfl⟩ | ⟨h1, h2, rfl⟩ | ⟨h1, h2, g, c, rfl, hr, hg, hc⟩
  · have he : closeE ts ps = 1 := by simp [closeE, h1]
    exact ⟨none, 0, [], by rw [he]; rfl, ⟨fun h => by rw [he] at h; exact absurd h (by decide), fun _ => rfl⟩, .inl ⟨by rw [he]; decide, rfl⟩, hb, fun _ => rfl, fun h => absurd rfl h⟩
  · have he : closeE ts ps = 2 := by simp [closeE, h1, h2]
    exact ⟨none, 0, [], by rw [he]; rfl, ⟨fun h => by rw [he] at h; exact absurd h (by decide), fun _ => rfl⟩, .inl ⟨by rw [he]; decide, rfl⟩, hb, fun _ => rfl, fun h => absurd rfl h⟩
  · have he : closeE ts ps = 0 := by simp [closeE, h1, h2]
    refine ⟨some ⟨g, 0, none⟩, ts.length, c, by rw [he, hc.1], ⟨fun _ => hc, fun h => absurd he h⟩, .inr ⟨he, g, rfl, hg, hr⟩, hb, ⟨(fun h => by cases h), fun _ => hc.1.symm⟩⟩
theorem rClose_both (ta pa : Option Addr) (tc pc : Nat) (ts : List Tm) (ps : List Pr) (C : List Int) (w : World) (ht : TermsAt w ta ts) (hp : PairsAt w pa ps) (htc : ts.length ≤ tc) (hpl : ps.length ≤ 8796093022208) (hC : CloseIs ts ps C) :
    Calls Try.prog 24 #[.slice ta ts.length tc, .slice pa ps.length pc] w fun e w' => ∃ oa oc, e = .returned (.tuple #[.slice oa C.length oc, .int .i64 (closeE ts ps)]) ∧ IntsAt w' oa C ∧ Below w.heap.size w w' := by
  refine (rClose_any ta pa tc pc ts ps C w ht hp htc hpl (fun h1 h2 => hC.1 (by simp [closeE, h1, h2]))).mono ?_
  rintro e w' ⟨h, hb⟩
  rcases h with ⟨h1, rfl⟩ | ⟨h1, h2, rfl⟩ | ⟨h1, h2, oa, oc, rfl, hi⟩
  · have he : closeE ts ps = 1 := by simp [closeE, h1]
    have hC0 := hC.2 (by rw [he]; decide)
    subst hC0
    exact ⟨none, 0, by rw [he]; rfl, .inl rfl, hb⟩
  · have he : closeE ts ps = 2 := by simp [closeE, h1, h2]
    have hC0 := hC.2 (by rw [he]; decide)
    subst hC0
    exact ⟨none, 0, by rw [he]; rfl, .inl rfl, hb⟩
  · have he : closeE ts ps = 0 := by simp [closeE, h1, h2]
    exact ⟨oa, oc, by rw [he], hi, hb⟩
theorem fd_terms (ta sa : Option Addr) (n tc m sc : Nat) (w : World) : Sem.run Try.prog (Instr.field 33 (.agg #[.slice ta n tc, .slice sa m sc]) 0) w = .ok (.slice ta n tc) w := by
  simp [Instr.field, run_underlying Try.underlying33, asAgg, part, go_sem]
theorem closeIs_len {ts : List Tm} {ps : List Pr} {C : List Int} (h : CloseIs ts ps C) : C.length ≤ 9 := by
  by_cases he : closeE ts ps = 0
  · rw [(h.1 he).1]
    unfold closeE at he
    cases h1 : termsB ts
    · simp [h1] at he
    · exact (len_of h1).2
  · rw [h.2 he]; simp
set_option maxRecDepth 100000 in
set_option maxHeartbeats 4000000 in
theorem closed_own (ta pa : Option Addr) (tc pc : Nat) (ts : List Tm) (ps : List Pr) (w : World) (ht : TermsAt w ta ts) (hp : PairsAt w pa ps) (htn : ta = none → tc = 0) (hto : TmsOk ts) (htl : ts.length ≤ 4398046510976) (htc : ts.length ≤ tc) (hpl : ps.length ≤ 8796093021952) :
    Calls Try.prog 7 #[.slice ta ts.length tc, .slice pa ps.length pc] w fun e w' => ∃ (ca : Option Addr) (cc : Nat) (C : List Int), e = .returned (.tuple #[.slice ca C.length cc, .bool true]) ∧ CloseIs ts ps C ∧ Below w.heap.size w w' ∧ w'.ownsRow w.heap.size 3 1 (.slice ca C.length cc) C.length (intCells C) := by
  obtain ⟨i1, hi1, hy0, hy1, hy2⟩ := info_parts info_pair
  have hsz : (Try.prog.info? 29).map (·.size) = some 2 := by rw [hi1]; simp [hy1]
  have qn := nil_eql 23 29 Try.underlying23
  have qi := nil_eql 24 3 Try.underlying24
  have Hto := hide hto
  have hcs0 : ClausesAt w none [] := .inl rfl
  have hco0 : ClsOk [] := fun i hi => by simp at hi
  have Hco := hide hco0
  clear hto hco0
  go_enter Try.func7, Try.ntmps7
  go_wp2_with fail
  refine (hand_any ta none tc 0 ts [] w ht hcs0 htn (fun _ => rfl) Hto.out Hco.out htl (by simp)).mono ?_
  rintro e w2 ⟨rfl, hh2, hb2⟩
  have hs2 := hb2.size
  have Hh2 := hide hh2
  clear hh2
  have hp2 := hp.below hb2
  go_upto_region 4 with (at_make; refine wpList_make_any _ rfl _ _ 23 rfl 29 i1 (.agg #[.int .i64 0, .int .i64 0]) 2 Try.underlying23 hi1 hy0 hy1 _ _ _ _ (ps.length + 8) rfl rfl (by omega) (by omega) (by rw [hy2]; omega) (by omega) ?_)
  have hb0 : Below w2.heap.size w2 (w2.alloc (.cells (madeCells #[.int .i64 0, .int .i64 0] ((ps.length + 8) * 2)) 29)) := (Below.refl _ _).alloc (Nat.le_refl _) _
  have hg0 : (w2.alloc (.cells (madeCells #[.int .i64 0, .int .i64 0] ((ps.length + 8) * 2)) 29)).heap[w2.heap.size]? = some (.cells (psCells (List.replicate (ps.length + 8) pr0)).toArray 29 (0, 0)) := by
    rw [made_pairs]
    exact heap_at_new _ _ _ rfl
  have hsrc := (hp2.below hb0).src
  go_upto_region 5 with (refine wpList_copy_rows rfl (.tmp 27) (.tmp 28) 23 23 rfl 29 2 Try.underlying23 hsz (by decide) w2.heap.size (ps.length + 8) (ps.length + 8) pa ps.length pc rfl rfl (psCells (List.replicate (ps.length + 8) pr0)) 29 hg0 (psCells ps) (by rw [psCells_length]; simp) hsrc (by rw [psCells_length, psCells_length, List.length_replicate]; omega) (psCells_one _) ?_)
  intro w3 hg1 hgr1
  have hrow1 : PRow w3 w2.heap.size (fullToP ps 0) := by
    unfold PRow
    rw [hg1]
    congr 3
    rw [← List.replicate_append_replicate, psCells_append, show (psCells ps).length = (psCells (List.replicate ps.length pr0)).length by rw [psCells_length, psCells_length, List.length_replicate], List.drop_left]
    simp [fullToP, psCells_append]
  have hb1 : Below w2.heap.size w2 w3 := hb0.grown hgr1 (by simp) (fun k hk => by injection hk with hk; omega)
  clear hg1 hgr1 hg0 hb0 hsrc
  go_wp2_with fail
  go_loopg [9] 8 (fun q s wx => ∃ k : Nat, q = 8 - k ∧ k ≤ 8 ∧ s = .int .i64 ((ps.length + k : Nat) : Int) ∧ PRow wx w2.heap.size (fullToP ps k) ∧ Below w2.heap.size w2 wx)
  case atStart => exact ⟨0, rfl, by omega, rfl, hrow1, hb1⟩
  case round =>
    obtain ⟨k, rfl, hk, rfl, hrow, hbx⟩ := hrel
    clear hrow1 hb1
    by_cases hlt : k < 8
    · obtain ⟨ck0, ck1⟩ := hrow.cell (k := ps.length + k) (by rw [fullToP_length _ _ hk]; omega)
      have fk0 := hrow.frozen ((ps.length + k) * 2)
      have fk1 := hrow.frozen ((ps.length + k) * 2 + 1)
      have Hs : Hid ((fullToP ps k).set (ps.length + k) (prM (-77)) = fullToP ps (k + 1)) := fullToP_set ps k hlt
      have Hl : Hid (ps.length + k < (fullToP ps k).length) := by show _ < _; rw [fullToP_length _ _ hk]; omega
      generalize ((fullToP ps k).getD (ps.length + k) pr0).x = o1 at *
      generalize ((fullToP ps k).getD (ps.length + k) pr0).y = o2 at *
      generalize hi : ps.length + k = i at *
      have hil : i < ps.length + 8 := by omega
      have Hi := hide hi
      clear hi
      go_wp2_with fail
      go_roundg (8 - (k + 1))
      case measure => omega
      case rel => exact ⟨k + 1, rfl, by omega, by have := Hi.out; congr 1; omega, by rw [← Hs.out]; exact hrow.set Hl.out (prM (-77)), (hbx.setCell (Nat.le_refl _) _).setCell (Nat.le_refl _) _⟩
    · have hk8 : k = 8 := by omega
      subst hk8
      rw [fullToP_all] at hrow
      have hbwx : Below w.heap.size w wr := hb2.trans (hbx.mono hs2)
      have Hht := hide ht
      cases pa
      focus
        have hl0 : Hid (ps.length = 0) := by
          show ps.length = 0
          rcases hp with h | ⟨_, _, h, _⟩
          · rw [h]; rfl
          · cases h
        go_upto_region 12 with fail
        go_cut [11, 12] (fun s11 s12 wx => ∃ (ca : Option Addr) (cc : Nat) (C : List Int), s11 = .slice ca C.length cc ∧ s12 = .int .i64 (closeE ts ps) ∧ Hid (CloseIs ts ps C) ∧ Hid ((closeE ts ps ≠ 0 ∧ ca = none) ∨ (closeE ts ps = 0 ∧ ∃ g, ca = some ⟨g, 0, none⟩ ∧ wr.heap.size ≤ g ∧ Row wx g C)) ∧ Below wr.heap.size wr wx ∧ Hid (CapIs ca cc C))
        case first =>
          have hh3 := Hh2.out.up hbx
          have hta := Hht.out.bare
          go_wp2_with fail
          refine (given_any (w.heap.size + 1) ta none tc 0 ts [] wr hh3 hta (fun i hi => by simp at hi) htl (by simp)).mono ?_
          clear hh3 hta
          rintro e w' ⟨ta', sa', tc', sc', ts', cs', rfl, k1, k2, k3, k4, k5⟩
          have qf := fd_terms ta' sa' ts'.length tc' cs'.length sc'
          go_wp2_with fail
          have hcb := close_both ta' none tc' 0 ts' ps w' (k1.below k5) (.inl (List.length_eq_zero_iff.1 hl0.out))
          rw [hl0.out] at hcb
          have Hcb := hide hcb
          clear hcb
          refine Hcb.out.mono ?_
          rintro e w'' ⟨ca, cc, C, rfl, hci, hca, k6, kc⟩
          have Hci := hide hci
          have Hca := hide hca
          clear hci hca
          go_wp2_with fail
          go_meet
          refine ⟨ca, cc, C, rfl, by rw [k3.closeE], k3.closeIs Hci.out, ?_, k5.trans (k6.mono k5.size), kc⟩
          rcases Hca.out with ⟨h1, h2⟩ | ⟨h1, g, h2, h3, h4⟩
          · exact .inl ⟨by rw [← k3.closeE]; exact h1, h2⟩
          · exact .inr ⟨by rw [← k3.closeE]; exact h1, g, h2, Nat.le_trans k5.size h3, h4⟩
      rotate_left
      focus
        rename_i ad
        have hpo := pairs_of_full hrow
        go_upto_region 12 with fail
        go_cut [11, 12] (fun s11 s12 wx => ∃ (ca : Option Addr) (cc : Nat) (C : List Int), s11 = .slice ca C.length cc ∧ s12 = .int .i64 (closeE ts ps) ∧ Hid (CloseIs ts ps C) ∧ Hid ((closeE ts ps ≠ 0 ∧ ca = none) ∨ (closeE ts ps = 0 ∧ ∃ g, ca = some ⟨g, 0, none⟩ ∧ wr.heap.size ≤ g ∧ Row wx g C)) ∧ Below wr.heap.size wr wx ∧ Hid (CapIs ca cc C))
        case first =>
          have hh3 := Hh2.out.up hbx
          have hta := Hht.out.bare
          go_wp2_with fail
          refine (given_any (w.heap.size + 1) ta none tc 0 ts [] wr hh3 hta (fun i hi => by simp at hi) htl (by simp)).mono ?_
          clear hh3 hta
          rintro e w' ⟨ta', sa', tc', sc', ts', cs', rfl, k1, k2, k3, k4, k5⟩
          have qf := fd_terms ta' sa' ts'.length tc' cs'.length sc'
          go_wp2_with fail
          have hcb := close_both ta' (some ⟨w2.heap.size, 0, none⟩) tc' (ps.length + 8) ts' ps w' (k1.below k5) ((hpo.below k5))
          have Hcb := hide hcb
          clear hcb
          refine Hcb.out.mono ?_
          rintro e w'' ⟨ca, cc, C, rfl, hci, hca, k6, kc⟩
          have Hci := hide hci
          have Hca := hide hca
          clear hci hca
          go_wp2_with fail
          go_meet
          refine ⟨ca, cc, C, rfl, by rw [k3.closeE], k3.closeIs Hci.out, ?_, k5.trans (k6.mono k5.size), kc⟩
          rcases Hca.out with ⟨h1, h2⟩ | ⟨h1, g, h2, h3, h4⟩
          · exact .inl ⟨by rw [← k3.closeE]; exact h1, h2⟩
          · exact .inr ⟨by rw [← k3.closeE]; exact h1, g, h2, Nat.le_trans k5.size h3, h4⟩
      all_goals
        obtain ⟨ca, cc, C, rfl, rfl, Hci, Hca, hbz, Hcap⟩ := hcut
        have hs4 := hbz.size
        have hb1c : Below w.heap.size w wc := hbwx.trans (hbz.mono hbwx.size)
        have hN : Below w2.heap.size w2 wc := hbx.trans (hbz.mono hbx.size)
        have hrowc : PRow wc w2.heap.size (fullP ps) := hrow.below hbz hrow.lt
        have hlt2 := hrow.lt
        have hsx := hbx.size
        clear hrow
        go_wp2_with fail
        refine (still_any w w2 wc (w.heap.size + 1) ta none tc 0 ts [] hb1c (by omega) Hh2.out hN Hht.out hcs0 Hht.out.bare (fun i hi => by simp at hi) Hto.out Hco.out htl (by simp)).mono ?_
        rintro e w5 ⟨rfl, htch⟩
        have hb15 : Below w.heap.size w w5 := hb1c.trans (htch.below (by omega) hb1c.size)
        have hrow5 : PRow w5 w2.heap.size (fullP ps) := by
          unfold PRow
          rw [htch.block _ hrowc.lt (.inr (Nat.le_refl _))]
          exact hrowc
        have Hca5 : Hid ((closeE ts ps ≠ 0 ∧ ca = none) ∨ (closeE ts ps = 0 ∧ ∃ g, ca = some ⟨g, 0, none⟩ ∧ wr.heap.size ≤ g ∧ Row w5 g C)) := by
          rcases Hca.out with h | ⟨h1, g, h2, h3, h4⟩
          · exact .inl h
          · refine .inr ⟨h1, g, h2, h3, ?_⟩
            unfold Row
            rw [htch.block _ h4.lt (.inr (by omega))]
            exact h4
        have hs5 := hb15.size
        clear hrowc Hca
        go_wp2_with fail
        go_loopg [14] (ps.length + 8) (fun q s wx => ∃ k : Nat, q = ps.length + 8 - k ∧ k ≤ ps.length + 8 ∧ s = .int .i64 k ∧ PRow wx w2.heap.size (overP (fullP ps) k) ∧ w5.grownBy wx (some w2.heap.size))
        case atStart => exact ⟨0, rfl, by omega, rfl, hrow5, World.grownBy.refl _ _⟩
        case round =>
          obtain ⟨k, rfl, hk, rfl, hr, hgr⟩ := hrel
          have hbx6 : Below w.heap.size w wr := hb15.grown hgr hb15.size (fun q hq => by injection hq with hq; omega)
          by_cases hlt : k < ps.length + 8
          · obtain ⟨c0, c1⟩ := hr.cell (k := k) (by rw [overP_length _ (by rw [fullP_length]; omega), fullP_length]; omega)
            have f0 := hr.frozen (k * 2)
            have f1 := hr.frozen (k * 2 + 1)
            have hgw := hr.lt
            rw [overP_get, fullP_mt _ _ hlt] at c0 c1
            have Hs : Hid ((overP (fullP ps) k).set k (prM (-99)) = overP (fullP ps) (k + 1)) := overP_set (fullP ps) (by rw [fullP_length]; omega)
            have Hl : Hid (k < (overP (fullP ps) k).length) := by show _ < _; rw [overP_length _ (by rw [fullP_length]; omega), fullP_length]; omega
            by_cases hl : k < ps.length
            · rw [if_pos hl] at c0 c1
              obtain ⟨b, o, hpa, xc⟩ := (hp.below hbx6).get hl
              obtain ⟨x0, x1⟩ := xc k hl
              have hbw := block_lt x0
              have hg1 : decide ((ps.length : Int) ≤ (k : Int)) = false := by simp; omega
              have hg2 : decide (ps.length ≤ k) = false := by simp; omega
              generalize (ps.getD k pr0).x = v1 at *
              generalize (ps.getD k pr0).y = v2 at *
              clear xc
              first
                | (cases hpa; done)
                | (injection hpa with hpa
                   subst hpa
                   go_upto_region 18 with fail
                   go_quiet (fail)
                   go_wp2_with fail
                   go_roundg (ps.length + 8 - (k + 1))
                   case measure => omega
                   case rel => exact ⟨k + 1, rfl, by omega, by go_num, by rw [← Hs.out]; exact PRow.set (heap_at_old _ _ hr) Hl.out (prM (-99)), grown_set (grown_set (grown_drewN (grown_alloc hgr _) _))⟩)
            · rw [if_neg hl] at c0 c1
              simp only [prM] at c0 c1
              have hg1 : decide ((k : Int) < (ps.length : Int)) = false := by simp; omega
              have hg2 : decide (ps.length ≤ k) = true := by simp; omega
              have hg3 : decide (k < ps.length) = false := by simp; omega
              go_upto_region 18 with fail
              go_quiet (fail)
              go_wp2_with fail
              go_roundg (ps.length + 8 - (k + 1))
              case measure => omega
              case rel => exact ⟨k + 1, rfl, by omega, by go_num, by rw [← Hs.out]; exact PRow.set (heap_at_old _ _ hr) Hl.out (prM (-99)), grown_set (grown_set (grown_drewN (grown_alloc hgr _) _))⟩
          · have hC9 := closeIs_len Hci.out
            have hrc := rClose_both ta _ tc pc ts ps C wr (Hht.out.below hbx6) (hp.below hbx6) htc (by omega) Hci.out
            have Hrc := hide hrc
            have Hca6 : Hid ((closeE ts ps ≠ 0 ∧ ca = none) ∨ (closeE ts ps = 0 ∧ ∃ g, ca = some ⟨g, 0, none⟩ ∧ Row wr g C ∧ w.heap.size ≤ g)) := by
              rcases Hca5.out with h | ⟨h1, g, h2, h3, h4⟩
              · exact .inl h
              · exact .inr ⟨h1, g, h2, h4.kept hgr (fun e => by injection e with e; omega), Nat.le_trans hbwx.size h3⟩
            clear hrc Hca5 hr hgr
            go_wp2_with fail
            refine Hrc.out.mono ?_
            rintro e w7 ⟨oa, oc, rfl, hoi, hb7⟩
            have hb17 : Below w.heap.size w w7 := hbx6.trans (hb7.mono hbx6.size)
            have hcI : IntsAt w7 ca C := by
              rcases Hca6.out with ⟨h1, h2⟩ | ⟨h1, g, h2, h4, _⟩
              · exact .inl (Hci.out.2 h1)
              · rw [h2]; exact (h4.up hb7).at
            go_wp2_with fail
            refine (sameInts_any ca oa cc oc C w7 hcI hoi (by omega)).mono ?_
            rintro e w8 ⟨rfl, n8, rfl⟩
            have hb18 : Below w.heap.size w (w7.drewN n8) := below_drewN hb17 n8
            have Hown : Hid ((w7.drewN n8).ownsRow w.heap.size 3 1 (.slice ca C.length cc) C.length (intCells C)) := by
              rcases Hca6.out with ⟨h1, h2⟩ | ⟨h1, g, h2, h4, h5⟩
              · have hc0 := Hci.out.2 h1
                have hcc := Hcap.out.1 h2
                rw [h2, hcc, hc0]
                exact World.ownsRow_nil _ _ _ _
              · have hcc := Hcap.out.2 (by rw [h2]; simp)
                rw [h2, hcc]
                have h6 : Row (w7.drewN n8) g C := h4.up (below_drewN hb7 n8)
                exact ⟨by simp [intCells], .inr ⟨g, C.length, _, rfl, h5, h6, Nat.le_refl _, (by unfold maxLen; omega), by simp, List.take_of_length_le (by simp)⟩⟩
            have hend : (closeE ts ps = 0 ∧ True) ∨ (closeE ts ps ≠ 0 ∧ ca = none) := by
              rcases Hca6.out with h | ⟨h1, _⟩
              · exact .inr h
              · exact .inl ⟨h1, trivial⟩
            clear Hca6 Hrc
            generalize closeE ts ps = ce at *
            have hee : (ce == ce) = true := by simp
            rcases hend with ⟨h0, _⟩ | ⟨h0, rfl⟩
            · subst h0
              go_wp2_with fail
              go_ret2
              exact ⟨ca, cc, C, rfl, Hci.out, hb18, Hown.out⟩
            · have hz : (ce == 0) = false := by simpa using h0
              go_wp2_with fail
              go_ret2
              exact ⟨none, cc, C, rfl, Hci.out, hb18, Hown.out⟩
theorem closed_any (ta pa : Option Addr) (tc pc : Nat) (ts : List Tm) (ps : List Pr) (w : World) (ht : TermsAt w ta ts) (hp : PairsAt w pa ps) (htn : ta = none → tc = 0) (hto : TmsOk ts) (htl : ts.length ≤ 4398046510976) (htc : ts.length ≤ tc) (hpl : ps.length ≤ 8796093021952) :
    Calls Try.prog 7 #[.slice ta ts.length tc, .slice pa ps.length pc] w fun e w' => ∃ (ca : Option Addr) (cc : Nat) (C : List Int), e = .returned (.tuple #[.slice ca C.length cc, .bool true]) ∧ CloseIs ts ps C ∧ Below w.heap.size w w' :=
  (closed_own ta pa tc pc ts ps w ht hp htn hto htl htc hpl).mono (fun _ _ ⟨ca, cc, C, h1, h2, h3, _⟩ => ⟨ca, cc, C, h1, h2, h3⟩)
end Go.Proofs.Ytiobmhfpnhjmcaa
