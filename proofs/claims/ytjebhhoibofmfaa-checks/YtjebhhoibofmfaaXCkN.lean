import Derived.Test.YtjebhhoibofmfaaXCkL
import Derived.Test.YtjebhhoibofmfaaXCkM
import Derived.Test.YtjebhhoibofmfaaXRfC
namespace Go.Proofs.Ytjebhhoibofmfaa
open Go.RowKit

theorem CsOwn.last {B : Nat} {w : World} {v : Value} {qs : List Cl} {F : List (Nat × Nat)} (h : CsOwn B w v qs) (hT : Tied qs F) (hn : F.length ≠ 0) :
    ∃ (b o : Nat) (oa : Option Addr × Nat) (oc : Nat), v = .slice (some ⟨b, o, none⟩) F.length oc ∧ w.cell? ⟨b, o + (F.length - 1), none⟩ = some (.slice oa.1 (inOrd (lastS F).1 (lastS F).2).length oa.2) ∧ LitsAt w oa.1 (inOrd (lastS F).1 (lastS F).2) := by
  obtain ⟨a, cap, rfl, hat⟩ := h.at
  have hl := hT.1
  have hlt : F.length - 1 < qs.length := by omega
  obtain ⟨b, o, rfl, hc⟩ := hat.get hlt
  obtain ⟨h1, h2⟩ := hc _ hlt
  have e := hT.2 (F.length - 1) (by omega)
  rw [← lastS_get hn] at e
  generalize qs.getD (F.length - 1) cl0 = q at *
  rw [e] at h1 h2
  exact ⟨b, o, (q.a, q.cap), cap, by rw [hl], h1, h2⟩

set_option maxRecDepth 100000 in
set_option maxHeartbeats 2000000 in
theorem rCheck_any (ta sa la : Option Addr) (tc sc lc : Nat) (ts : List Tm) (cs : List Cl) (sts : List St) (w : World) (ht : TermsAt w ta ts) (hcs : ClausesAt w sa cs) (hst : StepsAt w la sts) (hlen : sts.length ≤ 3518437208883) :
    Calls Try.prog 48 #[.agg #[.slice ta ts.length tc, .slice sa cs.length sc], .slice la sts.length lc] w fun e w' =>
      e = .returned (.tuple #[.int .i64 (folN ts cs sts), .int .i64 (chkE ts cs sts)]) ∧ Below w.heap.size w w' := by
  obtain ⟨W, hW⟩ : ∃ W, W = w.alloc (.cells #[.slice ta ts.length tc, .slice sa cs.length sc] 33) := ⟨_, rfl⟩
  have hb0 : Below w.heap.size w W := by rw [hW]; exact (Below.refl _ _).alloc (Nat.le_refl _) _
  have p0 : W.cell? ⟨w.heap.size, 0, none⟩ = some (.slice ta ts.length tc) := by rw [hW]; simp
  have p1 : W.cell? ⟨w.heap.size, 1, none⟩ = some (.slice sa cs.length sc) := by rw [hW]; simp
  have hT := ht.below hb0
  have hC := hcs.below hb0
  have hS := hst.below hb0
  have hlk := look_any ta sa tc sc ts cs W hT hC
  have Hlk := hide hlk
  clear hlk
  go_enter Try.func48, Try.ntmps48
  go_upto_region 1 with fail
  rw [← hW]
  clear hW
  go_wp2_with fail
  refine Hlk.out.mono ?_
  rintro e w1 ⟨rfl, hb1⟩
  have hbw : Below w.heap.size w w1 := hb0.trans (hb1.mono hb0.size)
  clear Hlk
  by_cases hr : refuseI ts cs = 0
  · obtain ⟨hts, hcl⟩ := of_refuse hr
    have HF : Hid (folN ts cs sts = ((followL ts cs sts []).length : Nat)) := by show _ = _; rw [folN, if_pos hr]
    have HE4 : Hid ((followL ts cs sts []).length < sts.length → chkE ts cs sts = 4) := fun h => by
      have : folE ts cs sts = 4 := by rw [folE, if_pos hr, if_pos h]
      rw [chkE, this]; rfl
    have HE0 : Hid ((followL ts cs sts []).length = sts.length → chkE ts cs sts = if (followL ts cs sts []).length = 0 then 5 else if (inOrd (lastS (followL ts cs sts [])).1 (lastS (followL ts cs sts [])).2).length = 0 then 0 else 5) := fun h => by
      have h1 : folE ts cs sts = 0 := by rw [folE, if_pos hr, if_neg (by omega)]
      have h2 : folS ts cs sts = lastS (followL ts cs sts []) := by rw [folS, if_pos hr, if_neg (by omega)]
      have h3 := inOrd_empty (lastS_low45 (followL_low45 hts hcl sts [] (fun p hp => by simp at hp)))
      rw [chkE, h1, if_pos rfl, HF.out, h2, h3]
      by_cases h0 : (followL ts cs sts []).length = 0
      · simp [h0]
      · rw [if_neg h0, if_neg (by omega)]
        simp
    have hrp := replay_any ta sa la tc sc lc ts cs sts w1 (hT.below hb1) (hC.below hb1) (hS.below hb1) hts hcl hlen
    have Hrp := hide hrp
    have q0 := cell_below hb1 p0
    have q1 := cell_below hb1 p1
    rw [hr]
    generalize followL ts cs sts [] = F at *
    clear hrp p0 p1 hts hcl hr
    go_wp2_with fail
    refine Hrp.out.mono ?_
    rintro e w2 ⟨hends, hb2⟩
    have hbz : Below w.heap.size w w2 := hbw.trans (hb2.mono hbw.size)
    rcases hends with ⟨hl, v, qs, rfl, hcso, hTd⟩ | ⟨hl, rfl⟩
    · have Hl := hide hl
      have HE := hide (HE0.out hl)
      by_cases h0 : F.length = 0
      · have HE5 : Hid (chkE ts cs sts = 5) := by show _ = _; rw [HE.out, if_pos h0]
        obtain ⟨va, vc, rfl, _⟩ := hcso.at
        have hq0 : qs.length = 0 := by rw [hTd.1]; exact h0
        rw [hq0]
        clear hl
        go_wp2_with fail
        go_ret2
        exact ⟨ret_ii (by rw [HF.out, h0]; rfl) HE5.out.symm, hbz⟩
      · obtain ⟨b, o, oa, oc, rfl, hcell, _⟩ := hcso.last hTd h0
        have HE5 : Hid (chkE ts cs sts = if (inOrd (lastS F).1 (lastS F).2).length = 0 then 0 else 5) := by show _ = _; rw [HE.out, if_neg h0]
        have hF1 : 1 ≤ F.length := by omega
        have hF2 : F.length ≤ 3518437208883 := by omega
        generalize (inOrd (lastS F).1 (lastS F).2).length = k at *
        have Hk0 := hide h0
        obtain ⟨m, hm⟩ : ∃ m, F.length = m + 1 := ⟨F.length - 1, by omega⟩
        rw [show F.length - 1 = m by omega] at hcell
        have Hm := hide hm
        rw [hm]
        clear hl hm hF1 h0
        have hm2 : m ≤ 3518437208883 := by have := Hm.out; omega
        have hF0 : ((m : Int) + 1 == 0) = false := by simp; omega
        by_cases hk : k = 0
        · subst hk
          go_wp2_with fail
          go_ret2
          exact ⟨ret_ii (by rw [HF.out, Hm.out]; omega) (by rw [HE5.out]; rfl), hbz⟩
        · go_wp2_with fail
          go_ret2
          exact ⟨ret_ii (by rw [HF.out, Hm.out]; omega) (by rw [HE5.out, if_neg hk]), hbz⟩
    · have HE := hide (HE4.out hl)
      have hnn : 0 ≤ (F.length : Int) := by omega
      clear hl
      go_wp2_with fail
      go_ret2
      exact ⟨ret_ii HF.out.symm HE.out.symm, hbz⟩
  · have hrn : (refuseI ts cs != 0) = true := by simpa using hr
    have HF : Hid (folN ts cs sts = 0) := by show _ = _; rw [folN, if_neg hr]
    have HE : Hid (chkE ts cs sts = refuseI ts cs) := by
      have h1 : folE ts cs sts = refuseI ts cs := by rw [folE, if_neg hr]
      show _ = _
      rw [chkE, h1, if_neg hr]
    go_wp2_with fail
    go_ret2
    exact ⟨ret_ii HF.out.symm HE.out.symm, hbw⟩

set_option maxRecDepth 100000 in
set_option maxHeartbeats 2000000 in
theorem rClause_any (ta sa la : Option Addr) (tc sc lc : Nat) (ts : List Tm) (cs : List Cl) (sts : List St) (w : World) (ht : TermsAt w ta ts) (hcs : ClausesAt w sa cs) (hst : StepsAt w la sts) (hlen : sts.length ≤ 3518437208883) :
    Calls Try.prog 46 #[.agg #[.slice ta ts.length tc, .slice sa cs.length sc], .slice la sts.length lc] w fun e w' => ∃ oa oc,
      e = .returned (.tuple #[.slice oa (clsL ts cs sts).length oc, .int .i64 (clsN ts cs sts), .int .i64 (clsE ts cs sts)]) ∧ LitsAt w' oa (clsL ts cs sts) ∧ Below w.heap.size w w' := by
  obtain ⟨W, hW⟩ : ∃ W, W = w.alloc (.cells #[.slice ta ts.length tc, .slice sa cs.length sc] 33) := ⟨_, rfl⟩
  have hb0 : Below w.heap.size w W := by rw [hW]; exact (Below.refl _ _).alloc (Nat.le_refl _) _
  have p0 : W.cell? ⟨w.heap.size, 0, none⟩ = some (.slice ta ts.length tc) := by rw [hW]; simp
  have p1 : W.cell? ⟨w.heap.size, 1, none⟩ = some (.slice sa cs.length sc) := by rw [hW]; simp
  have hT := ht.below hb0
  have hC := hcs.below hb0
  have hS := hst.below hb0
  have hlk := look_any ta sa tc sc ts cs W hT hC
  have Hlk := hide hlk
  clear hlk
  go_enter Try.func46, Try.ntmps46
  go_upto_region 1 with fail
  rw [← hW]
  clear hW
  go_wp2_with fail
  refine Hlk.out.mono ?_
  rintro e w1 ⟨rfl, hb1⟩
  have hbw : Below w.heap.size w w1 := hb0.trans (hb1.mono hb0.size)
  clear Hlk
  by_cases hr : refuseI ts cs = 0
  · obtain ⟨hts, hcl⟩ := of_refuse hr
    have HF : Hid (folN ts cs sts = ((followL ts cs sts []).length : Nat)) := by show _ = _; rw [folN, if_pos hr]
    have HE4 : Hid ((followL ts cs sts []).length < sts.length → clsE ts cs sts = 4 ∧ clsN ts cs sts = folN ts cs sts ∧ clsL ts cs sts = []) := fun h => by
      have h1 : folE ts cs sts = 4 := by rw [folE, if_pos hr, if_pos h]
      have h2 : clsE ts cs sts = 4 := by rw [clsE, h1]; rfl
      exact ⟨h2, by rw [clsN, h1]; rfl, by rw [clsL, h2]; rfl⟩
    have HE0 : Hid ((followL ts cs sts []).length = sts.length → ((followL ts cs sts []).length = 0 → clsE ts cs sts = 5 ∧ clsN ts cs sts = 0 ∧ clsL ts cs sts = []) ∧ ((followL ts cs sts []).length ≠ 0 → clsE ts cs sts = 0 ∧ clsN ts cs sts = folN ts cs sts - 1 ∧ clsL ts cs sts = inOrd (lastS (followL ts cs sts [])).1 (lastS (followL ts cs sts [])).2)) := fun h => by
      have h1 : folE ts cs sts = 0 := by rw [folE, if_pos hr, if_neg (by omega)]
      have h2 : folS ts cs sts = lastS (followL ts cs sts []) := by rw [folS, if_pos hr, if_neg (by omega)]
      refine ⟨fun h0 => ?_, fun h0 => ?_⟩
      · have e5 : clsE ts cs sts = 5 := by rw [clsE, h1, if_pos rfl, HF.out, if_pos (by omega)]
        exact ⟨e5, by rw [clsN, h1, if_pos rfl, HF.out, if_pos (by omega)], by rw [clsL, e5]; rfl⟩
      · have e5 : clsE ts cs sts = 0 := by rw [clsE, h1, if_pos rfl, HF.out, if_neg (by omega)]
        exact ⟨e5, by rw [clsN, h1, if_pos rfl, if_neg (by rw [HF.out]; omega)], by rw [clsL, e5, if_pos rfl, h2]⟩
    have hrp := replay_any ta sa la tc sc lc ts cs sts w1 (hT.below hb1) (hC.below hb1) (hS.below hb1) hts hcl hlen
    have Hrp := hide hrp
    have q0 := cell_below hb1 p0
    have q1 := cell_below hb1 p1
    rw [hr]
    generalize followL ts cs sts [] = F at *
    clear hrp p0 p1 hts hcl hr
    go_wp2_with fail
    refine Hrp.out.mono ?_
    rintro e w2 ⟨hends, hb2⟩
    have hbz : Below w.heap.size w w2 := hbw.trans (hb2.mono hbw.size)
    rcases hends with ⟨hl, v, qs, rfl, hcso, hTd⟩ | ⟨hl, rfl⟩
    · have HE := hide (HE0.out hl)
      by_cases h0 : F.length = 0
      · obtain ⟨e1, e2, e3⟩ := HE.out.1 h0
        have E1 := hide e1
        have E2 := hide e2
        have E3 := hide e3
        obtain ⟨va, vc, rfl, _⟩ := hcso.at
        have hq0 : qs.length = 0 := by rw [hTd.1]; exact h0
        rw [hq0]
        clear hl e1 e2 e3
        go_wp2_with fail
        go_ret3
        refine ⟨none, 0, ?_, ?_, hbz⟩
        · rw [E1.out, E2.out, E3.out]; rfl
        · rw [E3.out]; exact .inl rfl
      · obtain ⟨b, o, oa, oc, rfl, hcell, hla⟩ := hcso.last hTd h0
        obtain ⟨e1, e2, e3⟩ := HE.out.2 h0
        rw [← e3] at hcell hla
        have E1 := hide e1
        have E2 := hide e2
        have hF2 : F.length ≤ 3518437208883 := by omega
        obtain ⟨m, hm⟩ : ∃ m, F.length = m + 1 := ⟨F.length - 1, by omega⟩
        rw [show F.length - 1 = m by omega] at hcell
        have Hm := hide hm
        rw [hm]
        clear hl hm h0 e1 e2 e3
        have hm2 : m ≤ 3518437208883 := by have := Hm.out; omega
        have hF0 : ((m : Int) + 1 == 0) = false := by simp; omega
        go_wp2_with fail
        go_ret3
        refine ⟨oa.1, oa.2, ?_, hla, hbz⟩
        have e9 : ((m + 1 : Nat) : Int) - 1 = (m : Int) := by omega
        rw [E1.out, E2.out, HF.out, Hm.out, e9]
        first
          | rfl
          | (simp; done)
          | trace_state
    · obtain ⟨e1, e2, e3⟩ := HE4.out hl
      have E1 := hide e1
      have E2 := hide e2
      have E3 := hide e3
      have hnn : 0 ≤ (F.length : Int) := by omega
      clear hl e1 e2 e3
      go_wp2_with fail
      go_ret3
      refine ⟨none, 0, ?_, ?_, hbz⟩
      · rw [E1.out, E2.out, E3.out, HF.out]; rfl
      · rw [E3.out]; exact .inl rfl
  · have hrn : (refuseI ts cs != 0) = true := by simpa using hr
    have h1 : folE ts cs sts = refuseI ts cs := by rw [folE, if_neg hr]
    have hF : folN ts cs sts = 0 := by rw [folN, if_neg hr]
    have E1 : Hid (clsE ts cs sts = refuseI ts cs) := by show _ = _; rw [clsE, h1, if_neg hr]
    have E2 : Hid (clsN ts cs sts = 0) := by show _ = _; rw [clsN, h1, if_neg hr, hF]
    have E3 : Hid (clsL ts cs sts = []) := by show _ = _; rw [clsL, E1.out, if_neg hr]
    clear h1 hF
    go_wp2_with fail
    go_ret3
    refine ⟨none, 0, ?_, ?_, hbw⟩
    · rw [E1.out, E2.out, E3.out]; rfl
    · rw [E3.out]; exact .inl rfl
end Go.Proofs.Ytjebhhoibofmfaa
