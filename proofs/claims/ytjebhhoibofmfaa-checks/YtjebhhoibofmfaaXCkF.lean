import Derived.Test.YtjebhhoibofmfaaXCkE
namespace Go.Proofs.Ytjebhhoibofmfaa
open Go.RowKit

set_option maxRecDepth 100000 in
set_option maxHeartbeats 8000000 in
set_option linter.unusedVariables false in
theorem one_trans_any (ta sa aa : Option Addr) (tc sc ac : Nat) (ts : List Tm) (cs qs : List Cl) (ss : List (Nat × Nat)) (s : St) (w : World) (ht : TermsAt w ta ts) (hcs : ClausesAt w sa cs) (hq : ClausesAt w aa qs) (hts : termsB ts = true) (hcl : clausesB ts.length cs = true)
    (hql : qs.length = ss.length) (hqi : ∀ i, i < ss.length → (qs.getD i cl0).ls = inOrd (ss.getD i (0, 0)).1 (ss.getD i (0, 0)).2) (hr : s.r = 2) :
    Calls Try.prog 81 #[.agg #[.slice ta ts.length tc, .slice sa cs.length sc], .agg #[.int .i64 s.r, .int .i64 s.a, .int .i64 s.b, .int .i64 s.c, .int .i64 s.d], .slice aa qs.length ac] w fun e w' => OneEnds w w' e (nextB ts cs ss s) (nextS ts cs ss s) := by
  have h9 := (len_of hts).2
  have Hts := hide hts
  have Hcl := hide hcl
  have Hqi := hide hqi
  have Hql := hide hql
  obtain ⟨r, a, b, c, d⟩ := s
  simp only at hr
  subst hr
  have hB := BX.start w (.slice ta ts.length tc) (.slice sa cs.length sc) ⟨2, a, b, c, d⟩
  go_enter Try.func81, Try.ntmps81
  go_upto_region 1 with fail
  simp only at hB
  generalize hW : (w.alloc _).alloc _ = W at *
  obtain ⟨p0, p1, q0, q1, q2, q3, q4⟩ := hB.cells
  simp only at q0 q1 q2 q3 q4
  clear hW hts hcl hqi hql
  go_upto_region 2 with fail
  go_cut [9] from 26 to 34 (fun s9 wx => s9 = .bool (belowB a (ts.length : Nat)) ∧ W = wx)
  case first =>
    by_cases h1 : 0 ≤ a
    · go_wp2_with fail
      go_meet
      exact ⟨by rw [belowB, decide_eq_true h1, Bool.true_and], rfl⟩
    · have h1' : decide (0 ≤ a) = false := by simpa using h1
      go_wp2_with fail
      go_meet
      exact ⟨by rw [belowB, h1']; rfl, rfl⟩
  case rest =>
    obtain ⟨rfl, rfl⟩ := hcut
    go_upto_region 3 with fail
    go_cut [10] from 35 to 43 (fun s9 wx => s9 = .bool (belowB b (ts.length : Nat)) ∧ W = wx)
    case first =>
      by_cases h1 : 0 ≤ b
      · go_wp2_with fail
        go_meet
        exact ⟨by rw [belowB, decide_eq_true h1, Bool.true_and], rfl⟩
      · have h1' : decide (0 ≤ b) = false := by simpa using h1
        go_wp2_with fail
        go_meet
        exact ⟨by rw [belowB, h1']; rfl, rfl⟩
    case rest =>
      obtain ⟨rfl, rfl⟩ := hcut
      go_upto_region 4 with fail
      go_cut [11] from 44 to 52 (fun s9 wx => s9 = .bool (belowB c (ts.length : Nat)) ∧ W = wx)
      case first =>
        by_cases h1 : 0 ≤ c
        · go_wp2_with fail
          go_meet
          exact ⟨by rw [belowB, decide_eq_true h1, Bool.true_and], rfl⟩
        · have h1' : decide (0 ≤ c) = false := by simpa using h1
          go_wp2_with fail
          go_meet
          exact ⟨by rw [belowB, h1']; rfl, rfl⟩
      case rest =>
        obtain ⟨rfl, rfl⟩ := hcut
        generalize hba : belowB a (ts.length : Nat) = ba at *
        generalize hbb : belowB b (ts.length : Nat) = bb at *
        generalize hbc : belowB c (ts.length : Nat) = bc at *
        have Ha := hide hba
        have Hb := hide hbb
        have Hc := hide hbc
        clear hba hbb hbc
        have Hn : Hid (nextB ts cs ss ⟨2, a, b, c, d⟩ = (ba && bb && bc && decide (d = 0))) := by
          show _ = _
          rw [show nextB ts cs ss ⟨2, a, b, c, d⟩ = okT (ts.length : Nat) ⟨2, a, b, c, d⟩ by simp [nextB], okT, allLow_3, allNil_1, Ha.out, Hb.out, Hc.out]
        have Hs : Hid (nextS ts cs ss ⟨2, a, b, c, d⟩ = setT ⟨2, a, b, c, d⟩) := by show _ = _; simp [nextS]
        go_wp2_with fail
        refine (rWith_any none 0 [] ⟨a, b, true⟩ W (.inl rfl) (by simp)).mono ?_
        rintro e w1 ⟨oa, oc, rfl, hown1, hb1⟩
        have hB1 := hB.below hb1
        have hl1 := withs_length [] ⟨a, b, true⟩
        have HL1 : Hid (withL [] ⟨a, b, true⟩ = withs [] [⟨a, b, true⟩]) := rfl
        generalize withL [] ⟨a, b, true⟩ = o1 at *
        obtain ⟨p0', p1', q0', q1', q2', q3', q4'⟩ := hB1.cells
        simp only at q0' q1' q2' q3' q4'
        go_wp2_with fail
        refine (rWith_any oa oc o1 ⟨b, c, true⟩ w1 (litsAt_of_own hown1) (by simp at hl1; omega)).mono ?_
        rintro e w2 ⟨oa2, oc2, rfl, hown2, hb2⟩
        have hB2 := hB1.below hb2
        have hl2 := withs_length o1 ⟨b, c, true⟩
        have HL2 : Hid (withL o1 ⟨b, c, true⟩ = withs [] [⟨a, b, true⟩, ⟨b, c, true⟩]) := by show _ = _; rw [HL1.out]; rfl
        generalize withL o1 ⟨b, c, true⟩ = o2 at *
        clear hown1 q0' q1' q2' q3' q4'
        obtain ⟨p0', p1', q0', q1', q2', q3', q4'⟩ := hB2.cells
        simp only at q0' q1' q2' q3' q4'
        go_wp2_with fail
        refine (rWith_any oa2 oc2 o2 ⟨a, c, false⟩ w2 (litsAt_of_own hown2) (by simp at hl1; omega)).mono ?_
        rintro e w3 ⟨oa3, oc3, rfl, hown3, hb3⟩
        have hB3 := hB2.below hb3
        have HL3 : Hid (withL o2 ⟨a, c, false⟩ = withs [] [⟨a, b, true⟩, ⟨b, c, true⟩, ⟨a, c, false⟩]) := by show _ = _; rw [HL2.out]; rfl
        generalize withL o2 ⟨a, c, false⟩ = o3 at *
        clear hown2 q0' q1' q2' q3' q4'
        obtain ⟨p0', p1', q0', q1', q2', q3', q4'⟩ := hB3.cells
        simp only at q0' q1' q2' q3' q4'
        go_upto_region 22 with fail
        go_cut [6, 7] from 155 to 167 (fun s6 s7 wx => s6 = .slice oa3 o3.length oc3 ∧ s7 = .bool (ba && bb && bc && decide (d = 0)) ∧ ∃ n, wx = w3.drewN n)
        case first =>
          cases ba
          · go_quiet (fail)
            go_wp2_with fail
            go_meet
            exact ⟨rfl, rfl, _, rfl⟩
          · cases bb
            · go_quiet (fail)
              go_wp2_with fail
              go_meet
              exact ⟨rfl, rfl, _, rfl⟩
            · cases bc
              · go_quiet (fail)
                go_wp2_with fail
                go_meet
                exact ⟨rfl, rfl, _, rfl⟩
              · by_cases e3 : d = 0
                · subst e3
                  go_quiet (fail)
                  go_wp2_with fail
                  go_meet
                  exact ⟨rfl, rfl, _, rfl⟩
                · have e3' : (d == 0) = false := by simpa using e3
                  go_quiet (fail)
                  go_wp2_with fail
                  go_meet
                  exact ⟨rfl, by simp [e3], _, rfl⟩
        case rest =>
          obtain ⟨rfl, rfl, n0, rfl⟩ := hcut
          rw [← Hn.out]
          go_wp2_with fail
          go_ret2
          refine ⟨oa3, _, oc3, rfl, fun hok => ?_, below_drewN hB3.2.2 _⟩
          rw [Hn.out, Bool.and_eq_true, Bool.and_eq_true, Bool.and_eq_true] at hok
          obtain ⟨⟨⟨k1, k2⟩, k3⟩, _⟩ := hok
          have e : o3 = inOrd (setT ⟨2, a, b, c, d⟩).1 (setT ⟨2, a, b, c, d⟩).2 := by
            have hw := withs_in [⟨a, b, true⟩, ⟨b, c, true⟩, ⟨a, c, false⟩] (0, 0) (fun u hu => ?_)
            · rw [inOrd_zero] at hw
              rw [HL3.out]; exact hw
            simp only [List.mem_cons, List.not_mem_nil, or_false] at hu
            rcases hu with rfl | rfl | rfl
            · exact low_of h9 (Ha.out.trans k1) (Hb.out.trans k2)
            · exact low_of h9 (Hb.out.trans k2) (Hc.out.trans k3)
            · exact low_of h9 (Ha.out.trans k1) (Hc.out.trans k3)
          rw [Hs.out, ← e]
          exact ⟨rfl, own_base (own_below hown3 (below_drewN (Below.refl _ _) _)) (by have := hB2.2.2.size; omega)⟩
end Go.Proofs.Ytjebhhoibofmfaa
