import Derived.Test.YtjebhhoibofmfaaXCkE
namespace Go.Proofs.Ytjebhhoibofmfaa
open Go.RowKit

set_option maxRecDepth 100000 in
set_option maxHeartbeats 8000000 in
set_option linter.unusedVariables false in
theorem one_given_any (ta sa aa : Option Addr) (tc sc ac : Nat) (ts : List Tm) (cs qs : List Cl) (ss : List (Nat × Nat)) (s : St) (w : World) (ht : TermsAt w ta ts) (hcs : ClausesAt w sa cs) (hq : ClausesAt w aa qs) (hts : termsB ts = true) (hcl : clausesB ts.length cs = true)
    (hql : qs.length = ss.length) (hqi : ∀ i, i < ss.length → (qs.getD i cl0).ls = inOrd (ss.getD i (0, 0)).1 (ss.getD i (0, 0)).2) (hr : s.r = 0) :
    Calls Try.prog 81 #[.agg #[.slice ta ts.length tc, .slice sa cs.length sc], .agg #[.int .i64 s.r, .int .i64 s.a, .int .i64 s.b, .int .i64 s.c, .int .i64 s.d], .slice aa qs.length ac] w fun e w' => OneEnds w w' e (nextB ts cs ss s) (nextS ts cs ss s) := by
  have h9 := (len_of hts).2
  have Hts := hide hts
  have Hcl := hide hcl
  have Hqi := hide hqi
  have Hql := hide hql
  obtain ⟨r, a, b, c, d⟩ := s
  simp only at hr
  subst hr
  have hB := BX.start w (.slice ta ts.length tc) (.slice sa cs.length sc) ⟨0, a, b, c, d⟩
  go_enter Try.func81, Try.ntmps81
  go_upto_region 1 with fail
  simp only at hB
  generalize hW : (w.alloc _).alloc _ = W at *
  obtain ⟨p0, p1, q0, q1, q2, q3, q4⟩ := hB.cells
  simp only at q0 q1 q2 q3 q4
  clear hW hts hcl hqi hql
  go_upto_region 2 with fail
  go_cut [9] from 26 to 34 (fun s9 wx => s9 = .bool (belowB a (ts.length : Nat)) ∧ W = wx)
  case first =>
    by_cases h1 : 0 ≤ a
    · go_wp2_with fail
      go_meet
      exact ⟨by rw [belowB, decide_eq_true h1, Bool.true_and], rfl⟩
    · have h1' : decide (0 ≤ a) = false := by simpa using h1
      go_wp2_with fail
      go_meet
      exact ⟨by rw [belowB, h1']; rfl, rfl⟩
  case rest =>
    obtain ⟨rfl, rfl⟩ := hcut
    go_upto_region 3 with fail
    go_cut [10] from 35 to 43 (fun s9 wx => s9 = .bool (belowB b (ts.length : Nat)) ∧ W = wx)
    case first =>
      by_cases h1 : 0 ≤ b
      · go_wp2_with fail
        go_meet
        exact ⟨by rw [belowB, decide_eq_true h1, Bool.true_and], rfl⟩
      · have h1' : decide (0 ≤ b) = false := by simpa using h1
        go_wp2_with fail
        go_meet
        exact ⟨by rw [belowB, h1']; rfl, rfl⟩
    case rest =>
      obtain ⟨rfl, rfl⟩ := hcut
      go_upto_region 4 with fail
      go_cut [11] from 44 to 52 (fun s9 wx => s9 = .bool (belowB c (ts.length : Nat)) ∧ W = wx)
      case first =>
        by_cases h1 : 0 ≤ c
        · go_wp2_with fail
          go_meet
          exact ⟨by rw [belowB, decide_eq_true h1, Bool.true_and], rfl⟩
        · have h1' : decide (0 ≤ c) = false := by simpa using h1
          go_wp2_with fail
          go_meet
          exact ⟨by rw [belowB, h1']; rfl, rfl⟩
      case rest =>
        obtain ⟨rfl, rfl⟩ := hcut
        generalize hba : belowB a (ts.length : Nat) = ba at *
        generalize hbb : belowB b (ts.length : Nat) = bb at *
        generalize hbc : belowB c (ts.length : Nat) = bc at *
        have Ha := hide hba
        have Hb := hide hbb
        have Hc := hide hbc
        clear hba hbb hbc
        have Hn : Hid (nextB ts cs ss ⟨0, a, b, c, d⟩ = (belowB a (cs.length : Nat) && (decide (b = 0) && decide (c = 0) && decide (d = 0)))) := by
          show _ = _
          rw [show nextB ts cs ss ⟨0, a, b, c, d⟩ = okG (cs.length : Nat) ⟨0, a, b, c, d⟩ by simp [nextB], okG, allLow_1, allNil_3]
        have Hs : Hid (nextS ts cs ss ⟨0, a, b, c, d⟩ = setG cs ⟨0, a, b, c, d⟩) := by show _ = _; simp [nextS]
        go_upto_region 8 with fail
        go_cut [82] from 57 to 81 (fun s82 wx => s82 = .bool (!(belowB a (cs.length : Nat) && (decide (b = 0) && decide (c = 0) && decide (d = 0)))) ∧ W = wx)
        case first =>
          by_cases e0 : 0 ≤ a
          · by_cases e00 : a < (cs.length : Nat)
            · by_cases e1 : b = 0
              · subst e1
                by_cases e2 : c = 0
                · subst e2
                  by_cases e3 : d = 0
                  · subst e3
                    go_wp2_with fail
                    go_meet
                    exact ⟨by simp [belowB, e0, e00], rfl⟩
                  · have e3' : (d != 0) = true := by simpa using e3
                    go_wp2_with fail
                    go_meet
                    exact ⟨by simp [e3], rfl⟩
                · have e2' : (c != 0) = true := by simpa using e2
                  go_wp2_with fail
                  go_meet
                  exact ⟨by simp [e2], rfl⟩
              · have e1' : (b != 0) = true := by simpa using e1
                go_wp2_with fail
                go_meet
                exact ⟨by simp [e1], rfl⟩
            · have e4 : (cs.length : Int) ≤ a := by omega
              go_wp2_with fail
              go_meet
              exact ⟨by simp [belowB, e00], rfl⟩
          · have e4 : a < 0 := by omega
            go_wp2_with fail
            go_meet
            exact ⟨by simp [belowB, e0], rfl⟩
        case rest =>
          obtain ⟨rfl, rfl⟩ := hcut
          rw [← Hn.out]
          cases hnb : nextB ts cs ss ⟨0, a, b, c, d⟩
          · go_wp2_with fail
            go_ret2
            exact ⟨none, 0, 0, (by rw [hnb]; rfl), (fun h => absurd (hnb.symm.trans h) (by decide)), hB.2.2⟩
          · have Hnb := hide hnb
            rw [Hn.out, Bool.and_eq_true] at hnb
            have ha := belowB_iff.1 hnb.1
            obtain ⟨na, hna⟩ := Int.eq_ofNat_of_zero_le ha.1
            subst hna
            have hna : na < cs.length := by omega
            have hlow := clow_of Hts.out Hcl.out na hna
            have Hlow := hide hlow.2
            have hl6 := hlow.1
            have Hset : Hid (setG cs ⟨0, (na : Int), b, c, d⟩ = ofL (cs.getD na cl0).ls (0, 0)) := rfl
            clear hlow hnb Hn ha
            obtain ⟨sb, so, rfl, ccell⟩ := hcs.get hna
            obtain ⟨c1, c2⟩ := ccell na hna
            clear ccell
            generalize cs.getD na cl0 = q at *
            obtain ⟨qa, qcap, ls⟩ := q
            simp only at c1 c2 Hlow hl6 Hset
            have hown0 : W.ownsRow w.heap.size 50 3 (.slice none 0 0) 0 (lsCells []) := ⟨rfl, .inl ⟨rfl, rfl⟩⟩
            clear p0 p1 q0 q1 q2 q3 q4
            go_wp2_with fail
            go_loopg [12, 13] ls.length (fun q v s13 wx => ∃ (i : Nat) (out : List Lt), q = ls.length - i ∧ i ≤ ls.length ∧ s13 = .int .i64 i ∧ Hid (out = withs [] (ls.take i)) ∧ BX w (.slice ta ts.length tc) (.slice (some ⟨sb, so, none⟩) cs.length sc) ⟨0, (na : Int), b, c, d⟩ wx ∧ wx.ownsRow w.heap.size 50 3 v out.length (lsCells out))
            case atStart => exact ⟨0, [], by omega, by omega, rfl, rfl, hB, hown0⟩
            case round =>
              obtain ⟨i, out, rfl, hi, rfl, Ho, hBr, hown⟩ := hrel
              obtain ⟨va, vc, rfl⟩ := own_val hown
              obtain ⟨p0, p1, q0, q1, q2, q3, q4⟩ := hBr.cells
              simp only at q0 q1 q2 q3 q4
              have c1' := cell_below hBr.2.2 c1
              have c2' := c2.below hBr.2.2
              have hol : out.length ≤ 6 := by
                have h1 := withs_le (ls.take i) []
                rw [← Ho.out, List.length_take] at h1
                simp at h1
                omega
              by_cases hlt : i < ls.length
              · obtain ⟨lb, lo, hla, lcell⟩ := c2'.get hlt
                obtain ⟨x0, x1, x2⟩ := lcell i hlt
                subst hla
                have Hst : Hid (withL out (ls.getD i lt0) = withs [] (ls.take (i + 1))) := by
                  show _ = _
                  rw [take_snoc hlt, withs_snoc, ← Ho.out]
                generalize ls.getD i lt0 = t at *
                clear lcell c2'
                go_wp2_with fail
                refine (rWith_any va vc out t wr (litsAt_of_own hown) (by omega)).mono ?_
                rintro e w1 ⟨oa, oc, rfl, hown1, hb1⟩
                have hB1 := hBr.below hb1
                have hs1 := hBr.2.2.size
                clear x0 x1 x2 c1'
                go_wp2_with fail
                go_roundg (ls.length - (i + 1))
                case measure => omega
                case rel => exact ⟨i + 1, _, rfl, by omega, by go_num, Hst, hB1, own_base hown1 hs1⟩
              · have e : ls.take i = ls := List.take_of_length_le (by omega)
                rw [e] at Ho
                clear e
                go_wp2_with fail
                go_ret2
                refine ⟨va, _, vc, by rw [Hnb.out]; rfl, fun _ => ?_, hBr.2.2⟩
                rw [Hs.out, Hset.out, ← withs_all Hlow.out, ← Ho.out]
                exact ⟨rfl, hown⟩
end Go.Proofs.Ytjebhhoibofmfaa
