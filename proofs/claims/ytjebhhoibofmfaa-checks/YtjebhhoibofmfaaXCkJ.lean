import Derived.Test.YtjebhhoibofmfaaXCkE
namespace Go.Proofs.Ytjebhhoibofmfaa
open Go.RowKit

set_option maxRecDepth 100000 in
set_option maxHeartbeats 8000000 in
set_option linter.unusedVariables false in
theorem one_none_any (ta sa aa : Option Addr) (tc sc ac : Nat) (ts : List Tm) (cs qs : List Cl) (ss : List (Nat × Nat)) (s : St) (w : World) (ht : TermsAt w ta ts) (hcs : ClausesAt w sa cs) (hq : ClausesAt w aa qs) (hts : termsB ts = true) (hcl : clausesB ts.length cs = true)
    (hql : qs.length = ss.length) (hqi : ∀ i, i < ss.length → (qs.getD i cl0).ls = inOrd (ss.getD i (0, 0)).1 (ss.getD i (0, 0)).2) (n0 : ¬ s.r = 0) (n1 : ¬ s.r = 1) (n2 : ¬ s.r = 2) (n3 : ¬ s.r = 3) (n4 : ¬ s.r = 4) :
    Calls Try.prog 81 #[.agg #[.slice ta ts.length tc, .slice sa cs.length sc], .agg #[.int .i64 s.r, .int .i64 s.a, .int .i64 s.b, .int .i64 s.c, .int .i64 s.d], .slice aa qs.length ac] w fun e w' => OneEnds w w' e (nextB ts cs ss s) (nextS ts cs ss s) := by
  have h9 := (len_of hts).2
  have Hts := hide hts
  have Hcl := hide hcl
  have Hqi := hide hqi
  have Hql := hide hql
  have Hn : Hid (nextB ts cs ss s = false) := by
    show _ = _
    unfold nextB
    rw [if_neg n0, if_neg n1, if_neg n2, if_neg n3, if_neg n4]
  obtain ⟨r, a, b, c, d⟩ := s
  simp only at n0 n1 n2 n3 n4
  have hB := BX.start w (.slice ta ts.length tc) (.slice sa cs.length sc) ⟨r, a, b, c, d⟩
  go_enter Try.func81, Try.ntmps81
  go_upto_region 1 with fail
  simp only at hB
  generalize hW : (w.alloc _).alloc _ = W at *
  obtain ⟨p0, p1, q0, q1, q2, q3, q4⟩ := hB.cells
  simp only at q0 q1 q2 q3 q4
  clear hW hts hcl hqi hql
  go_upto_region 2 with fail
  go_cut [9] from 26 to 34 (fun s9 wx => s9 = .bool (belowB a (ts.length : Nat)) ∧ W = wx)
  case first =>
    by_cases h1 : 0 ≤ a
    · go_wp2_with fail
      go_meet
      exact ⟨by rw [belowB, decide_eq_true h1, Bool.true_and], rfl⟩
    · have h1' : decide (0 ≤ a) = false := by simpa using h1
      go_wp2_with fail
      go_meet
      exact ⟨by rw [belowB, h1']; rfl, rfl⟩
  case rest =>
    obtain ⟨rfl, rfl⟩ := hcut
    go_upto_region 3 with fail
    go_cut [10] from 35 to 43 (fun s9 wx => s9 = .bool (belowB b (ts.length : Nat)) ∧ W = wx)
    case first =>
      by_cases h1 : 0 ≤ b
      · go_wp2_with fail
        go_meet
        exact ⟨by rw [belowB, decide_eq_true h1, Bool.true_and], rfl⟩
      · have h1' : decide (0 ≤ b) = false := by simpa using h1
        go_wp2_with fail
        go_meet
        exact ⟨by rw [belowB, h1']; rfl, rfl⟩
    case rest =>
      obtain ⟨rfl, rfl⟩ := hcut
      go_upto_region 4 with fail
      go_cut [11] from 44 to 52 (fun s9 wx => s9 = .bool (belowB c (ts.length : Nat)) ∧ W = wx)
      case first =>
        by_cases h1 : 0 ≤ c
        · go_wp2_with fail
          go_meet
          exact ⟨by rw [belowB, decide_eq_true h1, Bool.true_and], rfl⟩
        · have h1' : decide (0 ≤ c) = false := by simpa using h1
          go_wp2_with fail
          go_meet
          exact ⟨by rw [belowB, h1']; rfl, rfl⟩
      case rest =>
        obtain ⟨rfl, rfl⟩ := hcut
        generalize hba : belowB a (ts.length : Nat) = ba at *
        generalize hbb : belowB b (ts.length : Nat) = bb at *
        generalize hbc : belowB c (ts.length : Nat) = bc at *
        have Ha := hide hba
        have Hb := hide hbb
        have Hc := hide hbc
        clear hba hbb hbc
        have n0' : (r == 0) = false := by simpa using n0
        have n1' : (r == 1) = false := by simpa using n1
        have n2' : (r == 2) = false := by simpa using n2
        have n3' : (r == 3) = false := by simpa using n3
        have n4' : (r == 4) = false := by simpa using n4
        go_wp2_with fail
        go_ret2
        exact ⟨none, 0, 0, (by rw [Hn.out]; rfl), (fun h => absurd (Hn.out.symm.trans h) (by decide)), hB.2.2⟩
end Go.Proofs.Ytjebhhoibofmfaa
