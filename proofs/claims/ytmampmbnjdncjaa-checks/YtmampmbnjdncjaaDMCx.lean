import Derived.Test.YtmampmbnjdncjaaDMCr
namespace Go.Proofs.Ytmampmbnjdncjaa
open Go.RowKit
theorem allLow_1 (n a : Int) : allLow n [a] = belowB a n := by simp [allLow, allB]
theorem allLow_2 (n a b : Int) : allLow n [a, b] = (belowB a n && belowB b n) := by simp [allLow, allB, List.range_succ]
theorem allLow_3 (n a b c : Int) : allLow n [a, b, c] = (belowB a n && belowB b n && belowB c n) := by simp [allLow, allB, List.range_succ, Bool.and_assoc]
theorem allNil_1 (a : Int) : allNil [a] = decide (a = 0) := by simp [allNil, allB]
theorem allNil_2 (a b : Int) : allNil [a, b] = (decide (a = 0) && decide (b = 0)) := by simp [allNil, allB, List.range_succ]
theorem allNil_3 (a b c : Int) : allNil [a, b, c] = (decide (a = 0) && decide (b = 0) && decide (c = 0)) := by simp [allNil, allB, List.range_succ, Bool.and_assoc]
theorem low_of {a b : Int} {n : Nat} {f : Bool} (h9 : n ≤ 9) (ha : belowB a n = true) (hb : belowB b n = true) : LowL 9 ⟨a, b, f⟩ := by
  have h1 := belowB_iff.1 ha
  have h2 := belowB_iff.1 hb
  exact ⟨by show 0 ≤ a; omega, by show a < 9; omega, by show 0 ≤ b; omega, by show b < 9; omega⟩
def OneEnds (w w' : World) (e : Ending) (ok : Bool) (q : Nat × Nat) : Prop :=
  ∃ oa ol oc, e = .returned (.tuple #[.slice oa ol oc, .bool ok]) ∧ (ok = true → ol = (inOrd q.1 q.2).length ∧ w'.ownsRow w.heap.size 50 3 (.slice oa ol oc) ol (lsCells (inOrd q.1 q.2))) ∧ Below w.heap.size w w'
def BX (w : World) (p0 p1 : Value) (s : St) (W : World) : Prop :=
  W.heap[w.heap.size]? = some (.cells #[p0, p1] 33 (0, 0)) ∧ W.heap[w.heap.size + 1]? = some (.cells #[.int .i64 s.r, .int .i64 s.a, .int .i64 s.b, .int .i64 s.c, .int .i64 s.d] 62 (0, 0)) ∧ Below w.heap.size w W
theorem BX.below {w W W' : World} {p0 p1 : Value} {s : St} (h : BX w p0 p1 s W) (hb : Below W.heap.size W W') : BX w p0 p1 s W' :=
  ⟨(hb.block _ (Array.getElem?_eq_some_iff.1 h.1).1).trans h.1, (hb.block _ (Array.getElem?_eq_some_iff.1 h.2.1).1).trans h.2.1, h.2.2.trans (hb.mono h.2.2.size)⟩
theorem BX.cells {w W : World} {p0 p1 : Value} {s : St} (h : BX w p0 p1 s W) : W.cell? ⟨w.heap.size, 0, none⟩ = some p0 ∧ W.cell? ⟨w.heap.size, 1, none⟩ = some p1 ∧ W.cell? ⟨w.heap.size + 1, 0, none⟩ = some (.int .i64 s.r) ∧
    W.cell? ⟨w.heap.size + 1, 1, none⟩ = some (.int .i64 s.a) ∧ W.cell? ⟨w.heap.size + 1, 2, none⟩ = some (.int .i64 s.b) ∧ W.cell? ⟨w.heap.size + 1, 3, none⟩ = some (.int .i64 s.c) ∧ W.cell? ⟨w.heap.size + 1, 4, none⟩ = some (.int .i64 s.d) := by
  refine ⟨?_, ?_, ?_, ?_, ?_, ?_, ?_⟩
  · rw [cell_of_row _ _ _ _ _ _ h.1]; rfl
  · rw [cell_of_row _ _ _ _ _ _ h.1]; rfl
  · rw [cell_of_row _ _ _ _ _ _ h.2.1]; rfl
  · rw [cell_of_row _ _ _ _ _ _ h.2.1]; rfl
  · rw [cell_of_row _ _ _ _ _ _ h.2.1]; rfl
  · rw [cell_of_row _ _ _ _ _ _ h.2.1]; rfl
  · rw [cell_of_row _ _ _ _ _ _ h.2.1]; rfl
theorem BX.lt {w W : World} {p0 p1 : Value} {s : St} (h : BX w p0 p1 s W) : w.heap.size + 2 ≤ W.heap.size := (Array.getElem?_eq_some_iff.1 h.2.1).1
theorem BX.start (w : World) (p0 p1 : Value) (s : St) : BX w p0 p1 s ((w.alloc (.cells #[p0, p1] 33)).alloc (.cells #[.int .i64 s.r, .int .i64 s.a, .int .i64 s.b, .int .i64 s.c, .int .i64 s.d] 62)) :=
  ⟨heap_at_old _ _ (heap_at_new _ _ _ rfl), heap_at_new _ _ _ (by simp), ((Below.refl _ _).alloc (Nat.le_refl _) _).alloc (by simp) _⟩
theorem withL_nil {t : Lt} (ht : LowL 9 t) : withL [] t = inOrd (ofL [t] (0, 0)).1 (ofL [t] (0, 0)).2 := by
  have := withs_in [t] (0, 0) (fun u hu => by rcases List.mem_singleton.1 hu with rfl; exact ht)
  rw [inOrd_zero] at this
  exact this
theorem keepC4 {w w' : World} {b1 o1 b2 o2 b3 o3 b4 o4 : Nat} {v1 v2 v3 v4 : Value} (hb : Below w.heap.size w w')
    (h : w.cell? ⟨b1, o1, none⟩ = some v1 ∧ w.cell? ⟨b2, o2, none⟩ = some v2 ∧ w.cell? ⟨b3, o3, none⟩ = some v3 ∧ w.cell? ⟨b4, o4, none⟩ = some v4) :
    w'.cell? ⟨b1, o1, none⟩ = some v1 ∧ w'.cell? ⟨b2, o2, none⟩ = some v2 ∧ w'.cell? ⟨b3, o3, none⟩ = some v3 ∧ w'.cell? ⟨b4, o4, none⟩ = some v4 :=
  ⟨cell_below hb h.1, cell_below hb h.2.1, cell_below hb h.2.2.1, cell_below hb h.2.2.2⟩
theorem withs_le : ∀ (ls c : List Lt), (withs c ls).length ≤ c.length + ls.length
  | [], _ => Nat.le_refl _
  | t :: ls, c => by
    have h1 := withs_le ls (withL c t)
    have h2 := withs_length c t
    show (withs (withL c t) ls).length ≤ _
    rw [List.length_cons]; omega
theorem withs_snoc (c ls : List Lt) (t : Lt) : withs c (ls ++ [t]) = withL (withs c ls) t := by simp [withs]
theorem withs_all {ls : List Lt} (h : ∀ t ∈ ls, LowL 9 t) : withs [] ls = inOrd (ofL ls (0, 0)).1 (ofL ls (0, 0)).2 := by
  have := withs_in ls (0, 0) h
  rwa [inOrd_zero] at this
set_option maxRecDepth 100000 in
set_option maxHeartbeats 8000000 in
set_option linter.unusedVariables false in
theorem one_refl_any (ta sa aa : Option Addr) (tc sc ac : Nat) (ts : List Tm) (cs qs : List Cl) (ss : List (Nat × Nat)) (s : St) (w : World) (ht : TermsAt w ta ts) (hcs : ClausesAt w sa cs) (hq : ClausesAt w aa qs) (hts : termsB ts = true) (hcl : clausesB ts.length cs = true)
    (hql : qs.length = ss.length) (hqi : ∀ i, i < ss.length → (qs.getD i cl0).ls = inOrd (ss.getD i (0, 0)).1 (ss.getD i (0, 0)).2) (hr : s.r = 1) :
    Calls Try.prog 75 #[.agg #[.slice ta ts.length tc, .slice sa cs.length sc], .agg #[.int .i64 s.r, .int .i64 s.a, .int .i64 s.b, .int .i64 s.c, .int .i64 s.d], .slice aa qs.length ac] w fun e w' => OneEnds w w' e (nextB ts cs ss s) (nextS ts cs ss s) := by
  have h9 := (len_of hts).2
  have Hts := hide hts
  have Hcl := hide hcl
  have Hqi := hide hqi
  have Hql := hide hql
  obtain ⟨r, a, b, c, d⟩ := s
  simp only at hr
  subst hr
  have hB := BX.start w (.slice ta ts.length tc) (.slice sa cs.length sc) ⟨1, a, b, c, d⟩
  go_enter Try.func75, Try.ntmps75
  go_upto_region 1 with fail
  simp only at hB
  generalize hW : (w.alloc _).alloc _ = W at *
  obtain ⟨p0, p1, q0, q1, q2, q3, q4⟩ := hB.cells
  simp only at q0 q1 q2 q3 q4
  clear hW hts hcl hqi hql
  go_upto_region 2 with fail
  go_cut [9] from 26 to 34 (fun s9 wx => s9 = .bool (belowB a (ts.length : Nat)) ∧ W = wx)
  case first =>
    by_cases h1 : 0 ≤ a
    · go_wp2_with fail
      go_meet
      exact ⟨by rw [belowB, decide_eq_true h1, Bool.true_and], rfl⟩
    · have h1' : decide (0 ≤ a) = false := by simpa using h1
      go_wp2_with fail
      go_meet
      exact ⟨by rw [belowB, h1']; rfl, rfl⟩
  case rest =>
    obtain ⟨rfl, rfl⟩ := hcut
    go_upto_region 3 with fail
    go_cut [10] from 35 to 43 (fun s9 wx => s9 = .bool (belowB b (ts.length : Nat)) ∧ W = wx)
    case first =>
      by_cases h1 : 0 ≤ b
      · go_wp2_with fail
        go_meet
        exact ⟨by rw [belowB, decide_eq_true h1, Bool.true_and], rfl⟩
      · have h1' : decide (0 ≤ b) = false := by simpa using h1
        go_wp2_with fail
        go_meet
        exact ⟨by rw [belowB, h1']; rfl, rfl⟩
    case rest =>
      obtain ⟨rfl, rfl⟩ := hcut
      go_upto_region 4 with fail
      go_cut [11] from 44 to 52 (fun s9 wx => s9 = .bool (belowB c (ts.length : Nat)) ∧ W = wx)
      case first =>
        by_cases h1 : 0 ≤ c
        · go_wp2_with fail
          go_meet
          exact ⟨by rw [belowB, decide_eq_true h1, Bool.true_and], rfl⟩
        · have h1' : decide (0 ≤ c) = false := by simpa using h1
          go_wp2_with fail
          go_meet
          exact ⟨by rw [belowB, h1']; rfl, rfl⟩
      case rest =>
        obtain ⟨rfl, rfl⟩ := hcut
        generalize hba : belowB a (ts.length : Nat) = ba at *
        generalize hbb : belowB b (ts.length : Nat) = bb at *
        generalize hbc : belowB c (ts.length : Nat) = bc at *
        have Ha := hide hba
        have Hb := hide hbb
        have Hc := hide hbc
        clear hba hbb hbc
        have Hn : Hid (nextB ts cs ss ⟨1, a, b, c, d⟩ = (ba && (decide (b = 0) && decide (c = 0) && decide (d = 0)))) := by
          show _ = _
          rw [show nextB ts cs ss ⟨1, a, b, c, d⟩ = okR (ts.length : Nat) ⟨1, a, b, c, d⟩ by simp [nextB], okR, allLow_1, allNil_3, Ha.out]
        have Hs : Hid (nextS ts cs ss ⟨1, a, b, c, d⟩ = setR ⟨1, a, b, c, d⟩) := by show _ = _; simp [nextS]
        go_wp2_with fail
        refine (rWith_any none 0 [] ⟨a, a, false⟩ W (.inl rfl) (by simp)).mono ?_
        rintro e w1 ⟨oa, oc, rfl, hown1, hb1⟩
        have hB1 := hB.below hb1
        obtain ⟨p0', p1', q0', q1', q2', q3', q4'⟩ := hB1.cells
        simp only at q0' q1' q2' q3' q4'
        go_upto_region 17 with fail
        go_cut [6, 7] from 115 to 131 (fun s6 s7 wx => s6 = .slice oa (withL [] ⟨a, a, false⟩).length oc ∧ s7 = .bool (ba && (decide (b = 0) && decide (c = 0) && decide (d = 0))) ∧ ∃ n, wx = w1.drewN n)
        case first =>
          cases ba
          · go_quiet (fail)
            go_wp2_with fail
            go_meet
            exact ⟨rfl, rfl, _, rfl⟩
          · by_cases e1 : b = 0
            · subst e1
              by_cases e2 : c = 0
              · subst e2
                by_cases e3 : d = 0
                · subst e3
                  go_quiet (fail)
                  go_wp2_with fail
                  go_meet
                  exact ⟨rfl, rfl, _, rfl⟩
                · have e3' : (d == 0) = false := by simpa using e3
                  go_quiet (fail)
                  go_wp2_with fail
                  go_meet
                  exact ⟨rfl, by simp [e3], _, rfl⟩
              · have e2' : (c == 0) = false := by simpa using e2
                go_quiet (fail)
                go_wp2_with fail
                go_meet
                exact ⟨rfl, by simp [e2], _, rfl⟩
            · have e1' : (b == 0) = false := by simpa using e1
              go_quiet (fail)
              go_wp2_with fail
              go_meet
              exact ⟨rfl, by simp [e1], _, rfl⟩
        case rest =>
          obtain ⟨rfl, rfl, n0, rfl⟩ := hcut
          rw [← Hn.out]
          go_wp2_with fail
          go_ret2
          refine ⟨oa, _, oc, rfl, fun hok => ?_, below_drewN hB1.2.2 _⟩
          rw [Hn.out, Bool.and_eq_true] at hok
          have e := withL_nil (low_of (f := false) h9 (Ha.out.trans hok.1) (Ha.out.trans hok.1))
          rw [Hs.out]
          refine ⟨congrArg List.length e, ?_⟩
          rw [show lsCells (inOrd (setR ⟨1, a, b, c, d⟩).1 (setR ⟨1, a, b, c, d⟩).2) = lsCells (withL [] ⟨a, a, false⟩) from congrArg lsCells e.symm]
          exact own_base (own_below hown1 (below_drewN (Below.refl _ _) _)) hB.2.2.size
end Go.Proofs.Ytmampmbnjdncjaa
namespace Go.Proofs.Ytmampmbnjdncjaa
open Go.RowKit
set_option maxRecDepth 100000 in
set_option maxHeartbeats 8000000 in
set_option linter.unusedVariables false in
theorem one_trans_any (ta sa aa : Option Addr) (tc sc ac : Nat) (ts : List Tm) (cs qs : List Cl) (ss : List (Nat × Nat)) (s : St) (w : World) (ht : TermsAt w ta ts) (hcs : ClausesAt w sa cs) (hq : ClausesAt w aa qs) (hts : termsB ts = true) (hcl : clausesB ts.length cs = true)
    (hql : qs.length = ss.length) (hqi : ∀ i, i < ss.length → (qs.getD i cl0).ls = inOrd (ss.getD i (0, 0)).1 (ss.getD i (0, 0)).2) (hr : s.r = 2) :
    Calls Try.prog 75 #[.agg #[.slice ta ts.length tc, .slice sa cs.length sc], .agg #[.int .i64 s.r, .int .i64 s.a, .int .i64 s.b, .int .i64 s.c, .int .i64 s.d], .slice aa qs.length ac] w fun e w' => OneEnds w w' e (nextB ts cs ss s) (nextS ts cs ss s) := by
  have h9 := (len_of hts).2
  have Hts := hide hts
  have Hcl := hide hcl
  have Hqi := hide hqi
  have Hql := hide hql
  obtain ⟨r, a, b, c, d⟩ := s
  simp only at hr
  subst hr
  have hB := BX.start w (.slice ta ts.length tc) (.slice sa cs.length sc) ⟨2, a, b, c, d⟩
  go_enter Try.func75, Try.ntmps75
  go_upto_region 1 with fail
  simp only at hB
  generalize hW : (w.alloc _).alloc _ = W at *
  obtain ⟨p0, p1, q0, q1, q2, q3, q4⟩ := hB.cells
  simp only at q0 q1 q2 q3 q4
  clear hW hts hcl hqi hql
  go_upto_region 2 with fail
  go_cut [9] from 26 to 34 (fun s9 wx => s9 = .bool (belowB a (ts.length : Nat)) ∧ W = wx)
  case first =>
    by_cases h1 : 0 ≤ a
    · go_wp2_with fail
      go_meet
      exact ⟨by rw [belowB, decide_eq_true h1, Bool.true_and], rfl⟩
    · have h1' : decide (0 ≤ a) = false := by simpa using h1
      go_wp2_with fail
      go_meet
      exact ⟨by rw [belowB, h1']; rfl, rfl⟩
  case rest =>
    obtain ⟨rfl, rfl⟩ := hcut
    go_upto_region 3 with fail
    go_cut [10] from 35 to 43 (fun s9 wx => s9 = .bool (belowB b (ts.length : Nat)) ∧ W = wx)
    case first =>
      by_cases h1 : 0 ≤ b
      · go_wp2_with fail
        go_meet
        exact ⟨by rw [belowB, decide_eq_true h1, Bool.true_and], rfl⟩
      · have h1' : decide (0 ≤ b) = false := by simpa using h1
        go_wp2_with fail
        go_meet
        exact ⟨by rw [belowB, h1']; rfl, rfl⟩
    case rest =>
      obtain ⟨rfl, rfl⟩ := hcut
      go_upto_region 4 with fail
      go_cut [11] from 44 to 52 (fun s9 wx => s9 = .bool (belowB c (ts.length : Nat)) ∧ W = wx)
      case first =>
        by_cases h1 : 0 ≤ c
        · go_wp2_with fail
          go_meet
          exact ⟨by rw [belowB, decide_eq_true h1, Bool.true_and], rfl⟩
        · have h1' : decide (0 ≤ c) = false := by simpa using h1
          go_wp2_with fail
          go_meet
          exact ⟨by rw [belowB, h1']; rfl, rfl⟩
      case rest =>
        obtain ⟨rfl, rfl⟩ := hcut
        generalize hba : belowB a (ts.length : Nat) = ba at *
        generalize hbb : belowB b (ts.length : Nat) = bb at *
        generalize hbc : belowB c (ts.length : Nat) = bc at *
        have Ha := hide hba
        have Hb := hide hbb
        have Hc := hide hbc
        clear hba hbb hbc
        have Hn : Hid (nextB ts cs ss ⟨2, a, b, c, d⟩ = (ba && bb && bc && decide (d = 0))) := by
          show _ = _
          rw [show nextB ts cs ss ⟨2, a, b, c, d⟩ = okT (ts.length : Nat) ⟨2, a, b, c, d⟩ by simp [nextB], okT, allLow_3, allNil_1, Ha.out, Hb.out, Hc.out]
        have Hs : Hid (nextS ts cs ss ⟨2, a, b, c, d⟩ = setT ⟨2, a, b, c, d⟩) := by show _ = _; simp [nextS]
        go_wp2_with fail
        refine (rWith_any none 0 [] ⟨a, b, true⟩ W (.inl rfl) (by simp)).mono ?_
        rintro e w1 ⟨oa, oc, rfl, hown1, hb1⟩
        have hB1 := hB.below hb1
        have hl1 := withs_length [] ⟨a, b, true⟩
        have HL1 : Hid (withL [] ⟨a, b, true⟩ = withs [] [⟨a, b, true⟩]) := rfl
        generalize withL [] ⟨a, b, true⟩ = o1 at *
        obtain ⟨p0', p1', q0', q1', q2', q3', q4'⟩ := hB1.cells
        simp only at q0' q1' q2' q3' q4'
        go_wp2_with fail
        refine (rWith_any oa oc o1 ⟨b, c, true⟩ w1 (litsAt_of_own hown1) (by simp at hl1; omega)).mono ?_
        rintro e w2 ⟨oa2, oc2, rfl, hown2, hb2⟩
        have hB2 := hB1.below hb2
        have hl2 := withs_length o1 ⟨b, c, true⟩
        have HL2 : Hid (withL o1 ⟨b, c, true⟩ = withs [] [⟨a, b, true⟩, ⟨b, c, true⟩]) := by show _ = _; rw [HL1.out]; rfl
        generalize withL o1 ⟨b, c, true⟩ = o2 at *
        clear hown1 q0' q1' q2' q3' q4'
        obtain ⟨p0', p1', q0', q1', q2', q3', q4'⟩ := hB2.cells
        simp only at q0' q1' q2' q3' q4'
        go_wp2_with fail
        refine (rWith_any oa2 oc2 o2 ⟨a, c, false⟩ w2 (litsAt_of_own hown2) (by simp at hl1; omega)).mono ?_
        rintro e w3 ⟨oa3, oc3, rfl, hown3, hb3⟩
        have hB3 := hB2.below hb3
        have HL3 : Hid (withL o2 ⟨a, c, false⟩ = withs [] [⟨a, b, true⟩, ⟨b, c, true⟩, ⟨a, c, false⟩]) := by show _ = _; rw [HL2.out]; rfl
        generalize withL o2 ⟨a, c, false⟩ = o3 at *
        clear hown2 q0' q1' q2' q3' q4'
        obtain ⟨p0', p1', q0', q1', q2', q3', q4'⟩ := hB3.cells
        simp only at q0' q1' q2' q3' q4'
        go_upto_region 22 with fail
        go_cut [6, 7] from 155 to 167 (fun s6 s7 wx => s6 = .slice oa3 o3.length oc3 ∧ s7 = .bool (ba && bb && bc && decide (d = 0)) ∧ ∃ n, wx = w3.drewN n)
        case first =>
          cases ba
          · go_quiet (fail)
            go_wp2_with fail
            go_meet
            exact ⟨rfl, rfl, _, rfl⟩
          · cases bb
            · go_quiet (fail)
              go_wp2_with fail
              go_meet
              exact ⟨rfl, rfl, _, rfl⟩
            · cases bc
              · go_quiet (fail)
                go_wp2_with fail
                go_meet
                exact ⟨rfl, rfl, _, rfl⟩
              · by_cases e3 : d = 0
                · subst e3
                  go_quiet (fail)
                  go_wp2_with fail
                  go_meet
                  exact ⟨rfl, rfl, _, rfl⟩
                · have e3' : (d == 0) = false := by simpa using e3
                  go_quiet (fail)
                  go_wp2_with fail
                  go_meet
                  exact ⟨rfl, by simp [e3], _, rfl⟩
        case rest =>
          obtain ⟨rfl, rfl, n0, rfl⟩ := hcut
          rw [← Hn.out]
          go_wp2_with fail
          go_ret2
          refine ⟨oa3, _, oc3, rfl, fun hok => ?_, below_drewN hB3.2.2 _⟩
          rw [Hn.out, Bool.and_eq_true, Bool.and_eq_true, Bool.and_eq_true] at hok
          obtain ⟨⟨⟨k1, k2⟩, k3⟩, _⟩ := hok
          have e : o3 = inOrd (setT ⟨2, a, b, c, d⟩).1 (setT ⟨2, a, b, c, d⟩).2 := by
            have hw := withs_in [⟨a, b, true⟩, ⟨b, c, true⟩, ⟨a, c, false⟩] (0, 0) (fun u hu => ?_)
            · rw [inOrd_zero] at hw
              rw [HL3.out]; exact hw
            simp only [List.mem_cons, List.not_mem_nil, or_false] at hu
            rcases hu with rfl | rfl | rfl
            · exact low_of h9 (Ha.out.trans k1) (Hb.out.trans k2)
            · exact low_of h9 (Hb.out.trans k2) (Hc.out.trans k3)
            · exact low_of h9 (Ha.out.trans k1) (Hc.out.trans k3)
          rw [Hs.out, ← e]
          exact ⟨rfl, own_base (own_below hown3 (below_drewN (Below.refl _ _) _)) (by have := hB2.2.2.size; omega)⟩
end Go.Proofs.Ytmampmbnjdncjaa
namespace Go.Proofs.Ytmampmbnjdncjaa
open Go.RowKit
set_option maxRecDepth 100000 in
set_option maxHeartbeats 8000000 in
set_option linter.unusedVariables false in
theorem one_given_any (ta sa aa : Option Addr) (tc sc ac : Nat) (ts : List Tm) (cs qs : List Cl) (ss : List (Nat × Nat)) (s : St) (w : World) (ht : TermsAt w ta ts) (hcs : ClausesAt w sa cs) (hq : ClausesAt w aa qs) (hts : termsB ts = true) (hcl : clausesB ts.length cs = true)
    (hql : qs.length = ss.length) (hqi : ∀ i, i < ss.length → (qs.getD i cl0).ls = inOrd (ss.getD i (0, 0)).1 (ss.getD i (0, 0)).2) (hr : s.r = 0) :
    Calls Try.prog 75 #[.agg #[.slice ta ts.length tc, .slice sa cs.length sc], .agg #[.int .i64 s.r, .int .i64 s.a, .int .i64 s.b, .int .i64 s.c, .int .i64 s.d], .slice aa qs.length ac] w fun e w' => OneEnds w w' e (nextB ts cs ss s) (nextS ts cs ss s) := by
  have h9 := (len_of hts).2
  have Hts := hide hts
  have Hcl := hide hcl
  have Hqi := hide hqi
  have Hql := hide hql
  obtain ⟨r, a, b, c, d⟩ := s
  simp only at hr
  subst hr
  have hB := BX.start w (.slice ta ts.length tc) (.slice sa cs.length sc) ⟨0, a, b, c, d⟩
  go_enter Try.func75, Try.ntmps75
  go_upto_region 1 with fail
  simp only at hB
  generalize hW : (w.alloc _).alloc _ = W at *
  obtain ⟨p0, p1, q0, q1, q2, q3, q4⟩ := hB.cells
  simp only at q0 q1 q2 q3 q4
  clear hW hts hcl hqi hql
  go_upto_region 2 with fail
  go_cut [9] from 26 to 34 (fun s9 wx => s9 = .bool (belowB a (ts.length : Nat)) ∧ W = wx)
  case first =>
    by_cases h1 : 0 ≤ a
    · go_wp2_with fail
      go_meet
      exact ⟨by rw [belowB, decide_eq_true h1, Bool.true_and], rfl⟩
    · have h1' : decide (0 ≤ a) = false := by simpa using h1
      go_wp2_with fail
      go_meet
      exact ⟨by rw [belowB, h1']; rfl, rfl⟩
  case rest =>
    obtain ⟨rfl, rfl⟩ := hcut
    go_upto_region 3 with fail
    go_cut [10] from 35 to 43 (fun s9 wx => s9 = .bool (belowB b (ts.length : Nat)) ∧ W = wx)
    case first =>
      by_cases h1 : 0 ≤ b
      · go_wp2_with fail
        go_meet
        exact ⟨by rw [belowB, decide_eq_true h1, Bool.true_and], rfl⟩
      · have h1' : decide (0 ≤ b) = false := by simpa using h1
        go_wp2_with fail
        go_meet
        exact ⟨by rw [belowB, h1']; rfl, rfl⟩
    case rest =>
      obtain ⟨rfl, rfl⟩ := hcut
      go_upto_region 4 with fail
      go_cut [11] from 44 to 52 (fun s9 wx => s9 = .bool (belowB c (ts.length : Nat)) ∧ W = wx)
      case first =>
        by_cases h1 : 0 ≤ c
        · go_wp2_with fail
          go_meet
          exact ⟨by rw [belowB, decide_eq_true h1, Bool.true_and], rfl⟩
        · have h1' : decide (0 ≤ c) = false := by simpa using h1
          go_wp2_with fail
          go_meet
          exact ⟨by rw [belowB, h1']; rfl, rfl⟩
      case rest =>
        obtain ⟨rfl, rfl⟩ := hcut
        generalize hba : belowB a (ts.length : Nat) = ba at *
        generalize hbb : belowB b (ts.length : Nat) = bb at *
        generalize hbc : belowB c (ts.length : Nat) = bc at *
        have Ha := hide hba
        have Hb := hide hbb
        have Hc := hide hbc
        clear hba hbb hbc
        have Hn : Hid (nextB ts cs ss ⟨0, a, b, c, d⟩ = (belowB a (cs.length : Nat) && (decide (b = 0) && decide (c = 0) && decide (d = 0)))) := by
          show _ = _
          rw [show nextB ts cs ss ⟨0, a, b, c, d⟩ = okG (cs.length : Nat) ⟨0, a, b, c, d⟩ by simp [nextB], okG, allLow_1, allNil_3]
        have Hs : Hid (nextS ts cs ss ⟨0, a, b, c, d⟩ = setG cs ⟨0, a, b, c, d⟩) := by show _ = _; simp [nextS]
        go_upto_region 8 with fail
        go_cut [82] from 57 to 81 (fun s82 wx => s82 = .bool (!(belowB a (cs.length : Nat) && (decide (b = 0) && decide (c = 0) && decide (d = 0)))) ∧ W = wx)
        case first =>
          by_cases e0 : 0 ≤ a
          · by_cases e00 : a < (cs.length : Nat)
            · by_cases e1 : b = 0
              · subst e1
                by_cases e2 : c = 0
                · subst e2
                  by_cases e3 : d = 0
                  · subst e3
                    go_wp2_with fail
                    go_meet
                    exact ⟨by simp [belowB, e0, e00], rfl⟩
                  · have e3' : (d != 0) = true := by simpa using e3
                    go_wp2_with fail
                    go_meet
                    exact ⟨by simp [e3], rfl⟩
                · have e2' : (c != 0) = true := by simpa using e2
                  go_wp2_with fail
                  go_meet
                  exact ⟨by simp [e2], rfl⟩
              · have e1' : (b != 0) = true := by simpa using e1
                go_wp2_with fail
                go_meet
                exact ⟨by simp [e1], rfl⟩
            · have e4 : (cs.length : Int) ≤ a := by omega
              go_wp2_with fail
              go_meet
              exact ⟨by simp [belowB, e00], rfl⟩
          · have e4 : a < 0 := by omega
            go_wp2_with fail
            go_meet
            exact ⟨by simp [belowB, e0], rfl⟩
        case rest =>
          obtain ⟨rfl, rfl⟩ := hcut
          rw [← Hn.out]
          cases hnb : nextB ts cs ss ⟨0, a, b, c, d⟩
          · go_wp2_with fail
            go_ret2
            exact ⟨none, 0, 0, (by rw [hnb]; rfl), (fun h => absurd (hnb.symm.trans h) (by decide)), hB.2.2⟩
          · have Hnb := hide hnb
            rw [Hn.out, Bool.and_eq_true] at hnb
            have ha := belowB_iff.1 hnb.1
            obtain ⟨na, hna⟩ := Int.eq_ofNat_of_zero_le ha.1
            subst hna
            have hna : na < cs.length := by omega
            have hlow := clow_of Hts.out Hcl.out na hna
            have Hlow := hide hlow.2
            have hl6 := hlow.1
            have Hset : Hid (setG cs ⟨0, (na : Int), b, c, d⟩ = ofL (cs.getD na cl0).ls (0, 0)) := rfl
            clear hlow hnb Hn ha
            obtain ⟨sb, so, rfl, ccell⟩ := hcs.get hna
            obtain ⟨c1, c2⟩ := ccell na hna
            clear ccell
            generalize cs.getD na cl0 = q at *
            obtain ⟨qa, qcap, ls⟩ := q
            simp only at c1 c2 Hlow hl6 Hset
            have hown0 : W.ownsRow w.heap.size 50 3 (.slice none 0 0) 0 (lsCells []) := ⟨rfl, .inl ⟨rfl, rfl⟩⟩
            clear p0 p1 q0 q1 q2 q3 q4
            go_wp2_with fail
            go_loopg [12, 13] ls.length (fun q v s13 wx => ∃ (i : Nat) (out : List Lt), q = ls.length - i ∧ i ≤ ls.length ∧ s13 = .int .i64 i ∧ Hid (out = withs [] (ls.take i)) ∧ BX w (.slice ta ts.length tc) (.slice (some ⟨sb, so, none⟩) cs.length sc) ⟨0, (na : Int), b, c, d⟩ wx ∧ wx.ownsRow w.heap.size 50 3 v out.length (lsCells out))
            case atStart => exact ⟨0, [], by omega, by omega, rfl, rfl, hB, hown0⟩
            case round =>
              obtain ⟨i, out, rfl, hi, rfl, Ho, hBr, hown⟩ := hrel
              obtain ⟨va, vc, rfl⟩ := own_val hown
              obtain ⟨p0, p1, q0, q1, q2, q3, q4⟩ := hBr.cells
              simp only at q0 q1 q2 q3 q4
              have c1' := cell_below hBr.2.2 c1
              have c2' := c2.below hBr.2.2
              have hol : out.length ≤ 6 := by
                have h1 := withs_le (ls.take i) []
                rw [← Ho.out, List.length_take] at h1
                simp at h1
                omega
              by_cases hlt : i < ls.length
              · obtain ⟨lb, lo, hla, lcell⟩ := c2'.get hlt
                obtain ⟨x0, x1, x2⟩ := lcell i hlt
                subst hla
                have Hst : Hid (withL out (ls.getD i lt0) = withs [] (ls.take (i + 1))) := by
                  show _ = _
                  rw [take_snoc hlt, withs_snoc, ← Ho.out]
                generalize ls.getD i lt0 = t at *
                clear lcell c2'
                go_wp2_with fail
                refine (rWith_any va vc out t wr (litsAt_of_own hown) (by omega)).mono ?_
                rintro e w1 ⟨oa, oc, rfl, hown1, hb1⟩
                have hB1 := hBr.below hb1
                have hs1 := hBr.2.2.size
                clear x0 x1 x2 c1'
                go_wp2_with fail
                go_roundg (ls.length - (i + 1))
                case measure => omega
                case rel => exact ⟨i + 1, _, rfl, by omega, by go_num, Hst, hB1, own_base hown1 hs1⟩
              · have e : ls.take i = ls := List.take_of_length_le (by omega)
                rw [e] at Ho
                clear e
                go_wp2_with fail
                go_ret2
                refine ⟨va, _, vc, by rw [Hnb.out]; rfl, fun _ => ?_, hBr.2.2⟩
                rw [Hs.out, Hset.out, ← withs_all Hlow.out, ← Ho.out]
                exact ⟨rfl, hown⟩
end Go.Proofs.Ytmampmbnjdncjaa
