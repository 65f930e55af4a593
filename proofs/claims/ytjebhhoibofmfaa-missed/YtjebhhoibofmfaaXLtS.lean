import Derived.Test.YtjebhhoibofmfaaXLtR
namespace Go.Proofs.Ytjebhhoibofmfaa
open Go.RowKit

theorem followL_lt {ts : List Tm} {cs : List Cl} (hts : termsB ts = true) (hcl : clausesB ts.length cs = true) : ∀ (sts : List St) (ss : List (Nat × Nat)), (∀ p ∈ ss, p.1 < 18446744073709551616 ∧ p.2 < 18446744073709551616) →
    ∀ p ∈ followL ts cs sts ss, p.1 < 18446744073709551616 ∧ p.2 < 18446744073709551616
  | [], _, h => h
  | s :: l, ss, h => by
    unfold followL
    split
    · rename_i hn
      refine followL_lt hts hcl l _ ?_
      intro p hp
      rcases List.mem_append.1 hp with h1 | h1
      · exact h p h1
      · simp at h1; rw [h1]; exact next_lt hts hcl h hn
    · exact h

theorem of_refuse {ts : List Tm} {cs : List Cl} (he : refuseI ts cs = 0) : termsB ts = true ∧ clausesB ts.length cs = true := by
  have hts : termsB ts = true := by cases h : termsB ts; simp [refuseI, h] at he; rfl
  have hcl : clausesB ts.length cs = true := by cases h : clausesB ts.length cs; simp [refuseI, hts, h] at he; rfl
  exact ⟨hts, hcl⟩

theorem lastS_mem {L : List (Nat × Nat)} : lastS L = (0, 0) ∨ lastS L ∈ L := by
  unfold lastS
  rw [List.getLastD_eq_getLast?]
  cases h : L.getLast? with
  | none => exact .inl rfl
  | some p => exact .inr (List.mem_of_getLast? h)

theorem folS_lt (ts : List Tm) (cs : List Cl) (sts : List St) : (folS ts cs sts).1 < 18446744073709551616 ∧ (folS ts cs sts).2 < 18446744073709551616 := by
  unfold folS
  split
  · rename_i he
    split
    · decide
    · rcases lastS_mem (L := followL ts cs sts []) with h | h
      · rw [h]; decide
      · exact followL_lt (of_refuse he).1 (of_refuse he).2 sts [] (fun p hp => by cases hp) _ h
  · decide

/-- equalproof.Check -/
def chkE (ts : List Tm) (cs : List Cl) (sts : List St) : Int := if folE ts cs sts = 0 then if folN ts cs sts = 0 then 5 else if emptyB (folS ts cs sts).1 (folS ts cs sts).2 then 0 else 5 else folE ts cs sts

theorem ret_ii {x y x' y' : Int} (hx : x = x') (hy : y = y') : Ending.returned (.tuple #[.int .i64 x, .int .i64 y]) = .returned (.tuple #[.int .i64 x', .int .i64 y']) := by rw [hx, hy]

set_option maxRecDepth 100000 in
set_option maxHeartbeats 1000000 in
theorem check_any (ta sa la : Option Addr) (tc sc lc : Nat) (ts : List Tm) (cs : List Cl) (sts : List St) (w : World) (ht : TermsAt w ta ts) (hcs : ClausesAt w sa cs) (hst : StepsAt w la sts) (hlen : sts.length ≤ 3518437208883) :
    Calls Try.prog 15 #[.agg #[.slice ta ts.length tc, .slice sa cs.length sc], .slice la sts.length lc] w fun e w' =>
      e = .returned (.tuple #[.int .i64 (folN ts cs sts), .int .i64 (chkE ts cs sts)]) ∧ Below w.heap.size w w' := by
  have hb0 := below_alloc w (.cells #[.slice ta ts.length tc, .slice sa cs.length sc] 33)
  have hcon := fol_any ta sa la tc sc lc ts cs sts _ (ht.below hb0) (hcs.below hb0) (hst.below hb0) hlen
  have Hcon := hide hcon
  have HE : Hid (chkE ts cs sts = if folE ts cs sts = 0 then if folN ts cs sts = 0 then 5 else if emptyB (folS ts cs sts).1 (folS ts cs sts).2 then 0 else 5 else folE ts cs sts) := rfl
  clear hcon
  go_enter Try.func15, Try.ntmps15
  go_wp2_with fail
  refine Hcon.out.mono ?_
  rintro e w1 ⟨rfl, hb⟩
  have hb1 : Below w.heap.size w w1 := hb0.trans (hb.mono hb0.size)
  clear Hcon hb hb0
  generalize hE : folE ts cs sts = E at *
  generalize hN : folN ts cs sts = N at *
  generalize folS ts cs sts = q at *
  obtain ⟨q1, q2⟩ := q
  have HN := hide hN
  clear hE hN
  by_cases h1 : E = 0
  · subst h1
    by_cases h2 : N = 0
    · subst h2
      have HE' := hide (HE.out.trans ((if_pos rfl).trans (if_pos rfl)))
      go_wp2_with fail
      go_ret2
      exact ⟨ret_ii HN.out.symm HE'.out.symm, hb1.trans ((below_alloc w1 _).mono hb1.size)⟩
    · have HE1 := hide (HE.out.trans ((if_pos rfl).trans (if_neg h2)))
      have hb2 : (N == 0) = false := by simp [h2]
      clear h2
      go_wp2_with fail
      refine (isEmpty_any q1 q2 _).mono ?_
      rintro e w2 ⟨rfl, hb3⟩
      have hb4 : Below w.heap.size w w2 := (hb1.trans ((below_alloc w1 _).mono hb1.size)).trans (hb3.mono (by have := hb1.size; simp; omega))
      cases hem : emptyB q1 q2
      · have HE2 : Hid (chkE ts cs sts = 5) := by show _ = _; rw [HE1.out, hem]; rfl
        go_wp2_with fail
        go_ret2
        exact ⟨ret_ii HN.out.symm HE2.out.symm, hb4⟩
      · have HE2 : Hid (chkE ts cs sts = 0) := by show _ = _; rw [HE1.out, hem]; rfl
        go_wp2_with fail
        go_ret2
        exact ⟨ret_ii HN.out.symm HE2.out.symm, hb4⟩
  · have HE1 := hide (HE.out.trans (if_neg h1))
    have hbe : (E != 0) = true := by simp [h1]
    clear h1
    go_wp2_with fail
    go_ret2
    exact ⟨ret_ii HN.out.symm HE1.out.symm, hb1.trans ((below_alloc w1 _).mono hb1.size)⟩

/-- equalproof.Clause -/
def clsE (ts : List Tm) (cs : List Cl) (sts : List St) : Int := if folE ts cs sts = 0 then if folN ts cs sts = 0 then 5 else 0 else folE ts cs sts
def clsN (ts : List Tm) (cs : List Cl) (sts : List St) : Int := if folE ts cs sts = 0 then if folN ts cs sts = 0 then 0 else folN ts cs sts - 1 else folN ts cs sts
def clsL (ts : List Tm) (cs : List Cl) (sts : List St) : List Lt := if clsE ts cs sts = 0 then inOrd (folS ts cs sts).1 (folS ts cs sts).2 else []

theorem folN_bd (ts : List Tm) (cs : List Cl) (sts : List St) : 0 ≤ folN ts cs sts ∧ folN ts cs sts ≤ sts.length := by
  have hl : ∀ (sts : List St) (ss : List (Nat × Nat)), (followL ts cs sts ss).length ≤ ss.length + sts.length := by
    intro sts
    induction sts with
    | nil => intro ss; simp [followL]
    | cons s l ih =>
      intro ss
      unfold followL
      split
      · have := ih (ss ++ [nextS ts cs ss s]); simp at this ⊢; omega
      · simp
  unfold folN
  have := hl sts []
  split
  · simp at this; omega
  · omega

set_option maxRecDepth 100000 in
set_option maxHeartbeats 1000000 in
theorem clause_any (ta sa la : Option Addr) (tc sc lc : Nat) (ts : List Tm) (cs : List Cl) (sts : List St) (w : World) (ht : TermsAt w ta ts) (hcs : ClausesAt w sa cs) (hst : StepsAt w la sts) (hlen : sts.length ≤ 3518437208883) :
    Calls Try.prog 28 #[.agg #[.slice ta ts.length tc, .slice sa cs.length sc], .slice la sts.length lc] w fun e w' => ∃ va vc,
      e = .returned (.tuple #[.slice va (clsL ts cs sts).length vc, .int .i64 (clsN ts cs sts), .int .i64 (clsE ts cs sts)]) ∧ w'.ownsRow w.heap.size 50 3 (.slice va (clsL ts cs sts).length vc) (clsL ts cs sts).length (lsCells (clsL ts cs sts)) ∧
      (clsE ts cs sts ≠ 0 → va = none ∧ vc = 0) ∧ Below w.heap.size w w' := by
  have hb0 := below_alloc w (.cells #[.slice ta ts.length tc, .slice sa cs.length sc] 33)
  have hcon := fol_any ta sa la tc sc lc ts cs sts _ (ht.below hb0) (hcs.below hb0) (hst.below hb0) hlen
  have Hcon := hide hcon
  have HE : Hid (clsE ts cs sts = if folE ts cs sts = 0 then if folN ts cs sts = 0 then 5 else 0 else folE ts cs sts) := rfl
  have HN : Hid (clsN ts cs sts = if folE ts cs sts = 0 then if folN ts cs sts = 0 then 0 else folN ts cs sts - 1 else folN ts cs sts) := rfl
  have HL : Hid (clsL ts cs sts = if clsE ts cs sts = 0 then inOrd (folS ts cs sts).1 (folS ts cs sts).2 else []) := rfl
  have hq64 := folS_lt ts cs sts
  have hNb := folN_bd ts cs sts
  clear hcon
  go_enter Try.func28, Try.ntmps28
  go_wp2_with fail
  refine Hcon.out.mono ?_
  rintro e w1 ⟨rfl, hb⟩
  have hb1 : Below w.heap.size w w1 := hb0.trans (hb.mono hb0.size)
  clear Hcon hb hb0
  generalize hE : folE ts cs sts = E at *
  generalize hNN : folN ts cs sts = N at *
  generalize folS ts cs sts = q at *
  obtain ⟨q1, q2⟩ := q
  clear hE hNN
  by_cases h1 : E = 0
  · subst h1
    by_cases h2 : N = 0
    · subst h2
      have HE' := hide (HE.out.trans ((if_pos rfl).trans (if_pos rfl)))
      have HN' := hide (HN.out.trans ((if_pos rfl).trans (if_pos rfl)))
      have HL' : Hid (clsL ts cs sts = []) := by show _ = _; rw [HL.out, HE'.out]; rfl
      go_wp2_with fail
      refine bodyPost_ret (v := .tuple #[.slice none 0 0, .int .i64 0, .int .i64 5]) (by simp [results, Try.results28, go_sem]) rfl ?_
      rw [HE'.out, HN'.out, HL'.out]
      exact ⟨none, 0, rfl, World.ownsRow_nil _ _ _ _, fun _ => ⟨rfl, rfl⟩, hb1.trans ((below_alloc w1 _).mono hb1.size)⟩
    · have HE1 := hide (HE.out.trans ((if_pos rfl).trans (if_neg h2)))
      have HN1 := hide (HN.out.trans ((if_pos rfl).trans (if_neg h2)))
      have HL1 : Hid (clsL ts cs sts = inOrd q1 q2) := by show _ = _; rw [HL.out, HE1.out]; rfl
      have hb2 : (N == 0) = false := by simp [h2]
      clear h2
      go_wp2_with fail
      refine (inOrder_any q1 q2 _ hq64.1 hq64.2).mono ?_
      rintro e w2 ⟨va, vc, rfl, hown, hb3⟩
      have hb4 : Below w.heap.size w w2 := (hb1.trans ((below_alloc w1 _).mono hb1.size)).trans (hb3.mono (by have := hb1.size; simp; omega))
      have hown' := own_base hown (show w.heap.size ≤ _ by have := hb1.size; simp; omega)
      clear hown hb3
      generalize inOrd q1 q2 = out at *
      go_wp2_with fail
      refine bodyPost_ret (v := .tuple #[.slice va out.length vc, .int .i64 (N - 1), .int .i64 0]) (by simp [results, Try.results28, go_sem]) rfl ?_
      rw [HE1.out, HN1.out, HL1.out]
      exact ⟨va, vc, rfl, hown', fun h => absurd rfl h, hb4⟩
  · have HE1 := hide (HE.out.trans (if_neg h1))
    have HN1 := hide (HN.out.trans (if_neg h1))
    have HL1 : Hid (clsL ts cs sts = []) := by show _ = _; rw [HL.out, HE1.out, if_neg h1]
    have hbe : (E != 0) = true := by simp [h1]
    clear h1
    go_wp2_with fail
    refine bodyPost_ret (v := .tuple #[.slice none 0 0, .int .i64 N, .int .i64 E]) (by simp [results, Try.results28, go_sem]) rfl ?_
    rw [HE1.out, HN1.out, HL1.out]
    exact ⟨none, 0, rfl, World.ownsRow_nil _ _ _ _, fun _ => ⟨rfl, rfl⟩, hb1.trans ((below_alloc w1 _).mono hb1.size)⟩
end Go.Proofs.Ytjebhhoibofmfaa
