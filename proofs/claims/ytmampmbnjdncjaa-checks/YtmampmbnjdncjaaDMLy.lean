import Derived.Test.YtmampmbnjdncjaaDMLx
import Derived.Test.YtmampmbnjdncjaaDXLtQ
import Derived.Test.YtmampmbnjdncjaaDXLtL
namespace Go.Proofs.Ytmampmbnjdncjaa
open Go.RowKit
theorem cutHolds : CutHolds := fun n sa sc ss s w hn hss h64 => cut_any n sa sc ss s w hn hss h64
def folE (ts : List Tm) (cs : List Cl) (sts : List St) : Int := if refuseI ts cs = 0 then if (followL ts cs sts []).length < sts.length then 4 else 0 else refuseI ts cs
def folN (ts : List Tm) (cs : List Cl) (sts : List St) : Int := if refuseI ts cs = 0 then ((followL ts cs sts []).length : Nat) else 0
def folS (ts : List Tm) (cs : List Cl) (sts : List St) : Nat × Nat := if refuseI ts cs = 0 then if (followL ts cs sts []).length < sts.length then (0, 0) else lastS (followL ts cs sts []) else (0, 0)
set_option maxRecDepth 100000 in
set_option maxHeartbeats 1000000 in
theorem fol_any (ta sa la : Option Addr) (tc sc lc : Nat) (ts : List Tm) (cs : List Cl) (sts : List St) (w : World) (ht : TermsAt w ta ts) (hcs : ClausesAt w sa cs) (hst : StepsAt w la sts) (hlen : sts.length ≤ 3518437208883) :
    Calls Try.prog 40 #[.agg #[.slice ta ts.length tc, .slice sa cs.length sc], .slice la sts.length lc] w fun e w' =>
      e = .returned (.tuple #[.agg #[.int .u64 (folS ts cs sts).1, .int .u64 (folS ts cs sts).2], .int .i64 (folN ts cs sts), .int .i64 (folE ts cs sts)]) ∧ Below w.heap.size w w' := by
  obtain ⟨W, hW⟩ : ∃ W, W = (w.alloc (.cells #[.slice ta ts.length tc, .slice sa cs.length sc] 33)).alloc (.cells #[.int .u64 0, .int .u64 0] 80) := ⟨_, rfl⟩
  have hs2 : W.heap.size = w.heap.size + 1 + 1 := by rw [hW]; simp
  have p0 : W.cell? ⟨w.heap.size, 0, none⟩ = some (.slice ta ts.length tc) := by rw [hW]; simp
  have p1 : W.cell? ⟨w.heap.size, 1, none⟩ = some (.slice sa cs.length sc) := by rw [hW]; simp
  have r0 : W.cell? ⟨w.heap.size + 1, 0, none⟩ = some (.int .u64 0) := by rw [hW]; simp
  have r1 : W.cell? ⟨w.heap.size + 1, 1, none⟩ = some (.int .u64 0) := by rw [hW]; simp
  have f0 : W.frozen? ⟨w.heap.size + 1, 0, none⟩ = false := by rw [hW]; simp
  have f1 : W.frozen? ⟨w.heap.size + 1, 1, none⟩ = false := by rw [hW]; simp
  have hb0 : Below w.heap.size w W := by rw [hW]; exact ((Below.refl _ _).alloc (Nat.le_refl _) _).alloc (by simp) _
  go_enter Try.func40, Try.ntmps40
  go_upto_region 1 with fail
  rw [← hW]
  clear hW
  generalize hB : w.heap.size = B at *
  have HB := hide hB
  have hbw : Below w.heap.size w W := by rw [hB]; exact hb0
  have ht1 := ht.below hbw
  have hcs1 := hcs.below hbw
  have hst1 := hst.below hbw
  clear hB hbw
  go_wp2_with fail
  refine (refuse_any ta sa tc sc ts cs _ ht1 hcs1).mono ?_
  rintro e w1 ⟨rfl, hb⟩
  have hB1 : B + 1 < W.heap.size := by omega
  replace p0 := cell_below hb p0
  replace p1 := cell_below hb p1
  replace r0 := cell_below hb r0
  replace r1 := cell_below hb r1
  replace f0 := frozen_below hb hB1 f0
  replace f1 := frozen_below hb hB1 f1
  have hb1 : Below B w w1 := hb0.trans (hb.mono (by omega))
  have hs1 : B + 1 < w1.heap.size := by have := hb.size; omega
  have ht2 := ht1.below hb
  have hcs2 := hcs1.below hb
  have hst2 := hst1.below hb
  clear hb hb0 ht1 hcs1 hst1 hB1 hs2
  by_cases he : refuseI ts cs = 0
  · have hbe : (refuseI ts cs != 0) = false := by simp [he]
    have hts : termsB ts = true := by cases h : termsB ts; simp [refuseI, h] at he; rfl
    have hcl : clausesB ts.length cs = true := by cases h : clausesB ts.length cs; simp [refuseI, hts, h] at he; rfl
    have He := hide he
    have hcon := followS_any cutHolds ta sa la tc sc lc ts cs sts w1 ht2 hcs2 hst2 hts hcl hlen
    have Hcon := hide hcon
    clear he hts hcl hcon
    go_wp2_with fail
    refine Hcon.out.mono ?_
    rintro e w2 ⟨rfl, hb⟩
    replace r0 := cell_below hb r0
    replace r1 := cell_below hb r1
    replace f0 := frozen_below hb hs1 f0
    replace f1 := frozen_below hb hs1 f1
    have hb2 : Below B w w2 := hb1.trans (hb.mono (by omega))
    have hs2 : B + 1 < w2.heap.size := by have := hb.size; omega
    have HE : Hid (folE ts cs sts = if (followL ts cs sts []).length < sts.length then 4 else 0) := by show _ = _; unfold folE; rw [if_pos He.out]
    have HN : Hid (folN ts cs sts = ((followL ts cs sts []).length : Nat)) := by show _ = _; unfold folN; rw [if_pos He.out]
    have HS : Hid (folS ts cs sts = if (followL ts cs sts []).length < sts.length then (0, 0) else lastS (followL ts cs sts [])) := by show _ = _; unfold folS; rw [if_pos He.out]
    clear hb hb1 hs1 ht2 hcs2 hst2 Hcon hbe p0 p1
    generalize followL ts cs sts [] = L at *
    obtain ⟨W3, hW3⟩ : ∃ W3, W3 = w2.alloc (.cells #[.int .u64 (lastS L).1, .int .u64 (lastS L).2] 80) := ⟨_, rfl⟩
    have hb3 : Below w2.heap.size w2 W3 := by rw [hW3]; exact below_alloc _ _
    have t0 : W3.cell? ⟨w2.heap.size, 0, none⟩ = some (.int .u64 (lastS L).1) := by rw [hW3]; simp
    have t1 : W3.cell? ⟨w2.heap.size, 1, none⟩ = some (.int .u64 (lastS L).2) := by rw [hW3]; simp
    replace r0 := cell_below hb3 r0
    replace r1 := cell_below hb3 r1
    replace f0 := frozen_below hb3 hs2 f0
    replace f1 := frozen_below hb3 hs2 f1
    have hb4 : Below B w W3 := hb2.trans (hb3.mono (by omega))
    go_upto_region 5 with fail
    rw [← hW3]
    clear hW3 hb2 hb3
    by_cases hl : L.length < sts.length
    · have HE' := hide (HE.out.trans (if_pos hl))
      have HS' := hide (HS.out.trans (if_pos hl))
      go_wp2_with fail
      exact bodyPost_ret (v := .tuple #[.agg #[.int .u64 0, .int .u64 0], .int .i64 L.length, .int .i64 4]) (by simp [results, Try.results40, go_sem, r0, r1]) rfl
        ⟨by rw [HE'.out, HS'.out, HN.out]; rfl, by rw [HB.out]; exact (hb4.setCell (p := ⟨B + 1, 0, none⟩) (by show B ≤ B + 1; omega) _).setCell (p := ⟨B + 1, 1, none⟩) (by show B ≤ B + 1; omega) _⟩
    · have HE' := hide (HE.out.trans (if_neg hl))
      have HS' := hide (HS.out.trans (if_neg hl))
      generalize hq : lastS L = q at *
      obtain ⟨q1, q2⟩ := q
      go_wp2_with fail
      exact bodyPost_ret (v := .tuple #[.agg #[.int .u64 q1, .int .u64 q2], .int .i64 L.length, .int .i64 0]) (by simp [results, Try.results40, go_sem, set_same r0, set_other, r1]) rfl
        ⟨by rw [HE'.out, HS'.out, HN.out], by rw [HB.out]; exact (hb4.setCell (p := ⟨B + 1, 0, none⟩) (by show B ≤ B + 1; omega) _).setCell (p := ⟨B + 1, 1, none⟩) (by show B ≤ B + 1; omega) _⟩
  · have hbe : (refuseI ts cs != 0) = true := by simp [he]
    have HE : Hid (folE ts cs sts = refuseI ts cs) := by show _ = _; unfold folE; rw [if_neg he]
    have HN : Hid (folN ts cs sts = 0) := by show _ = _; unfold folN; rw [if_neg he]
    have HS : Hid (folS ts cs sts = (0, 0)) := by show _ = _; unfold folS; rw [if_neg he]
    clear he
    generalize refuseI ts cs = r at *
    go_wp2_with fail
    exact bodyPost_ret (v := .tuple #[.agg #[.int .u64 0, .int .u64 0], .int .i64 0, .int .i64 r]) (by simp [results, Try.results40, go_sem, r0, r1]) rfl
      ⟨by rw [HE.out, HS.out, HN.out]; rfl, by rw [HB.out]; exact (hb1.setCell (p := ⟨B + 1, 0, none⟩) (by show B ≤ B + 1; omega) _).setCell (p := ⟨B + 1, 1, none⟩) (by show B ≤ B + 1; omega) _⟩
end Go.Proofs.Ytmampmbnjdncjaa
namespace Go.Proofs.Ytmampmbnjdncjaa
open Go.RowKit
theorem followL_lt {ts : List Tm} {cs : List Cl} (hts : termsB ts = true) (hcl : clausesB ts.length cs = true) : ∀ (sts : List St) (ss : List (Nat × Nat)), (∀ p ∈ ss, p.1 < 18446744073709551616 ∧ p.2 < 18446744073709551616) →
    ∀ p ∈ followL ts cs sts ss, p.1 < 18446744073709551616 ∧ p.2 < 18446744073709551616
  | [], _, h => h
  | s :: l, ss, h => by
    unfold followL
    split
    · rename_i hn
      refine followL_lt hts hcl l _ ?_
      intro p hp
      rcases List.mem_append.1 hp with h1 | h1
      · exact h p h1
      · simp at h1; rw [h1]; exact next_lt hts hcl h hn
    · exact h
theorem of_refuse {ts : List Tm} {cs : List Cl} (he : refuseI ts cs = 0) : termsB ts = true ∧ clausesB ts.length cs = true := by
  have hts : termsB ts = true := by cases h : termsB ts; simp [refuseI, h] at he; rfl
  have hcl : clausesB ts.length cs = true := by cases h : clausesB ts.length cs; simp [refuseI, hts, h] at he; rfl
  exact ⟨hts, hcl⟩
theorem lastS_mem {L : List (Nat × Nat)} : lastS L = (0, 0) ∨ lastS L ∈ L := by
  unfold lastS
  rw [List.getLastD_eq_getLast?]
  cases h : L.getLast? with
  | none => exact .inl rfl
  | some p => exact .inr (List.mem_of_getLast? h)
theorem folS_lt (ts : List Tm) (cs : List Cl) (sts : List St) : (folS ts cs sts).1 < 18446744073709551616 ∧ (folS ts cs sts).2 < 18446744073709551616 := by
  unfold folS
  split
  · rename_i he
    split
    · decide
    · rcases lastS_mem (L := followL ts cs sts []) with h | h
      · rw [h]; decide
      · exact followL_lt (of_refuse he).1 (of_refuse he).2 sts [] (fun p hp => by cases hp) _ h
  · decide
def chkE (ts : List Tm) (cs : List Cl) (sts : List St) : Int := if folE ts cs sts = 0 then if folN ts cs sts = 0 then 5 else if emptyB (folS ts cs sts).1 (folS ts cs sts).2 then 0 else 5 else folE ts cs sts
theorem ret_ii {x y x' y' : Int} (hx : x = x') (hy : y = y') : Ending.returned (.tuple #[.int .i64 x, .int .i64 y]) = .returned (.tuple #[.int .i64 x', .int .i64 y']) := by rw [hx, hy]
set_option maxRecDepth 100000 in
set_option maxHeartbeats 1000000 in
theorem check_any (ta sa la : Option Addr) (tc sc lc : Nat) (ts : List Tm) (cs : List Cl) (sts : List St) (w : World) (ht : TermsAt w ta ts) (hcs : ClausesAt w sa cs) (hst : StepsAt w la sts) (hlen : sts.length ≤ 3518437208883) :
    Calls Try.prog 14 #[.agg #[.slice ta ts.length tc, .slice sa cs.length sc], .slice la sts.length lc] w fun e w' =>
      e = .returned (.tuple #[.int .i64 (folN ts cs sts), .int .i64 (chkE ts cs sts)]) ∧ Below w.heap.size w w' := by
  have hb0 := below_alloc w (.cells #[.slice ta ts.length tc, .slice sa cs.length sc] 33)
  have hcon := fol_any ta sa la tc sc lc ts cs sts _ (ht.below hb0) (hcs.below hb0) (hst.below hb0) hlen
  have Hcon := hide hcon
  have HE : Hid (chkE ts cs sts = if folE ts cs sts = 0 then if folN ts cs sts = 0 then 5 else if emptyB (folS ts cs sts).1 (folS ts cs sts).2 then 0 else 5 else folE ts cs sts) := rfl
  clear hcon
  go_enter Try.func14, Try.ntmps14
  go_wp2_with fail
  refine Hcon.out.mono ?_
  rintro e w1 ⟨rfl, hb⟩
  have hb1 : Below w.heap.size w w1 := hb0.trans (hb.mono hb0.size)
  clear Hcon hb hb0
  generalize hE : folE ts cs sts = E at *
  generalize hN : folN ts cs sts = N at *
  generalize folS ts cs sts = q at *
  obtain ⟨q1, q2⟩ := q
  have HN := hide hN
  clear hE hN
  by_cases h1 : E = 0
  · subst h1
    by_cases h2 : N = 0
    · subst h2
      have HE' := hide (HE.out.trans ((if_pos rfl).trans (if_pos rfl)))
      go_wp2_with fail
      go_ret2
      exact ⟨ret_ii HN.out.symm HE'.out.symm, hb1.trans ((below_alloc w1 _).mono hb1.size)⟩
    · have HE1 := hide (HE.out.trans ((if_pos rfl).trans (if_neg h2)))
      have hb2 : (N == 0) = false := by simp [h2]
      clear h2
      go_wp2_with fail
      refine (isEmpty_any q1 q2 _).mono ?_
      rintro e w2 ⟨rfl, hb3⟩
      have hb4 : Below w.heap.size w w2 := (hb1.trans ((below_alloc w1 _).mono hb1.size)).trans (hb3.mono (by have := hb1.size; simp; omega))
      cases hem : emptyB q1 q2
      · have HE2 : Hid (chkE ts cs sts = 5) := by show _ = _; rw [HE1.out, hem]; rfl
        go_wp2_with fail
        go_ret2
        exact ⟨ret_ii HN.out.symm HE2.out.symm, hb4⟩
      · have HE2 : Hid (chkE ts cs sts = 0) := by show _ = _; rw [HE1.out, hem]; rfl
        go_wp2_with fail
        go_ret2
        exact ⟨ret_ii HN.out.symm HE2.out.symm, hb4⟩
  · have HE1 := hide (HE.out.trans (if_neg h1))
    have hbe : (E != 0) = true := by simp [h1]
    clear h1
    go_wp2_with fail
    go_ret2
    exact ⟨ret_ii HN.out.symm HE1.out.symm, hb1.trans ((below_alloc w1 _).mono hb1.size)⟩
def clsE (ts : List Tm) (cs : List Cl) (sts : List St) : Int := if folE ts cs sts = 0 then if folN ts cs sts = 0 then 5 else 0 else folE ts cs sts
def clsN (ts : List Tm) (cs : List Cl) (sts : List St) : Int := if folE ts cs sts = 0 then if folN ts cs sts = 0 then 0 else folN ts cs sts - 1 else folN ts cs sts
def clsL (ts : List Tm) (cs : List Cl) (sts : List St) : List Lt := if clsE ts cs sts = 0 then inOrd (folS ts cs sts).1 (folS ts cs sts).2 else []
theorem folN_bd (ts : List Tm) (cs : List Cl) (sts : List St) : 0 ≤ folN ts cs sts ∧ folN ts cs sts ≤ sts.length := by
  have hl : ∀ (sts : List St) (ss : List (Nat × Nat)), (followL ts cs sts ss).length ≤ ss.length + sts.length := by
    intro sts
    induction sts with
    | nil => intro ss; simp [followL]
    | cons s l ih =>
      intro ss
      unfold followL
      split
      · have := ih (ss ++ [nextS ts cs ss s]); simp at this ⊢; omega
      · simp
  unfold folN
  have := hl sts []
  split
  · simp at this; omega
  · omega
set_option maxRecDepth 100000 in
set_option maxHeartbeats 1000000 in
theorem clause_any (ta sa la : Option Addr) (tc sc lc : Nat) (ts : List Tm) (cs : List Cl) (sts : List St) (w : World) (ht : TermsAt w ta ts) (hcs : ClausesAt w sa cs) (hst : StepsAt w la sts) (hlen : sts.length ≤ 3518437208883) :
    Calls Try.prog 27 #[.agg #[.slice ta ts.length tc, .slice sa cs.length sc], .slice la sts.length lc] w fun e w' => ∃ va vc,
      e = .returned (.tuple #[.slice va (clsL ts cs sts).length vc, .int .i64 (clsN ts cs sts), .int .i64 (clsE ts cs sts)]) ∧ w'.ownsRow w.heap.size 50 3 (.slice va (clsL ts cs sts).length vc) (clsL ts cs sts).length (lsCells (clsL ts cs sts)) ∧
      (clsE ts cs sts ≠ 0 → va = none ∧ vc = 0) ∧ Below w.heap.size w w' := by
  have hb0 := below_alloc w (.cells #[.slice ta ts.length tc, .slice sa cs.length sc] 33)
  have hcon := fol_any ta sa la tc sc lc ts cs sts _ (ht.below hb0) (hcs.below hb0) (hst.below hb0) hlen
  have Hcon := hide hcon
  have HE : Hid (clsE ts cs sts = if folE ts cs sts = 0 then if folN ts cs sts = 0 then 5 else 0 else folE ts cs sts) := rfl
  have HN : Hid (clsN ts cs sts = if folE ts cs sts = 0 then if folN ts cs sts = 0 then 0 else folN ts cs sts - 1 else folN ts cs sts) := rfl
  have HL : Hid (clsL ts cs sts = if clsE ts cs sts = 0 then inOrd (folS ts cs sts).1 (folS ts cs sts).2 else []) := rfl
  have hq64 := folS_lt ts cs sts
  have hNb := folN_bd ts cs sts
  clear hcon
  go_enter Try.func27, Try.ntmps27
  go_wp2_with fail
  refine Hcon.out.mono ?_
  rintro e w1 ⟨rfl, hb⟩
  have hb1 : Below w.heap.size w w1 := hb0.trans (hb.mono hb0.size)
  clear Hcon hb hb0
  generalize hE : folE ts cs sts = E at *
  generalize hNN : folN ts cs sts = N at *
  generalize folS ts cs sts = q at *
  obtain ⟨q1, q2⟩ := q
  clear hE hNN
  by_cases h1 : E = 0
  · subst h1
    by_cases h2 : N = 0
    · subst h2
      have HE' := hide (HE.out.trans ((if_pos rfl).trans (if_pos rfl)))
      have HN' := hide (HN.out.trans ((if_pos rfl).trans (if_pos rfl)))
      have HL' : Hid (clsL ts cs sts = []) := by show _ = _; rw [HL.out, HE'.out]; rfl
      go_wp2_with fail
      refine bodyPost_ret (v := .tuple #[.slice none 0 0, .int .i64 0, .int .i64 5]) (by simp [results, Try.results27, go_sem]) rfl ?_
      rw [HE'.out, HN'.out, HL'.out]
      exact ⟨none, 0, rfl, World.ownsRow_nil _ _ _ _, fun _ => ⟨rfl, rfl⟩, hb1.trans ((below_alloc w1 _).mono hb1.size)⟩
    · have HE1 := hide (HE.out.trans ((if_pos rfl).trans (if_neg h2)))
      have HN1 := hide (HN.out.trans ((if_pos rfl).trans (if_neg h2)))
      have HL1 : Hid (clsL ts cs sts = inOrd q1 q2) := by show _ = _; rw [HL.out, HE1.out]; rfl
      have hb2 : (N == 0) = false := by simp [h2]
      clear h2
      go_wp2_with fail
      refine (inOrder_any q1 q2 _ hq64.1 hq64.2).mono ?_
      rintro e w2 ⟨va, vc, rfl, hown, hb3⟩
      have hb4 : Below w.heap.size w w2 := (hb1.trans ((below_alloc w1 _).mono hb1.size)).trans (hb3.mono (by have := hb1.size; simp; omega))
      have hown' := own_base hown (show w.heap.size ≤ _ by have := hb1.size; simp; omega)
      clear hown hb3
      generalize inOrd q1 q2 = out at *
      go_wp2_with fail
      refine bodyPost_ret (v := .tuple #[.slice va out.length vc, .int .i64 (N - 1), .int .i64 0]) (by simp [results, Try.results27, go_sem]) rfl ?_
      rw [HE1.out, HN1.out, HL1.out]
      exact ⟨va, vc, rfl, hown', fun h => absurd rfl h, hb4⟩
  · have HE1 := hide (HE.out.trans (if_neg h1))
    have HN1 := hide (HN.out.trans (if_neg h1))
    have HL1 : Hid (clsL ts cs sts = []) := by show _ = _; rw [HL.out, HE1.out, if_neg h1]
    have hbe : (E != 0) = true := by simp [h1]
    clear h1
    go_wp2_with fail
    refine bodyPost_ret (v := .tuple #[.slice none 0 0, .int .i64 N, .int .i64 E]) (by simp [results, Try.results27, go_sem]) rfl ?_
    rw [HE1.out, HN1.out, HL1.out]
    exact ⟨none, 0, rfl, World.ownsRow_nil _ _ _ _, fun _ => ⟨rfl, rfl⟩, hb1.trans ((below_alloc w1 _).mono hb1.size)⟩
end Go.Proofs.Ytmampmbnjdncjaa
namespace Go.Proofs.Ytmampmbnjdncjaa
open Go.RowKit
def oneB (t u : Lt) : Bool := decide (t.n = u.n) && decide (ixN t.x t.y = ixN u.x u.y)
theorem bitN_bit (x y : Int) (p : Nat) : (bitN x y).testBit p = decide (ixN x y = p) := two_bit _ _
theorem with_has (E A : Nat) (t u : Lt) : hasS (withE E t) (withA A t) u = (hasS E A u || oneB t u) := by
  unfold hasS withE withA oneB
  cases ht : t.n <;> cases hu : u.n <;> simp [bitN_bit, Nat.testBit_or]
theorem wout_has (E A : Nat) (t u : Lt) : hasS (woutE E t) (woutA A t) u = (hasS E A u && !oneB t u) := by
  unfold hasS woutE woutA oneB
  cases ht : t.n <;> cases hu : u.n <;> simp [bitN_bit, butN_bit]
theorem or_has (E A F B : Nat) (u : Lt) : hasS (E ||| F) (A ||| B) u = (hasS E A u || hasS F B u) := by
  unfold hasS
  cases hu : u.n <;> simp [Nat.testBit_or]
theorem ofL_has : ∀ (ls : List Lt) (s : Nat × Nat) (u : Lt), hasS (ofL ls s).1 (ofL ls s).2 u = (hasS s.1 s.2 u || ls.any fun t => oneB t u)
  | [], s, u => by simp [ofL]
  | t :: ls, s, u => by
    unfold ofL
    rw [ofL_has ls, with_has]
    simp [Bool.or_assoc]
theorem has_zero (u : Lt) : hasS 0 0 u = false := by unfold hasS; split <;> simp
theorem ixN_inj {x y x' y' : Int} (hx : 0 ≤ x ∧ x < 9) (hy : 0 ≤ y ∧ y < 9) (hx' : 0 ≤ x' ∧ x' < 9) (hy' : 0 ≤ y' ∧ y' < 9) (h : ixN x y = ixN x' y') : (x = x' ∧ y = y') ∨ (x = y' ∧ y = x') := by
  have := tri_inj (l := min x.toNat y.toNat) (g := max x.toNat y.toNat) (l' := min x'.toNat y'.toNat) (g' := max x'.toNat y'.toNat) (by omega) (by omega) (by omega) (by omega) h
  omega
theorem one_refl (t : Lt) : oneB t t = true := by simp [oneB]
end Go.Proofs.Ytmampmbnjdncjaa
