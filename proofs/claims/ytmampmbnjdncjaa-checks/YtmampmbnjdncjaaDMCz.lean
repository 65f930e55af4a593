import Derived.Test.YtmampmbnjdncjaaDMCx
import Derived.Test.YtmampmbnjdncjaaDMCy
import Derived.Test.YtmampmbnjdncjaaDMCk
import Derived.Test.YtmampmbnjdncjaaDMRf
namespace Go.Proofs.Ytmampmbnjdncjaa
open Go.RowKit
def Tied (qs : List Cl) (ss : List (Nat × Nat)) : Prop := qs.length = ss.length ∧ ∀ i, i < ss.length → (qs.getD i cl0).ls = inOrd (ss.getD i (0, 0)).1 (ss.getD i (0, 0)).2
theorem one_any (ta sa aa : Option Addr) (tc sc ac : Nat) (ts : List Tm) (cs qs : List Cl) (ss : List (Nat × Nat)) (s : St) (w : World) (ht : TermsAt w ta ts) (hcs : ClausesAt w sa cs) (hq : ClausesAt w aa qs) (hts : termsB ts = true) (hcl : clausesB ts.length cs = true) (hT : Tied qs ss) :
    Calls Try.prog 75 #[.agg #[.slice ta ts.length tc, .slice sa cs.length sc], .agg #[.int .i64 s.r, .int .i64 s.a, .int .i64 s.b, .int .i64 s.c, .int .i64 s.d], .slice aa qs.length ac] w fun e w' => OneEnds w w' e (nextB ts cs ss s) (nextS ts cs ss s) := by
  by_cases n0 : s.r = 0
  · exact one_given_any ta sa aa tc sc ac ts cs qs ss s w ht hcs hq hts hcl hT.1 hT.2 n0
  by_cases n1 : s.r = 1
  · exact one_refl_any ta sa aa tc sc ac ts cs qs ss s w ht hcs hq hts hcl hT.1 hT.2 n1
  by_cases n2 : s.r = 2
  · exact one_trans_any ta sa aa tc sc ac ts cs qs ss s w ht hcs hq hts hcl hT.1 hT.2 n2
  by_cases n3 : s.r = 3
  · exact one_cong_any ta sa aa tc sc ac ts cs qs ss s w ht hcs hq hts hcl hT.1 hT.2 n3
  by_cases n4 : s.r = 4
  · exact one_cut_any ta sa aa tc sc ac ts cs qs ss s w ht hcs hq hts hcl hT.1 hT.2 n4
  exact one_none_any ta sa aa tc sc ac ts cs qs ss s w ht hcs hq hts hcl hT.1 hT.2 n0 n1 n2 n3 n4
end Go.Proofs.Ytmampmbnjdncjaa
namespace Go.Proofs.Ytmampmbnjdncjaa
open Go.RowKit
theorem Tied.nil : Tied [] [] := ⟨rfl, fun i hi => by simp at hi⟩
theorem Tied.snoc {qs : List Cl} {ss : List (Nat × Nat)} (h : Tied qs ss) {q : Cl} {p : Nat × Nat} (hq : q.ls = inOrd p.1 p.2) : Tied (qs ++ [q]) (ss ++ [p]) := by
  refine ⟨by simp [h.1], fun i hi => ?_⟩
  rw [List.length_append, List.length_singleton] at hi
  have hl := h.1
  by_cases hlt : i < ss.length
  · have e1 : (qs ++ [q]).getD i cl0 = qs.getD i cl0 := by rw [List.getD_eq_getElem?_getD, List.getElem?_append_left (by omega), ← List.getD_eq_getElem?_getD]
    have e2 : (ss ++ [p]).getD i (0, 0) = ss.getD i (0, 0) := by rw [List.getD_eq_getElem?_getD, List.getElem?_append_left (by omega), ← List.getD_eq_getElem?_getD]
    rw [e1, e2]; exact h.2 i hlt
  · have e : i = ss.length := by omega
    subst e
    have e1 : (qs ++ [q]).getD ss.length cl0 = q := by rw [← hl, List.getD_eq_getElem?_getD, List.getElem?_append_right (Nat.le_refl _), Nat.sub_self]; rfl
    have e2 : (ss ++ [p]).getD ss.length (0, 0) = p := by rw [List.getD_eq_getElem?_getD, List.getElem?_append_right (Nat.le_refl _), Nat.sub_self]; rfl
    rw [e1, e2]; exact hq
def RW (w : World) (p0 p1 v : Value) (qs : List Cl) (W : World) : Prop :=
  W.heap[w.heap.size]? = some (.cells #[p0, p1] 33 (0, 0)) ∧ CsOwn (w.heap.size + 1) W v qs ∧ Below w.heap.size w W
theorem RW.below {w W W' : World} {p0 p1 v : Value} {qs : List Cl} (h : RW w p0 p1 v qs W) (hb : Below W.heap.size W W') : RW w p0 p1 v qs W' :=
  ⟨(hb.block _ (Array.getElem?_eq_some_iff.1 h.1).1).trans h.1, h.2.1.below hb, h.2.2.trans (hb.mono h.2.2.size)⟩
theorem RW.snoc {w W W1 W2 : World} {p0 p1 v v' : Value} {qs : List Cl} {q : Cl} (h : RW w p0 p1 v qs W) (hb : Below W.heap.size W W1) (hl : W1.ownsRow (w.heap.size + 1) 50 3 (clVal q) q.ls.length (lsCells q.ls))
    (hown : W2.ownsRow (w.heap.size + 1) 43 1 v' (qs.length + 1) (csCells qs ++ [clVal q])) (hg : W1.grownBy W2 v.ownBlock) : RW w p0 p1 v' (qs ++ [q]) W2 := by
  have h1 := h.below hb
  refine ⟨?_, ⟨by rw [csCells_snoc]; simpa using hown, fun i hi => ?_⟩, h1.2.2.grown hg h1.2.2.size (fun k hk => by have := (h1.2.1.1.lt k hk).1; omega)⟩
  · rw [hg.block _ (Array.getElem?_eq_some_iff.1 h1.1).1 (fun e => by have := (h1.2.1.1.lt _ e.symm).1; omega)]
    exact h1.1
  · have ht : ∀ g, v.ownBlock = some g → ∃ cur e', W1.heap[g]? = some (.cells cur e' (0, 0)) ∧ e' ≠ 50 := own_type h1.2.1.1 (by decide)
    simp only [List.length_append, List.length_cons, List.length_nil] at hi
    by_cases hil : i < qs.length
    · rw [getD_snoc_lt _ _ _ hil]
      exact own_apart (h1.2.1.2 i hil) hg ht
    · have : i = qs.length := by omega
      subst this
      rw [getD_snoc_eq]
      exact own_apart hl hg ht
def RepEnds (F : List (Nat × Nat)) (n B : Nat) (w' : World) (e : Ending) : Prop :=
  (F.length = n ∧ ∃ v qs, e = .returned (.tuple #[v, .int .i64 (-1)]) ∧ CsOwn B w' v qs ∧ Tied qs F) ∨
  (F.length < n ∧ e = .returned (.tuple #[.slice none 0 0, .int .i64 (F.length : Nat)]))
theorem drop_step {sts : List St} {i : Nat} (h : i < sts.length) : sts.drop i = sts.getD i st0 :: sts.drop (i + 1) := by
  rw [List.drop_eq_getElem_cons h, List.getD_eq_getElem?_getD, List.getElem?_eq_getElem h, Option.getD_some]
set_option maxRecDepth 100000 in
set_option maxHeartbeats 4000000 in
theorem replay_any (ta sa la : Option Addr) (tc sc lc : Nat) (ts : List Tm) (cs : List Cl) (sts : List St) (w : World) (ht : TermsAt w ta ts) (hcs : ClausesAt w sa cs) (hst : StepsAt w la sts) (hts : termsB ts = true) (hcl : clausesB ts.length cs = true) (hlen : sts.length ≤ 3518437208883) :
    Calls Try.prog 64 #[.agg #[.slice ta ts.length tc, .slice sa cs.length sc], .slice la sts.length lc] w fun e w' => RepEnds (followL ts cs sts []) sts.length w.heap.size w' e ∧ Below w.heap.size w w' := by
  obtain ⟨i2, hi2, hx0, hx1, hx2⟩ := info_parts info_lits
  have Hts := hide hts
  have Hcl := hide hcl
  clear hts hcl
  have hR : RW w (.slice ta ts.length tc) (.slice sa cs.length sc) (.slice none 0 0) [] (w.alloc (.cells #[.slice ta ts.length tc, .slice sa cs.length sc] 33)) :=
    ⟨heap_at_new _ _ _ rfl, ⟨⟨rfl, .inl ⟨rfl, rfl⟩⟩, fun i hi => by simp at hi⟩, (Below.refl _ _).alloc (Nat.le_refl _) _⟩
  have HR := hide hR
  clear hR
  generalize hF : followL ts cs sts [] = F
  have HF := hide hF
  clear hF
  go_enter Try.func64, Try.ntmps64
  go_wp2_with fail
  go_loopg [6, 7] sts.length (fun q v s7 wx => ∃ (i : Nat) (qs : List Cl) (ss : List (Nat × Nat)), q = sts.length - i ∧ i ≤ sts.length ∧ s7 = .int .i64 i ∧ Hid (Tied qs ss) ∧ Hid (ss.length = i) ∧ Hid (F = followL ts cs (sts.drop i) ss) ∧ RW w (.slice ta ts.length tc) (.slice sa cs.length sc) v qs wx)
  case atStart => exact ⟨0, [], [], by omega, by omega, rfl, Tied.nil, rfl, HF.out.symm, HR.out⟩
  case round =>
    obtain ⟨i, qs, ss, rfl, hi, rfl, HT, Hl, Hf, hRr⟩ := hrel
    obtain ⟨va, vc, rfl, hqa⟩ := hRr.2.1.at
    have Hql : Hid (qs.length = i) := HT.out.1.trans Hl.out
    by_cases hlt : i < sts.length
    · obtain ⟨lb, lo, rfl, lcell⟩ := (hst.below hRr.2.2).get hlt
      obtain ⟨s0, s1, s2, s3, s4⟩ := lcell i hlt
      have p0 : wr.cell? ⟨w.heap.size, 0, none⟩ = some (.slice ta ts.length tc) := by rw [cell_of_row _ _ _ _ _ _ hRr.1]; rfl
      have p1 : wr.cell? ⟨w.heap.size, 1, none⟩ = some (.slice sa cs.length sc) := by rw [cell_of_row _ _ _ _ _ _ hRr.1]; rfl
      rw [drop_step hlt, followL] at Hf
      generalize sts.getD i st0 = s at *
      clear lcell
      have hT1 := ht.below hRr.2.2
      have hC1 := hcs.below hRr.2.2
      go_upto_region 5 with fail
      go_cut [8, 9] from 16 to 25 (fun s8 s9 wx => ∃ oa ol oc, s8 = .slice oa ol oc ∧ s9 = .bool (nextB ts cs ss s) ∧ Hid (nextB ts cs ss s = true → ol = (inOrd (nextS ts cs ss s).1 (nextS ts cs ss s).2).length ∧ wx.ownsRow wr.heap.size 50 3 (.slice oa ol oc) ol (lsCells (inOrd (nextS ts cs ss s).1 (nextS ts cs ss s).2))) ∧ Below wr.heap.size wr wx)
      case first =>
        go_region_with (go_at_call 75; refine (one_any ta sa va tc sc vc ts cs qs ss s _ (hT1.below (Below.refl _ _).drew) (hC1.below (Below.refl _ _).drew) (hqa.below (Below.refl _ _).drew) Hts.out Hcl.out HT.out).mono ?_; rintro e w1 ⟨oa, ol, oc, rfl, hon, hb1⟩)
        all_goals (go_wp2_with fail; go_meet; exact ⟨oa, ol, oc, rfl, rfl, hon, (Below.refl _ _).drew.trans hb1⟩)
      case rest =>
        obtain ⟨oa, ol, oc, rfl, rfl, Hon, hb1⟩ := hcut
        cases hnb : nextB ts cs ss s
        · have HFl : Hid (F = ss) := by show F = ss; rw [Hf.out, hnb]; rfl
          go_wp2_with fail
          go_ret2
          refine ⟨.inr ⟨?_, ?_⟩, hRr.2.2.trans (hb1.mono hRr.2.2.size)⟩
          · rw [HFl.out, Hl.out]; exact hlt
          · rw [HFl.out, Hl.out]; rfl
        · have HFl : Hid (F = followL ts cs (sts.drop (i + 1)) (ss ++ [nextS ts cs ss s])) := by show F = _; rw [Hf.out, hnb]; rfl
          obtain ⟨ho1, ho2⟩ := Hon.out hnb
          subst ho1
          have HT2 := hide (HT.out.snoc (q := ⟨oa, oc, inOrd (nextS ts cs ss s).1 (nextS ts cs ss s).2⟩) (p := nextS ts cs ss s) rfl)
          generalize nextS ts cs ss s = p at *
          have hs1 : w.heap.size + 1 ≤ wr.heap.size := (Array.getElem?_eq_some_iff.1 hRr.1).1
          have hs2 := hb1.size
          have hR1 := hRr.below hb1
          have hqi : qs.length ≤ 3518437208883 := by have := Hql.out; omega
          clear Hon hnb Hf
          go_wp2_with (at_builtin; refine wpList_append_own _ rfl (.tmp 29) (.tmp 31) 31 rfl (w.heap.size + 1) 43 i2 (.slice none 0 0) 1 24 Try.underlying31 hi2 hx0 hx1 hx2 rfl (by decide) (.slice va qs.length vc) qs.length (csCells qs) rfl (hR1.2.1.1.alloc _) ⟨wc.heap.size, 0, none⟩ 1 1 [.slice oa (inOrd p.1 p.2).length oc] rfl rfl (by simpa using new_one wc (.slice oa (inOrd p.1 p.2).length oc) 43) (fun u hu => by simp at hu; subst hu; rfl) (by unfold maxLen; omega) (by omega) (by simp; omega) ?_)
          intro qv w9 hown9 hgr9 hz9
          clear hz9
          have hR9 := hRr.snoc (q := ⟨oa, oc, inOrd p.1 p.2⟩) (hb1.trans (((Below.refl _ wc).alloc (Nat.le_refl _) _).mono hs2)) (own_base (ho2.alloc _) hs1) hown9 hgr9
          clear hown9 hgr9
          obtain ⟨qa, qc, hqv⟩ := own_val hR9.2.1.1
          subst hqv
          go_wp2_with fail
          go_roundg (sts.length - (i + 1))
          case measure => omega
          case rel => exact ⟨i + 1, _, _, rfl, by omega, by go_num, HT2, (by have := Hl.out; show (ss ++ [p]).length = _; simp; omega), HFl, by simpa using hR9⟩
    · have e : sts.drop i = [] := by rw [List.drop_eq_nil_iff]; omega
      rw [e] at Hf
      have Hf' : Hid (F = ss) := Hf.out
      clear e Hf
      go_wp2_with fail
      go_ret2
      refine ⟨.inl ⟨?_, _, qs, rfl, ⟨own_base hRr.2.1.1 (Nat.le_succ _), fun k hk => own_base (hRr.2.1.2 k hk) (Nat.le_succ _)⟩, by rw [Hf'.out]; exact HT.out⟩, hRr.2.2⟩
      have := Hl.out
      rw [Hf'.out]; omega
end Go.Proofs.Ytmampmbnjdncjaa
namespace Go.Proofs.Ytmampmbnjdncjaa
open Go.RowKit
theorem CsOwn.last {B : Nat} {w : World} {v : Value} {qs : List Cl} {F : List (Nat × Nat)} (h : CsOwn B w v qs) (hT : Tied qs F) (hn : F.length ≠ 0) :
    ∃ (b o : Nat) (oa : Option Addr × Nat) (oc : Nat), v = .slice (some ⟨b, o, none⟩) F.length oc ∧ w.cell? ⟨b, o + (F.length - 1), none⟩ = some (.slice oa.1 (inOrd (lastS F).1 (lastS F).2).length oa.2) ∧ LitsAt w oa.1 (inOrd (lastS F).1 (lastS F).2) := by
  obtain ⟨a, cap, rfl, hat⟩ := h.at
  have hl := hT.1
  have hlt : F.length - 1 < qs.length := by omega
  obtain ⟨b, o, rfl, hc⟩ := hat.get hlt
  obtain ⟨h1, h2⟩ := hc _ hlt
  have e := hT.2 (F.length - 1) (by omega)
  rw [← lastS_get hn] at e
  generalize qs.getD (F.length - 1) cl0 = q at *
  rw [e] at h1 h2
  exact ⟨b, o, (q.a, q.cap), cap, by rw [hl], h1, h2⟩
set_option maxRecDepth 100000 in
set_option maxHeartbeats 2000000 in
theorem rCheck_any (ta sa la : Option Addr) (tc sc lc : Nat) (ts : List Tm) (cs : List Cl) (sts : List St) (w : World) (ht : TermsAt w ta ts) (hcs : ClausesAt w sa cs) (hst : StepsAt w la sts) (hlen : sts.length ≤ 3518437208883) :
    Calls Try.prog 46 #[.agg #[.slice ta ts.length tc, .slice sa cs.length sc], .slice la sts.length lc] w fun e w' =>
      e = .returned (.tuple #[.int .i64 (folN ts cs sts), .int .i64 (chkE ts cs sts)]) ∧ Below w.heap.size w w' := by
  obtain ⟨W, hW⟩ : ∃ W, W = w.alloc (.cells #[.slice ta ts.length tc, .slice sa cs.length sc] 33) := ⟨_, rfl⟩
  have hb0 : Below w.heap.size w W := by rw [hW]; exact (Below.refl _ _).alloc (Nat.le_refl _) _
  have p0 : W.cell? ⟨w.heap.size, 0, none⟩ = some (.slice ta ts.length tc) := by rw [hW]; simp
  have p1 : W.cell? ⟨w.heap.size, 1, none⟩ = some (.slice sa cs.length sc) := by rw [hW]; simp
  have hT := ht.below hb0
  have hC := hcs.below hb0
  have hS := hst.below hb0
  have hlk := look_any ta sa tc sc ts cs W hT hC
  have Hlk := hide hlk
  clear hlk
  go_enter Try.func46, Try.ntmps46
  go_upto_region 1 with fail
  rw [← hW]
  clear hW
  go_wp2_with fail
  refine Hlk.out.mono ?_
  rintro e w1 ⟨rfl, hb1⟩
  have hbw : Below w.heap.size w w1 := hb0.trans (hb1.mono hb0.size)
  clear Hlk
  by_cases hr : refuseI ts cs = 0
  · obtain ⟨hts, hcl⟩ := of_refuse hr
    have HF : Hid (folN ts cs sts = ((followL ts cs sts []).length : Nat)) := by show _ = _; rw [folN, if_pos hr]
    have HE4 : Hid ((followL ts cs sts []).length < sts.length → chkE ts cs sts = 4) := fun h => by
      have : folE ts cs sts = 4 := by rw [folE, if_pos hr, if_pos h]
      rw [chkE, this]; rfl
    have HE0 : Hid ((followL ts cs sts []).length = sts.length → chkE ts cs sts = if (followL ts cs sts []).length = 0 then 5 else if (inOrd (lastS (followL ts cs sts [])).1 (lastS (followL ts cs sts [])).2).length = 0 then 0 else 5) := fun h => by
      have h1 : folE ts cs sts = 0 := by rw [folE, if_pos hr, if_neg (by omega)]
      have h2 : folS ts cs sts = lastS (followL ts cs sts []) := by rw [folS, if_pos hr, if_neg (by omega)]
      have h3 := inOrd_empty (lastS_low45 (followL_low45 hts hcl sts [] (fun p hp => by simp at hp)))
      rw [chkE, h1, if_pos rfl, HF.out, h2, h3]
      by_cases h0 : (followL ts cs sts []).length = 0
      · simp [h0]
      · rw [if_neg h0, if_neg (by omega)]
        simp
    have hrp := replay_any ta sa la tc sc lc ts cs sts w1 (hT.below hb1) (hC.below hb1) (hS.below hb1) hts hcl hlen
    have Hrp := hide hrp
    have q0 := cell_below hb1 p0
    have q1 := cell_below hb1 p1
    rw [hr]
    generalize followL ts cs sts [] = F at *
    clear hrp p0 p1 hts hcl hr
    go_wp2_with fail
    refine Hrp.out.mono ?_
    rintro e w2 ⟨hends, hb2⟩
    have hbz : Below w.heap.size w w2 := hbw.trans (hb2.mono hbw.size)
    rcases hends with ⟨hl, v, qs, rfl, hcso, hTd⟩ | ⟨hl, rfl⟩
    · have Hl := hide hl
      have HE := hide (HE0.out hl)
      by_cases h0 : F.length = 0
      · have HE5 : Hid (chkE ts cs sts = 5) := by show _ = _; rw [HE.out, if_pos h0]
        obtain ⟨va, vc, rfl, _⟩ := hcso.at
        have hq0 : qs.length = 0 := by rw [hTd.1]; exact h0
        rw [hq0]
        clear hl
        go_wp2_with fail
        go_ret2
        exact ⟨ret_ii (by rw [HF.out, h0]; rfl) HE5.out.symm, hbz⟩
      · obtain ⟨b, o, oa, oc, rfl, hcell, _⟩ := hcso.last hTd h0
        have HE5 : Hid (chkE ts cs sts = if (inOrd (lastS F).1 (lastS F).2).length = 0 then 0 else 5) := by show _ = _; rw [HE.out, if_neg h0]
        have hF1 : 1 ≤ F.length := by omega
        have hF2 : F.length ≤ 3518437208883 := by omega
        generalize (inOrd (lastS F).1 (lastS F).2).length = k at *
        have Hk0 := hide h0
        obtain ⟨m, hm⟩ : ∃ m, F.length = m + 1 := ⟨F.length - 1, by omega⟩
        rw [show F.length - 1 = m by omega] at hcell
        have Hm := hide hm
        rw [hm]
        clear hl hm hF1 h0
        have hm2 : m ≤ 3518437208883 := by have := Hm.out; omega
        have hF0 : ((m : Int) + 1 == 0) = false := by simp; omega
        by_cases hk : k = 0
        · subst hk
          go_wp2_with fail
          go_ret2
          exact ⟨ret_ii (by rw [HF.out, Hm.out]; omega) (by rw [HE5.out]; rfl), hbz⟩
        · go_wp2_with fail
          go_ret2
          exact ⟨ret_ii (by rw [HF.out, Hm.out]; omega) (by rw [HE5.out, if_neg hk]), hbz⟩
    · have HE := hide (HE4.out hl)
      have hnn : 0 ≤ (F.length : Int) := by omega
      clear hl
      go_wp2_with fail
      go_ret2
      exact ⟨ret_ii HF.out.symm HE.out.symm, hbz⟩
  · have hrn : (refuseI ts cs != 0) = true := by simpa using hr
    have HF : Hid (folN ts cs sts = 0) := by show _ = _; rw [folN, if_neg hr]
    have HE : Hid (chkE ts cs sts = refuseI ts cs) := by
      have h1 : folE ts cs sts = refuseI ts cs := by rw [folE, if_neg hr]
      show _ = _
      rw [chkE, h1, if_neg hr]
    go_wp2_with fail
    go_ret2
    exact ⟨ret_ii HF.out.symm HE.out.symm, hbw⟩
set_option maxRecDepth 100000 in
set_option maxHeartbeats 2000000 in
theorem rClause_any (ta sa la : Option Addr) (tc sc lc : Nat) (ts : List Tm) (cs : List Cl) (sts : List St) (w : World) (ht : TermsAt w ta ts) (hcs : ClausesAt w sa cs) (hst : StepsAt w la sts) (hlen : sts.length ≤ 3518437208883) :
    Calls Try.prog 44 #[.agg #[.slice ta ts.length tc, .slice sa cs.length sc], .slice la sts.length lc] w fun e w' => ∃ oa oc,
      e = .returned (.tuple #[.slice oa (clsL ts cs sts).length oc, .int .i64 (clsN ts cs sts), .int .i64 (clsE ts cs sts)]) ∧ LitsAt w' oa (clsL ts cs sts) ∧ Below w.heap.size w w' := by
  obtain ⟨W, hW⟩ : ∃ W, W = w.alloc (.cells #[.slice ta ts.length tc, .slice sa cs.length sc] 33) := ⟨_, rfl⟩
  have hb0 : Below w.heap.size w W := by rw [hW]; exact (Below.refl _ _).alloc (Nat.le_refl _) _
  have p0 : W.cell? ⟨w.heap.size, 0, none⟩ = some (.slice ta ts.length tc) := by rw [hW]; simp
  have p1 : W.cell? ⟨w.heap.size, 1, none⟩ = some (.slice sa cs.length sc) := by rw [hW]; simp
  have hT := ht.below hb0
  have hC := hcs.below hb0
  have hS := hst.below hb0
  have hlk := look_any ta sa tc sc ts cs W hT hC
  have Hlk := hide hlk
  clear hlk
  go_enter Try.func44, Try.ntmps44
  go_upto_region 1 with fail
  rw [← hW]
  clear hW
  go_wp2_with fail
  refine Hlk.out.mono ?_
  rintro e w1 ⟨rfl, hb1⟩
  have hbw : Below w.heap.size w w1 := hb0.trans (hb1.mono hb0.size)
  clear Hlk
  by_cases hr : refuseI ts cs = 0
  · obtain ⟨hts, hcl⟩ := of_refuse hr
    have HF : Hid (folN ts cs sts = ((followL ts cs sts []).length : Nat)) := by show _ = _; rw [folN, if_pos hr]
    have HE4 : Hid ((followL ts cs sts []).length < sts.length → clsE ts cs sts = 4 ∧ clsN ts cs sts = folN ts cs sts ∧ clsL ts cs sts = []) := fun h => by
      have h1 : folE ts cs sts = 4 := by rw [folE, if_pos hr, if_pos h]
      have h2 : clsE ts cs sts = 4 := by rw [clsE, h1]; rfl
      exact ⟨h2, by rw [clsN, h1]; rfl, by rw [clsL, h2]; rfl⟩
    have HE0 : Hid ((followL ts cs sts []).length = sts.length → ((followL ts cs sts []).length = 0 → clsE ts cs sts = 5 ∧ clsN ts cs sts = 0 ∧ clsL ts cs sts = []) ∧ ((followL ts cs sts []).length ≠ 0 → clsE ts cs sts = 0 ∧ clsN ts cs sts = folN ts cs sts - 1 ∧ clsL ts cs sts = inOrd (lastS (followL ts cs sts [])).1 (lastS (followL ts cs sts [])).2)) := fun h => by
      have h1 : folE ts cs sts = 0 := by rw [folE, if_pos hr, if_neg (by omega)]
      have h2 : folS ts cs sts = lastS (followL ts cs sts []) := by rw [folS, if_pos hr, if_neg (by omega)]
      refine ⟨fun h0 => ?_, fun h0 => ?_⟩
      · have e5 : clsE ts cs sts = 5 := by rw [clsE, h1, if_pos rfl, HF.out, if_pos (by omega)]
        exact ⟨e5, by rw [clsN, h1, if_pos rfl, HF.out, if_pos (by omega)], by rw [clsL, e5]; rfl⟩
      · have e5 : clsE ts cs sts = 0 := by rw [clsE, h1, if_pos rfl, HF.out, if_neg (by omega)]
        exact ⟨e5, by rw [clsN, h1, if_pos rfl, if_neg (by rw [HF.out]; omega)], by rw [clsL, e5, if_pos rfl, h2]⟩
    have hrp := replay_any ta sa la tc sc lc ts cs sts w1 (hT.below hb1) (hC.below hb1) (hS.below hb1) hts hcl hlen
    have Hrp := hide hrp
    have q0 := cell_below hb1 p0
    have q1 := cell_below hb1 p1
    rw [hr]
    generalize followL ts cs sts [] = F at *
    clear hrp p0 p1 hts hcl hr
    go_wp2_with fail
    refine Hrp.out.mono ?_
    rintro e w2 ⟨hends, hb2⟩
    have hbz : Below w.heap.size w w2 := hbw.trans (hb2.mono hbw.size)
    rcases hends with ⟨hl, v, qs, rfl, hcso, hTd⟩ | ⟨hl, rfl⟩
    · have HE := hide (HE0.out hl)
      by_cases h0 : F.length = 0
      · obtain ⟨e1, e2, e3⟩ := HE.out.1 h0
        have E1 := hide e1
        have E2 := hide e2
        have E3 := hide e3
        obtain ⟨va, vc, rfl, _⟩ := hcso.at
        have hq0 : qs.length = 0 := by rw [hTd.1]; exact h0
        rw [hq0]
        clear hl e1 e2 e3
        go_wp2_with fail
        go_ret3
        refine ⟨none, 0, ?_, ?_, hbz⟩
        · rw [E1.out, E2.out, E3.out]; rfl
        · rw [E3.out]; exact .inl rfl
      · obtain ⟨b, o, oa, oc, rfl, hcell, hla⟩ := hcso.last hTd h0
        obtain ⟨e1, e2, e3⟩ := HE.out.2 h0
        rw [← e3] at hcell hla
        have E1 := hide e1
        have E2 := hide e2
        have hF2 : F.length ≤ 3518437208883 := by omega
        obtain ⟨m, hm⟩ : ∃ m, F.length = m + 1 := ⟨F.length - 1, by omega⟩
        rw [show F.length - 1 = m by omega] at hcell
        have Hm := hide hm
        rw [hm]
        clear hl hm h0 e1 e2 e3
        have hm2 : m ≤ 3518437208883 := by have := Hm.out; omega
        have hF0 : ((m : Int) + 1 == 0) = false := by simp; omega
        go_wp2_with fail
        go_ret3
        refine ⟨oa.1, oa.2, ?_, hla, hbz⟩
        have e9 : ((m + 1 : Nat) : Int) - 1 = (m : Int) := by omega
        rw [E1.out, E2.out, HF.out, Hm.out, e9]
        first
          | rfl
          | (simp; done)
          | trace_state
    · obtain ⟨e1, e2, e3⟩ := HE4.out hl
      have E1 := hide e1
      have E2 := hide e2
      have E3 := hide e3
      have hnn : 0 ≤ (F.length : Int) := by omega
      clear hl e1 e2 e3
      go_wp2_with fail
      go_ret3
      refine ⟨none, 0, ?_, ?_, hbz⟩
      · rw [E1.out, E2.out, E3.out, HF.out]; rfl
      · rw [E3.out]; exact .inl rfl
  · have hrn : (refuseI ts cs != 0) = true := by simpa using hr
    have h1 : folE ts cs sts = refuseI ts cs := by rw [folE, if_neg hr]
    have hF : folN ts cs sts = 0 := by rw [folN, if_neg hr]
    have E1 : Hid (clsE ts cs sts = refuseI ts cs) := by show _ = _; rw [clsE, h1, if_neg hr]
    have E2 : Hid (clsN ts cs sts = 0) := by show _ = _; rw [clsN, h1, if_neg hr, hF]
    have E3 : Hid (clsL ts cs sts = []) := by show _ = _; rw [clsL, E1.out, if_neg hr]
    clear h1 hF
    go_wp2_with fail
    go_ret3
    refine ⟨none, 0, ?_, ?_, hbw⟩
    · rw [E1.out, E2.out, E3.out]; rfl
    · rw [E3.out]; exact .inl rfl
end Go.Proofs.Ytmampmbnjdncjaa
