import Derived.Test.YtiobmhfpnhjmcaaEMCs
namespace Go.Proofs.Ytiobmhfpnhjmcaa
open Go.RowKit
theorem TermsAt.take {w : World} {a : Option Addr} {ts : List Tm} (h : TermsAt w a ts) (n : Nat) : TermsAt w a (ts.take n) := by
  rcases h with h | ⟨b, o, rfl, h⟩
  · exact .inl (by rw [h]; simp)
  · refine .inr ⟨b, o, rfl, fun i hi => ?_⟩
    have hi' : i < ts.length := by simp at hi; omega
    have hin : i < n := by simp at hi; omega
    have e : (ts.take n).getD i tm0 = ts.getD i tm0 := by
      rw [List.getD_eq_getElem?_getD, List.getD_eq_getElem?_getD, List.getElem?_take, if_pos hin]
    rw [e]; exact h i hi'
theorem argsIn_take {ts : List Tm} (hts : termsB ts = true) (n : Nat) : ArgsIn (ts.take n) n := by
  intro i hi
  have hi' : i < ts.length := by simp at hi; omega
  have hin : i < n := by simp at hi; omega
  have e : (ts.take n).getD i tm0 = ts.getD i tm0 := by
    rw [List.getD_eq_getElem?_getD, List.getD_eq_getElem?_getD, List.getElem?_take, if_pos hin]
  rw [e]
  have h1 := argsIn_of hts (Nat.le_refl _) i hi'
  refine ⟨h1.1, fun k hk => ?_⟩
  unfold termsB at hts
  simp only [Bool.and_eq_true] at hts
  have h2 := allB_iff.1 hts.2 i hi'
  simp only [termB, Bool.and_eq_true] at h2
  have h3 := allB_iff.1 h2.2 k hk
  simp [belowB] at h3
  have h4 := h1.2 k hk
  refine ⟨h4.1, ?_⟩
  have := h3.2
  rw [← List.getD_eq_getElem?_getD, ← List.getD_eq_getElem?_getD] at this
  omega
theorem wpList_append_nothing {P : Program} (w : World) {ops : Array Oper} {rest : List Oper} {o : Oper} {a : Act} {Q : Exit → Act → World → Prop} (hg : o.guard = none) (s x : Operand) (t : TypeId)
    (hop : o.op = .call { callee := .builtin .append, args := #[s, x], argTypes := #[t, t] }) (e : TypeId) (i : TypeInfo) (h1 : P.underlying t = some (.slice e)) (h2 : P.info? e = some i) (n : Nat) (hn : n = 0)
    (hs : a.eval s = .slice none 0 0) (hx : a.eval x = .slice none n 0) (hK : wpList P ops Q rest (a.put o.dst (.slice none 0 0)) w) : wpList P ops Q (o :: rest) a w := by
  subst hn
  have hr : (Builtin.append_ #[t, t] o.type #[.slice none 0 0, .slice none 0 0]).run P w = .ok (.slice none 0 0) w := by
    simp [Builtin.append_, run_underlying h1, sizeOf, typeInfo, h2, Builtin.lenOf, run_firstCells_none]
  refine wpList_plain hg fun K hK' => ?_
  unfold Oper.wp execOp
  simp only [hop, resolve, invoke, builtin, Sem.run_bind, Sem.run_pure, Result.andThen_ok, List.map_toArray, List.map_cons, List.map_nil, hs, hx, hr]
  exact hK' _ _ hK
def eachF (ts : List Tm) (k : Nat) (c : List Int) (g : Int) (x : Nat) : List (List Int) := if soundB (ts.take (c.length + 1)) (c ++ [(x : Int)]) then eachL ts k (c ++ [(x : Int)]) (max g x) else []
theorem range_snoc (f : Nat → List (List Int)) (x : Nat) : (List.range (x + 1)).flatMap f = (List.range x).flatMap f ++ f x := by simp [List.range_succ]
theorem eachF_count {ts : List Tm} {k : Nat} {c : List Int} {g : Int} {x : Nat} (h1 : c.length + (k + 1) ≤ 9) (h2 : g + 1 ≤ (c.length : Int)) (hx : (x : Int) ≤ g + 1) : (eachF ts k c g x).length ≤ 10 ^ k := by
  unfold eachF
  split
  · exact eachL_count ts k _ _ (by simp; omega) (by simp; omega)
  · simp
set_option maxRecDepth 100000 in
set_option maxHeartbeats 2000000 in
theorem each_succ (w0 : World) (ta : Option Addr) (tc : Nat) (ts : List Tm) (ht : TermsAt w0 ta ts) (hts : termsB ts = true) (htc : ts.length ≤ tc) (k : Nat) (ih : EachHolds w0 ta tc ts k) : EachHolds w0 ta tc ts (k + 1) := by
  intro c ca cc g bx BB v ys w hlen hg1 hg2 hcnt hb0 hbx0 hbx hBB hbox hys hown hnil
  obtain ⟨i1, hi1, hy0, hy1, hy2⟩ := info_parts info_int
  have h9 := (len_of hts).2
  have hne : (c.length == ts.length) = false := by simp; omega
  have hne' : ((c.length : Int) == (ts.length : Int)) = false := by simp; omega
  have hc8 : c.length ≤ 8 := by omega
  have hcnt2 : ys.length + 10 * 10 ^ k ≤ 1000000000 := by rw [Nat.pow_succ] at hcnt; omega
  have HL : Hid (∀ e : List (List Int), e = ys.map Wy.xs ++ (List.range (g + 2).toNat).flatMap (eachF ts k c g) → e = ys.map Wy.xs ++ eachL ts (k + 1) c g) := fun e he => he
  have Hhts := hide hts
  have Hih := hide ih
  clear hcnt hts ih
  go_enter Try.func51, Try.ntmps51
  go_wp2_with fail
  go_loopg [10] (g + 2).toNat (fun q s10 wr => ∃ (x : Nat) (v' : Value) (ys' : List Wy), q = (g + 2).toNat - x ∧ x ≤ (g + 2).toNat ∧ s10 = .int .i64 x ∧ wr.heap[bx]? = some (.cells #[v'] 48 (0, 0)) ∧ YsOwn BB wr v' ys' ∧
    Hid (ys'.map Wy.xs = ys.map Wy.xs ++ (List.range x).flatMap (eachF ts k c g)) ∧ Hid (ys'.length ≤ ys.length + x * 10 ^ k) ∧ Fr w wr bx v ∧ NX w v v')
  case atStart => exact ⟨0, v, ys, by omega, by omega, rfl, hbox, hys, (by show _ = _; simp), (by show _ ≤ _; omega), Fr.refl _ _ _, NX.refl _ _⟩
  case round =>
    obtain ⟨x, v', ys', rfl, hx, rfl, hbox', hys', Hm, Hc, hfr, hnx⟩ := hrel
    have hownr := hfr.own hbx hys.1 hown
    have hBBr : BB ≤ wr.heap.size := Nat.le_trans hBB hfr.size
    have hlow : Below w0.heap.size w0 wr := hfr.low hb0 hbx0 hbx hys.1
    by_cases hlt : x < (g + 2).toNat
    · have hxg : (x : Int) ≤ g + 1 := by omega
      go_upto_region 9 with fail
      go_cut [11] (fun s11 wx => ∃ da dc, s11 = .slice da c.length dc ∧ wx.ownsRow wr.heap.size 3 1 (.slice da c.length dc) c.length (intCells c) ∧ Below wr.heap.size wr wx)
      case first =>
        by_cases hc0 : c = []
        · obtain ⟨rfl, rfl⟩ := hnil hc0
          have Hc0 := hide hc0
          clear hc0 hnil
          go_wp2_with (at_builtin; refine wpList_append_nothing _ rfl (.tmp 36) (.tmp 37) 24 rfl 3 i1 Try.underlying24 hi1 c.length (by rw [Hc0.out]; rfl) rfl rfl ?_)
          go_meet
          exact ⟨none, 0, by rw [Hc0.out]; rfl, by rw [Hc0.out]; exact World.ownsRow_nil _ _ _ _, Below.refl _ _⟩
        · have hc1 : 1 ≤ c.length := by cases c with
            | nil => exact absurd rfl hc0
            | cons _ _ => simp
          have hcn := own_cells' hownr
          obtain ⟨cg, cc', hcv⟩ : ∃ cg cc', (Value.slice ca c.length cc) = .slice (some ⟨cg, 0, none⟩) c.length cc' := by
            rcases hownr.2 with h | ⟨g', cap', cur, hv, _⟩
            · have := h.2; omega
            · exact ⟨g', cap', hv⟩
          injection hcv with hca _ hcc
          subst hca
          subst hcc
          go_wp2_with (at_builtin; refine wpList_append_own _ rfl (.tmp 36) (.tmp 37) 24 rfl wr.heap.size 3 i1 (.int .i64 0) 1 8 Try.underlying24 hi1 hy0 hy1 hy2 rfl (by decide) (.slice none 0 0) 0 [] rfl (World.ownsRow_nil _ _ _ _) ⟨cg, 0, none⟩ c.length cc (intCells c) rfl (by simp [intCells]) (hcn _ rfl) (intCells_one _) (by unfold maxLen; omega) (by omega) (Nat.le_refl _) ?_; intro dv w1 hown1 hgr1 hz1; clear hz1; obtain ⟨da, dc, hdv⟩ := own_val hown1; subst hdv)
          go_meet
          exact ⟨da, dc, by simp, by simpa using hown1, (Below.refl _ _).grown hgr1 (Nat.le_refl _) (fun q hq => by cases hq)⟩
      case rest =>
        obtain ⟨da, dc, rfl, hownd, hbd⟩ := hcut
        have hsz := hbd.size
        have hbx1 : bx < wr.heap.size := by omega
        go_upto_region 11 with (at_builtin; refine wpList_append_own _ rfl (.tmp 39) (.tmp 41) 24 rfl wr.heap.size 3 i1 (.int .i64 0) 1 8 Try.underlying24 hi1 hy0 hy1 hy2 rfl (by decide) (.slice da c.length dc) c.length (intCells c) rfl (hownd.alloc _) ⟨wc.heap.size, 0, none⟩ 1 1 [.int .i64 x] rfl rfl (new_one _ _ _) (fun u hu => by simp at hu; subst hu; rfl) (by unfold maxLen; omega) (by omega) (by simp; omega) ?_; intro dv w2 hown2 hgr2 hz2; clear hz2; obtain ⟨ea, ec, hdv⟩ := own_val hown2; subst hdv)
        have hb2 : Below wr.heap.size wr w2 := (hbd.alloc hsz _).grown hgr2 (by simp; omega) (fun q hq => (hownd.lt q hq).1)
        have hownE : w2.ownsRow wr.heap.size 3 1 (.slice ea (c ++ [(x : Int)]).length ec) (c ++ [(x : Int)]).length (intCells (c ++ [(x : Int)])) := by
          have e1 : (c ++ [(x : Int)]).length = c.length + 1 := by simp
          have e2 : intCells (c ++ [(x : Int)]) = intCells c ++ [.int .i64 x] := by simp [intCells]
          rw [e1, e2]; exact hown2
        have hints := intsAt_of_own hownE
        have hlow2 : Below w0.heap.size w0 w2 := hlow.trans (hb2.mono hlow.size)
        have hsnd := rSound_any ta ea tc ec (ts.take (c.length + 1)) (c ++ [(x : Int)]) w2 ((ht.below hlow2).take _) hints (by simp; omega) (by simp; omega) (by simpa using argsIn_take Hhts.out (c.length + 1))
        have e3 : (ts.take (c.length + 1)).length = c.length + 1 := by simp; omega
        have e4 : (c ++ [(x : Int)]).length = c.length + 1 := by simp
        rw [e3, e4] at hsnd
        have Hsnd := hide hsnd
        have s1 : ((c.length : Int) + 1) ≤ (tc : Int) := by omega
        have s2 : ((c.length : Int) + 1) ≤ (ts.length : Int) := by omega
        have s3 : c.length + 1 ≤ tc := by omega
        have HF : Hid (eachF ts k c g x = if soundB (ts.take (c.length + 1)) (c ++ [(x : Int)]) then eachL ts k (c ++ [(x : Int)]) (max g x) else []) := rfl
        have hcntF := eachF_count (ts := ts) (k := k) (c := c) (g := g) (x := x) (by omega) hg2 hxg
        clear hsnd hown2 hgr2 hownd hbd hints
        go_wp2_with fail
        refine Hsnd.out.mono ?_
        rintro e w3 ⟨rfl, n3, rfl⟩
        have hb3 : Below wr.heap.size wr (w2.drewN n3) := below_drewN hb2 n3
        have hbox3 : (w2.drewN n3).heap[bx]? = some (.cells #[v'] 48 (0, 0)) := by rw [hb3.block bx hbx1]; exact hbox'
        have hys3 := hys'.below hb3
        have hfr3 : Fr w (w2.drewN n3) bx v := hfr.trans hnx (Fr.below hb3 bx v')
        have hlow3 := below_drewN hlow2 n3
        have hownE3 : (w2.drewN n3).ownsRow wr.heap.size 3 1 (.slice ea (c ++ [(x : Int)]).length ec) (c ++ [(x : Int)]).length (intCells (c ++ [(x : Int)])) := own_below hownE (below_drewN (Below.refl _ _) n3)
        have hsz3 := hb3.size
        clear Hsnd hb2 hlow2 hownE
        generalize w2.drewN n3 = w4 at *
        have hP : x * 10 ^ k ≤ 8 * 10 ^ k := Nat.mul_le_mul_right _ (by omega)
        have hmul : (x + 1) * 10 ^ k = x * 10 ^ k + 10 ^ k := Nat.succ_mul _ _
        have hcl := Hc.out
        cases hs : soundB (ts.take (c.length + 1)) (c ++ [(x : Int)])
        · have HF0 : Hid (eachF ts k c g x = []) := by show _ = _; rw [HF.out, hs]; rfl
          have Hm2 : Hid (ys'.map Wy.xs = ys.map Wy.xs ++ (List.range (x + 1)).flatMap (eachF ts k c g)) := by show _ = _; rw [range_snoc, HF0.out, List.append_nil]; exact Hm.out
          have Hc2 : Hid (ys'.length ≤ ys.length + (x + 1) * 10 ^ k) := by show _ ≤ _; omega
          clear hP hmul hcl hcntF hs
          go_wp2_with fail
          go_roundg ((g + 2).toNat - (x + 1))
          case measure => omega
          case rel => exact ⟨x + 1, v', ys', rfl, by omega, by go_num, hbox3, hys3, Hm2, Hc2, hfr3, hnx⟩
        · have HF1 : Hid (eachF ts k c g x = eachL ts k (c ++ [(x : Int)]) (max g x)) := by show _ = _; rw [HF.out, hs]; rfl
          have hcon := Hih.out (c ++ [(x : Int)]) ea ec (max g x) bx BB v' ys' w4 (by simp; omega) (by omega) (by simp; omega) (by omega) hlow3 hbx0 hbx (by omega) hbox3 hys3 (own_base hownE3 hBBr) (fun h => by simp at h)
          rw [e4] at hcon
          have Hcon := hide hcon
          have Hc0 := hide hcl
          have HP := hide hP
          have HM := hide hmul
          have HcF := hide hcntF
          clear hcon hP hmul hcl hs hcntF
          by_cases hgx : g < x
          · have hgx2 : ¬ (x : Int) < g := by omega
            rw [show max g (x : Int) = (x : Int) by omega] at Hcon
            go_wp2_with fail
            refine Hcon.out.mono ?_
            rintro e w5 ⟨r, v2, ys2, rfl, hbox5, hys5, hm5, hfr5, hnx5⟩
            have Hm2 : Hid (ys2.map Wy.xs = ys.map Wy.xs ++ (List.range (x + 1)).flatMap (eachF ts k c g)) := by
              show _ = _
              rw [range_snoc, HF1.out, show max g (x : Int) = (x : Int) by omega, ← List.append_assoc, ← Hm.out]; exact hm5
            have Hc2 : Hid (ys2.length ≤ ys.length + (x + 1) * 10 ^ k) := by
              show _ ≤ _
              have h1 := congrArg List.length hm5
              have h2 := HcF.out
              rw [HF1.out, show max g (x : Int) = (x : Int) by omega] at h2
              simp only [List.length_map, List.length_append] at h1
              have h3 := Hc0.out
              have h4 := HM.out
              omega
            have hfr6 : Fr w w5 bx v := hfr3.trans hnx hfr5
            have hnx6 : NX w v v2 := hnx.trans hfr3.size hnx5
            clear hm5 hfr5 hnx5 Hcon
            go_wp2_with fail
            go_roundg ((g + 2).toNat - (x + 1))
            case measure => omega
            case rel => exact ⟨x + 1, v2, ys2, rfl, by omega, by go_num, hbox5, hys5, Hm2, Hc2, hfr6, hnx6⟩
          · rw [show max g (x : Int) = g by omega] at Hcon
            by_cases hgx2 : (x : Int) < g
            · go_wp2_with fail
              refine Hcon.out.mono ?_
              rintro e w5 ⟨r, v2, ys2, rfl, hbox5, hys5, hm5, hfr5, hnx5⟩
              have Hm2 : Hid (ys2.map Wy.xs = ys.map Wy.xs ++ (List.range (x + 1)).flatMap (eachF ts k c g)) := by
                show _ = _
                rw [range_snoc, HF1.out, show max g (x : Int) = g by omega, ← List.append_assoc, ← Hm.out]; exact hm5
              have Hc2 : Hid (ys2.length ≤ ys.length + (x + 1) * 10 ^ k) := by
                show _ ≤ _
                have h1 := congrArg List.length hm5
                have h2 := HcF.out
                rw [HF1.out, show max g (x : Int) = g by omega] at h2
                simp only [List.length_map, List.length_append] at h1
                have h3 := Hc0.out
                have h4 := HM.out
                omega
              have hfr6 : Fr w w5 bx v := hfr3.trans hnx hfr5
              have hnx6 : NX w v v2 := hnx.trans hfr3.size hnx5
              clear hm5 hfr5 hnx5 Hcon
              go_wp2_with fail
              go_roundg ((g + 2).toNat - (x + 1))
              case measure => omega
              case rel => exact ⟨x + 1, v2, ys2, rfl, by omega, by go_num, hbox5, hys5, Hm2, Hc2, hfr6, hnx6⟩
            · go_wp2_with fail
              refine Hcon.out.mono ?_
              rintro e w5 ⟨r, v2, ys2, rfl, hbox5, hys5, hm5, hfr5, hnx5⟩
              have Hm2 : Hid (ys2.map Wy.xs = ys.map Wy.xs ++ (List.range (x + 1)).flatMap (eachF ts k c g)) := by
                show _ = _
                rw [range_snoc, HF1.out, show max g (x : Int) = g by omega, ← List.append_assoc, ← Hm.out]; exact hm5
              have Hc2 : Hid (ys2.length ≤ ys.length + (x + 1) * 10 ^ k) := by
                show _ ≤ _
                have h1 := congrArg List.length hm5
                have h2 := HcF.out
                rw [HF1.out, show max g (x : Int) = g by omega] at h2
                simp only [List.length_map, List.length_append] at h1
                have h3 := Hc0.out
                have h4 := HM.out
                omega
              have hfr6 : Fr w w5 bx v := hfr3.trans hnx hfr5
              have hnx6 : NX w v v2 := hnx.trans hfr3.size hnx5
              clear hm5 hfr5 hnx5 Hcon
              go_wp2_with fail
              go_roundg ((g + 2).toNat - (x + 1))
              case measure => omega
              case rel => exact ⟨x + 1, v2, ys2, rfl, by omega, by go_num, hbox5, hys5, Hm2, Hc2, hfr6, hnx6⟩
    · have hxe : x = (g + 2).toNat := by omega
      have Hend : Hid (ys'.map Wy.xs = ys.map Wy.xs ++ eachL ts (k + 1) c g) := by
        show _ = _
        rw [Hm.out, hxe]; rfl
      have hng : ¬ (x : Int) ≤ g + 1 := by omega
      clear hxe
      go_wp2_with fail
      exact ⟨rfl, .tuple #[], by simp [results, Try.results51, go_sem], ⟨_, rfl⟩, v', hbox', ys', hys', Hend.out, hfr, hnx⟩
theorem each_all (w0 : World) (ta : Option Addr) (tc : Nat) (ts : List Tm) (ht : TermsAt w0 ta ts) (hts : termsB ts = true) (htc : ts.length ≤ tc) : ∀ k, EachHolds w0 ta tc ts k
  | 0 => each_zero w0 ta tc ts (len_of hts).1 (len_of hts).2
  | k + 1 => each_succ w0 ta tc ts ht hts htc k (each_all w0 ta tc ts ht hts htc k)
set_option maxRecDepth 100000 in
set_option maxHeartbeats 400000 in
theorem all_any (ta : Option Addr) (tc : Nat) (ts : List Tm) (w : World) (ht : TermsAt w ta ts) (hts : termsB ts = true) (htc : ts.length ≤ tc) :
    Calls Try.prog 39 #[.slice ta ts.length tc] w fun e w' => ∃ a cap ys, e = .returned (.slice a ys.length cap) ∧ WaysAt w' a ys ∧ ys.map Wy.xs = eachL ts ts.length [] (-1) ∧ ys.length ≤ 1000000000 ∧ Below w.heap.size w w' := by
  obtain ⟨W, hW⟩ : ∃ W, W = w.alloc (.cells #[.slice none 0 0] 48) := ⟨_, rfl⟩
  have hb : Below w.heap.size w W := by rw [hW]; exact below_new _ _
  have hbox : W.heap[w.heap.size]? = some (.cells #[.slice none 0 0] 48 (0, 0)) := by rw [hW]; exact heap_at_new _ _ _ rfl
  have hs : W.heap.size = w.heap.size + 1 := by rw [hW]; simp
  have h9 := (len_of hts).2
  have hp : 10 ^ ts.length ≤ 1000000000 := Nat.le_trans (Nat.pow_le_pow_right (by omega) h9) (by decide)
  have hcon := each_all w ta tc ts ht hts htc ts.length [] none 0 (-1) w.heap.size (w.heap.size + 1) (.slice none 0 0) [] W (by simp) (by omega) (by simp) (by simpa using hp) hb (Nat.le_refl _) (by omega) (by omega) hbox ⟨World.ownsRow_nil _ _ _ _, fun i hi => by simp at hi⟩ (World.ownsRow_nil _ _ _ _) (fun _ => ⟨rfl, rfl⟩)
  have Hcon := hide hcon
  have Hcount : Hid ((eachL ts ts.length [] (-1)).length ≤ 10 ^ ts.length) := eachL_count ts ts.length [] (-1) (by simp; omega) (by simp)
  clear hcon
  go_enter Try.func39, Try.ntmps39
  go_upto_region 2 with fail
  rw [← hW]
  clear hW
  go_wp2_with fail
  refine Hcon.out.mono ?_
  rintro e w1 ⟨r, v', ys', rfl, hbox1, hys1, hm1, hfr1, hnx1⟩
  obtain ⟨a, cap, rfl, hways⟩ := hys1.at
  have hc : w1.cell? ⟨w.heap.size, 0, none⟩ = some (.slice a ys'.length cap) := by rw [cell_of_row _ _ _ _ _ _ hbox1]; rfl
  have hlow : Below w.heap.size w w1 := hfr1.low hb (Nat.le_refl _) (Nat.lt_succ_self _) (World.ownsRow_nil W (w.heap.size + 1) 24 1)
  have hm2 : ys'.map Wy.xs = eachL ts ts.length [] (-1) := by simpa using hm1
  have hl : ys'.length ≤ 1000000000 := by
    have := congrArg List.length hm2
    rw [List.length_map] at this
    have := Hcount.out
    omega
  clear Hcon hm1
  go_wp2_with fail
  go_ret
  exact ⟨a, cap, ys', rfl, hways, hm2, hl, hlow⟩
end Go.Proofs.Ytiobmhfpnhjmcaa
