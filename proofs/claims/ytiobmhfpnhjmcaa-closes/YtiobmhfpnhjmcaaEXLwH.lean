import Derived.Test.YtiobmhfpnhjmcaaEMLw
namespace Go.Proofs.Ytiobmhfpnhjmcaa
open Go.RowKit
def TmsOk (ts : List Tm) : Prop := ∀ i, i < ts.length → ((ts.getD i tm0).a = none → (ts.getD i tm0).cap = 0) ∧ (ts.getD i tm0).args.length ≤ 17592186043904
def ClsOk (cs : List Cl) : Prop := ∀ i, i < cs.length → ((cs.getD i cl0).a = none → (cs.getD i cl0).cap = 0) ∧ (cs.getD i cl0).ls.length ≤ 5864062014634
def HTn (B : Nat) (ta : Option Addr) (g : Nat) (w : World) (ts : List Tm) (bs : List Nat) (T A : Value) : Prop :=
  (ta = none ∧ ts = [] ∧ T = .slice none 0 0 ∧ A = .slice none 0 0) ∨ (ta ≠ none ∧ T = .slice (some ⟨g, 0, none⟩) (ts.length + 8) (ts.length + 8) ∧ HT B g w ts bs A (ts.length + 8))
def HCn (B : Nat) (sa : Option Addr) (g : Nat) (w : World) (cs : List Cl) (bs : List Nat) (C L : Value) : Prop :=
  (sa = none ∧ cs = [] ∧ C = .slice none 0 0 ∧ L = .slice none 0 0) ∨ (sa ≠ none ∧ C = .slice (some ⟨g, 0, none⟩) (cs.length + 8) (cs.length + 8) ∧ HC B g w cs bs L (cs.length + 8))
def HTlow (M g : Nat) (ta : Option Addr) (ts : List Tm) (bs : List Nat) : Prop := ta ≠ none → g < M ∧ ∀ j, j < ts.length → (ts.getD j tm0).a ≠ none → bs.getD j 0 < M
theorem HT.low {B g : Nat} {w : World} {ts : List Tm} {bs : List Nat} {A : Value} {ta : Option Addr} (h : HT B g w ts bs A (ts.length + 8)) : HTlow w.heap.size g ta ts bs := by
  intro _
  obtain ⟨h1, h2, h3, h4, h5, h6⟩ := h
  refine ⟨h3.lt, fun j hj hn => ?_⟩
  cases ha : (ts.getD j tm0).a with
  | none => exact absurd ha hn
  | some y => exact ((h5 j (by rw [h2, Nat.min_eq_right (by omega)]; exact hj)).2 y ha).lt
def HandAt (H : Nat) (w : World) (ta sa : Option Addr) (ts : List Tm) (cs : List Cl) (tsl csl : Value) : Prop :=
  ∃ (T A C L : Value) (g cg M : Nat) (bs cbs : List Nat), w.heap[H]? = some (.cells #[T, A, C, L, tsl, csl] 72 (0, 0)) ∧ HTn (H + 1) ta g w ts bs T A ∧ HTlow M g ta ts bs ∧ H + 1 ≤ M ∧ HCn M sa cg w cs cbs C L
theorem HTn.kept {B H : Nat} {ta : Option Addr} {g : Nat} {w w' : World} {ts : List Tm} {bs : List Nat} {T A : Value} (h : HTn B ta g w ts bs T A) (hH : H < B) (hg : w.grownBy w' (some H)) : HTn B ta g w' ts bs T A := by
  rcases h with h | ⟨h1, h2, h3⟩
  · exact .inl h
  · exact .inr ⟨h1, h2, h3.kept hH hg⟩
theorem heap6 {w : World} {H : Nat} {a b c d e f : Value} (h : w.heap[H]? = some (.cells #[a, b, c, d, e, f] 72 (0, 0))) :
    w.cell? ⟨H, 0, none⟩ = some a ∧ w.cell? ⟨H, 1, none⟩ = some b ∧ w.cell? ⟨H, 2, none⟩ = some c ∧ w.cell? ⟨H, 3, none⟩ = some d ∧ w.cell? ⟨H, 4, none⟩ = some e ∧ w.cell? ⟨H, 5, none⟩ = some f ∧ ∀ k, w.frozen? ⟨H, k, none⟩ = false := by
  refine ⟨?_, ?_, ?_, ?_, ?_, ?_, fun k => frozen_of_row _ _ _ _ _ h⟩ <;> (rw [cell_of_row _ _ _ _ _ _ h]; rfl)
theorem grown_high {w0 w w' : World} {row : Option Nat} {g : Nat} (h : w0.grownBy w row) (hg : w.grownBy w' (some g)) (hle : w0.heap.size ≤ g) : w0.grownBy w' row :=
  ⟨hg.os.trans h.os, hg.tape.trans h.tape, hg.output.trans h.output, Nat.le_trans h.size hg.size, fun k hk hne => (hg.block k (Nat.lt_of_lt_of_le hk h.size) (fun e => by injection e with e; omega)).trans (h.block k hk hne)⟩
theorem grown_wide {w0 w w' : World} {row row' : Option Nat} (h : w0.grownBy w row) (hg : w.grownBy w' row') (hle : ∀ k, row' = some k → w0.heap.size ≤ k) : w0.grownBy w' row :=
  ⟨hg.os.trans h.os, hg.tape.trans h.tape, hg.output.trans h.output, Nat.le_trans h.size hg.size, fun k hk hne => (hg.block k (Nat.lt_of_lt_of_le hk h.size) (fun e => by have := hle k e.symm; omega)).trans (h.block k hk hne)⟩
theorem grown_below {w0 w w' : World} {row : Option Nat} (h : w0.grownBy w row) (hb : Below w.heap.size w w') : w0.grownBy w' row :=
  ⟨hb.os.trans h.os, hb.tape.trans h.tape, hb.output.trans h.output, Nat.le_trans h.size hb.size, fun k hk hne => (hb.block k (Nat.lt_of_lt_of_le hk h.size)).trans (h.block k hk hne)⟩
theorem made_slices (n : Nat) : madeCells #[.slice none 0 0] n = (List.replicate n (Value.slice none 0 0)).toArray := by
  apply Array.ext
  · simp [size_madeCells]
  · intro i h1 h2
    simp [madeCells, Nat.mod_one]
theorem TRow.apart {w w' : World} {b : Nat} {c : List Tm} {row : Option Nat} (h : TRow w b c) (hg : w.grownBy w' row) (hr : ∀ g, row = some g → ∃ cur e', w.heap[g]? = some (.cells cur e' (0, 0)) ∧ e' ≠ 61) : TRow w' b c := by
  unfold TRow at *
  rw [hg.block b (Array.getElem?_eq_some_iff.1 h).1 (fun e => ?_)]
  · exact h
  · obtain ⟨cur, e', h1, h2⟩ := hr b e.symm
    rw [h] at h1
    injection h1 with h1
    injection h1 with _ h1
    exact h2 h1.symm
set_option maxRecDepth 100000 in
set_option maxHeartbeats 2000000 in
theorem hand_any (ta sa : Option Addr) (tc sc : Nat) (ts : List Tm) (cs : List Cl) (w : World) (ht : TermsAt w ta ts) (hcs : ClausesAt w sa cs) (htn : ta = none → tc = 0) (hsn : sa = none → sc = 0)
    (hto : TmsOk ts) (hco : ClsOk cs) (htl : ts.length ≤ 4398046510976) (hcl : cs.length ≤ 5864062014634) :
    Calls Try.prog 21 #[.agg #[.slice ta ts.length tc, .slice sa cs.length sc]] w fun e w' => e = .returned (.pointer (some ⟨w.heap.size + 1, 0, none⟩)) ∧ HandAt (w.heap.size + 1) w' ta sa ts cs (.slice ta ts.length tc) (.slice sa cs.length sc) ∧ Below w.heap.size w w' := by
  obtain ⟨i1, hi1, hy0, hy1, hy2⟩ := info_parts info_term
  obtain ⟨i2, hi2, hx0, hx1, hx2⟩ := info_parts info_ints
  obtain ⟨i3, hi3, hv0, hv1, hv2⟩ := info_parts info_lits
  have qn := nil_neq 22 61 Try.underlying22
  have qc := nil_neq 31 45 Try.underlying31
  have Hto := hide hto
  have Hco := hide hco
  clear hto hco
  have hb0 : Below w.heap.size w ((w.alloc (.cells #[.slice ta ts.length tc, .slice sa cs.length sc] 33)).alloc (.cells #[.slice none 0 0, .slice none 0 0, .slice none 0 0, .slice none 0 0, .slice ta ts.length tc, .slice sa cs.length sc] 72)) :=
    ((Below.refl _ _).alloc (Nat.le_refl _) _).alloc (by simp) _
  go_enter Try.func21, Try.ntmps21
  go_upto_region 3 with fail
  obtain ⟨W, hW⟩ : ∃ W, W = (w.alloc (.cells #[.slice ta ts.length tc, .slice sa cs.length sc] 33)).alloc (.cells #[.slice none 0 0, .slice none 0 0, .slice none 0 0, .slice none 0 0, .slice ta ts.length tc, .slice sa cs.length sc] 72) := ⟨_, rfl⟩
  rw [← hW]
  have hP0 : W.heap[w.heap.size]? = some (.cells #[.slice ta ts.length tc, .slice sa cs.length sc] 33 (0, 0)) := by rw [hW]; exact heap_at_old _ _ (heap_at_new _ _ _ rfl)
  have hH0 : W.heap[w.heap.size + 1]? = some (.cells #[.slice none 0 0, .slice none 0 0, .slice none 0 0, .slice none 0 0, .slice ta ts.length tc, .slice sa cs.length sc] 72 (0, 0)) := by rw [hW]; exact heap_at_new _ _ _ (by simp)
  have hWs : W.heap.size = w.heap.size + 2 := by rw [hW]; simp
  rw [← hW] at hb0
  have HWs := hide hWs
  clear hW hWs
  have p0 : W.cell? ⟨w.heap.size, 0, none⟩ = some (.slice ta ts.length tc) := by rw [cell_of_row _ _ _ _ _ _ hP0]; rfl
  have p1 : W.cell? ⟨w.heap.size, 1, none⟩ = some (.slice sa cs.length sc) := by rw [cell_of_row _ _ _ _ _ _ hP0]; rfl
  obtain ⟨h0, h1, h2, h3, h4, h5, hf⟩ := heap6 hH0
  have hfz0 := hf 0
  clear hf
  have hl1 : w.heap.size + 1 < W.heap.size := by rw [HWs.out]; omega
  have hl0 : w.heap.size < W.heap.size := by rw [HWs.out]; omega
  rcases ta with _ | x
  focus
    have hts : ts = [] := by
      rcases ht with h | ⟨b, o, h, _⟩
      · exact h
      · cases h
    have htc := htn rfl
    subst hts
    subst htc
    go_upto_block 0 with fail
    go_cut [5] (fun s wx => ∃ (T A : Value) (g : Nat) (bs : List Nat) (Z : Value), Hid (Z = .slice none 0 0) ∧ wx.heap[w.heap.size + 1]? = some (.cells #[T, A, .slice none 0 0, .slice none 0 0, Z, .slice sa cs.length sc] 72 (0, 0)) ∧
      wx.heap[w.heap.size]? = some (.cells #[Z, .slice sa cs.length sc] 33 (0, 0)) ∧ HTn (w.heap.size + 2) none g wx [] bs T A ∧ HTlow wx.heap.size g none [] bs ∧ Below w.heap.size w wx)
    case first =>
      have hHTn : HTn (w.heap.size + 2) none 0 W [] [] (.slice none 0 0) (.slice none 0 0) := .inl ⟨rfl, rfl, rfl, rfl⟩
      have hlow : HTlow W.heap.size 0 none [] [] := fun h => absurd rfl h
      go_wp2_with fail
      refine wp_loop_rounds 1 ?_
      rw [rounds_succ]
      go_wp2_with fail
      go_meet
      exact ⟨_, _, _, _, _, rfl, hH0, hP0, hHTn, hlow, hb0⟩
  rotate_left
  focus
    go_upto_block 0 with (at_make; refine wpList_make_any _ rfl _ _ 22 rfl 61 i1 (.agg #[.int .i64 0, .slice none 0 0]) 2 Try.underlying22 hi1 hy0 hy1 _ _ _ _ (ts.length + 8) rfl rfl (by omega) (by omega) (by rw [hy2]; omega) (by omega) ?_)
    rw [HWs.out]
    have hHs : ((W.setCell ⟨w.heap.size + 1, 0, none⟩ (.slice (some ⟨w.heap.size + 2, 0, none⟩) (ts.length + 8) (ts.length + 8))).alloc (.cells (madeCells #[.int .i64 0, .slice none 0 0] ((ts.length + 8) * 2)) 61)).heap[w.heap.size + 1]? =
        some (.cells #[.slice (some ⟨w.heap.size + 2, 0, none⟩) (ts.length + 8) (ts.length + 8), .slice none 0 0, .slice none 0 0, .slice none 0 0, .slice (some x) ts.length tc, .slice sa cs.length sc] 72 (0, 0)) :=
      heap_at_old _ _ (by rw [heap_setCell_same _ _ _ _ _ _ hH0]; rfl)
    have hPs : ((W.setCell ⟨w.heap.size + 1, 0, none⟩ (.slice (some ⟨w.heap.size + 2, 0, none⟩) (ts.length + 8) (ts.length + 8))).alloc (.cells (madeCells #[.int .i64 0, .slice none 0 0] ((ts.length + 8) * 2)) 61)).heap[w.heap.size]? =
        some (.cells #[.slice (some x) ts.length tc, .slice sa cs.length sc] 33 (0, 0)) :=
      heap_at_old _ _ (by rw [heap_setCell_other _ _ _ _ (by show w.heap.size ≠ w.heap.size + 1; omega)]; exact hP0)
    have hTs : HT (w.heap.size + 2) (w.heap.size + 2) ((W.setCell ⟨w.heap.size + 1, 0, none⟩ (.slice (some ⟨w.heap.size + 2, 0, none⟩) (ts.length + 8) (ts.length + 8))).alloc (.cells (madeCells #[.int .i64 0, .slice none 0 0] ((ts.length + 8) * 2)) 61)) ts [] (.slice none 0 0) 0 := by
      refine ⟨Nat.le_refl _, by simp, ?_, ?_, fun j hj => by simp at hj, fun j k _ hk => by simp at hk⟩
      · unfold TRow
        rw [tDone_zero, made_terms]
        exact heap_at_new _ _ _ (by simp [HWs.out])
      · rw [Nat.zero_min]; exact World.ownsRow_nil _ _ _ _
    have hbs : Below w.heap.size w ((W.setCell ⟨w.heap.size + 1, 0, none⟩ (.slice (some ⟨w.heap.size + 2, 0, none⟩) (ts.length + 8) (ts.length + 8))).alloc (.cells (madeCells #[.int .i64 0, .slice none 0 0] ((ts.length + 8) * 2)) 61)) :=
      (hb0.setCell (by show w.heap.size ≤ w.heap.size + 1; omega) _).alloc (by simp; omega) _
    clear p0 p1 h0 h1 h2 h3 h4 h5 hfz0 hP0 hH0 hl1 hl0
    go_cut [5] (fun s wx => ∃ (T A : Value) (g : Nat) (bs : List Nat) (Z : Value), Hid (Z = .slice (some x) ts.length tc) ∧ wx.heap[w.heap.size + 1]? = some (.cells #[T, A, .slice none 0 0, .slice none 0 0, Z, .slice sa cs.length sc] 72 (0, 0)) ∧
      wx.heap[w.heap.size]? = some (.cells #[Z, .slice sa cs.length sc] 33 (0, 0)) ∧ HTn (w.heap.size + 2) (some x) g wx ts bs T A ∧ HTlow wx.heap.size g (some x) ts bs ∧ Below w.heap.size w wx)
    case first =>
      go_wp2_with fail
      go_loopg [5] (ts.length + 8) (fun q s wx => ∃ (i : Nat) (bs : List Nat) (A : Value), q = ts.length + 8 - i ∧ i ≤ ts.length + 8 ∧ s = .int .i64 i ∧
        wx.heap[w.heap.size + 1]? = some (.cells #[.slice (some ⟨w.heap.size + 2, 0, none⟩) (ts.length + 8) (ts.length + 8), A, .slice none 0 0, .slice none 0 0, .slice (some x) ts.length tc, .slice sa cs.length sc] 72 (0, 0)) ∧
        wx.heap[w.heap.size]? = some (.cells #[.slice (some x) ts.length tc, .slice sa cs.length sc] 33 (0, 0)) ∧ HT (w.heap.size + 2) (w.heap.size + 2) wx ts bs A i ∧ Below w.heap.size w wx)
      case atStart => exact ⟨0, [], _, rfl, by omega, rfl, hHs, hPs, hTs, hbs⟩
      case round =>
        obtain ⟨i, bs, A, rfl, hi, rfl, hH, hP, hHT, hbx⟩ := hrel
        obtain ⟨va, vc, rfl⟩ := own_val hHT.2.2.2.1
        obtain ⟨h0, h1, h2, h3, h4, h5, hf⟩ := heap6 hH
        by_cases hlt : i < ts.length + 8
        · obtain ⟨t0, t1⟩ := hHT.2.2.1.cell (k := i) (by rw [tDone_length]; exact hlt)
          have f0 := hHT.2.2.1.frozen (i * 2)
          have f1 := hHT.2.2.1.frozen (i * 2 + 1)
          generalize ((tDone ts bs i).getD i tm0).sym = z1 at *
          generalize (Value.slice ((tDone ts bs i).getD i tm0).a ((tDone ts bs i).getD i tm0).args.length ((tDone ts bs i).getD i tm0).cap) = z2 at *
          go_upto_region 9 with fail
          obtain ⟨w1, hw1⟩ : ∃ w1, w1 = (wr.setCell ⟨w.heap.size + 2, i * 2, none⟩ (.int .i64 (-77))).setCell ⟨w.heap.size + 2, i * 2 + 1, none⟩ (.slice none 0 0) := ⟨_, rfl⟩
          rw [← hw1]
          have hg1 : wr.grownBy w1 (some (w.heap.size + 2)) := by rw [hw1]; exact grown_set grown_one
          have ht1 : TRow w1 (w.heap.size + 2) ((tDone ts bs i).set i (tmM (-77))) := by rw [hw1]; exact hHT.2.2.1.set (by rw [tDone_length]; exact hlt) (tmM (-77))
          have hltH' := (Array.getElem?_eq_some_iff.1 hH).1
          have hltP' := (Array.getElem?_eq_some_iff.1 hP).1
          have hH1 : w1.heap[w.heap.size + 1]? = _ := (hg1.block _ hltH' (fun e => by injection e with e; omega)).trans hH
          have hP1 : w1.heap[w.heap.size]? = _ := (hg1.block _ hltP' (fun e => by injection e with e; omega)).trans hP
          have hb1 : Below w.heap.size w w1 := hbx.grown hg1 hbx.size (fun k hk => by injection hk with hk; omega)
          have hltH : w.heap.size + 1 < w1.heap.size := Nat.lt_of_lt_of_le hltH' hg1.size
          clear hw1 h0 h1 h2 h3 h4 h5 hf t0 t1 f0 f1
          by_cases hin : i < ts.length
          · obtain ⟨tb, tf, hxx, tcell⟩ := (ht.below hb1).get hin
            injection hxx with hxx
            subst hxx
            obtain ⟨c1, c2, c3⟩ := tcell i hin
            obtain ⟨hcap, hal⟩ := Hto.out i hin
            have p0 : w1.cell? ⟨w.heap.size, 0, none⟩ = some (.slice (some ⟨tb, tf, none⟩) ts.length tc) := by rw [cell_of_row _ _ _ _ _ _ hP1]; rfl
            have hA1 := own_kept hHT.2.2.2.1 hg1 hHT.2.2.1 (by decide)
            have Hti : Hid (ts.getD i tm0 = ts.getD i tm0) := rfl
            generalize htt : ts.getD i tm0 = t at *
            obtain ⟨sym, ad0, cap, args⟩ := t
            simp only at c1 c2 c3 hcap hal
            have Htt := hide htt
            have hmin : min i ts.length ≤ 4398046510976 := by omega
            clear htt tcell
            cases ad0 with
            | none =>
              have hargs : args = [] := by
                rcases c3 with h | ⟨b, o, h, _⟩
                · exact h
                · cases h
              have hcap0 : cap = 0 := hcap rfl
              subst hargs
              subst hcap0
              go_upto_region 10 with fail
              go_wp2_with fail
              refine (fullInts_nil w1).mono ?_
              rintro e w2 ⟨rfl, hw2⟩
              have hb2 : Below w1.heap.size w1 w2 := by rw [hw2]; exact Below.refl _ _
              have hrow2 : True := trivial
              clear hw2
              have hH2 : w2.heap[w.heap.size + 1]? = _ := (hb2.block _ hltH).trans hH1
              obtain ⟨j0, j1, j2, j3, j4, j5, jf⟩ := heap6 hH2
              have jf1 := jf 1
              have hsz2 := hb2.size
              go_upto_region 12 with (at_builtin; refine wpList_append_own _ rfl (.tmp 55) (.tmp 57) 48 rfl (w.heap.size + 2) 24 i2 (.slice none 0 0) 1 24 Try.underlying48 hi2 hx0 hx1 hx2 rfl (by decide) (.slice va (min i ts.length) vc) (min i ts.length) (aDone ts bs i) rfl ((own_below hA1 hb2).alloc _) ⟨w2.heap.size, 0, none⟩ 1 1 [.slice none 0 0] rfl rfl (new_one _ _ _) (fun u hu => by simp at hu; subst hu; rfl) (by unfold maxLen; omega) (by omega) (by simp; omega) ?_)
              intro A' w3 ho3 hg3 hz3
              clear hz3
              have hArow : ∀ k, (Value.slice va (min i ts.length) vc).ownBlock = some k → w.heap.size + 2 ≤ k := fun k hk => (hA1.lt k hk).1
              have hH3 : w3.heap[w.heap.size + 1]? = _ := (hg3.block _ (by simp; omega) (fun e => by have := hArow _ e.symm; omega)).trans (heap_at_old _ _ hH2)
              obtain ⟨k0, k1, k2, k3, k4, k5, kf⟩ := heap6 hH3
              have kf1 := kf 1
              obtain ⟨oa, oc, hov⟩ := own_val ho3
              subst hov
              clear j0 j1 j2 j3 j4 j5 jf jf1 kf
              go_upto_region 12 with fail
              obtain ⟨w4, hw4⟩ : ∃ w4, w4 = w3.setCell ⟨w.heap.size + 1, 1, none⟩ (.slice oa (min i ts.length + 1) oc) := ⟨_, rfl⟩
              rw [← hw4]
              have hg4 : w3.grownBy w4 (some (w.heap.size + 1)) := by rw [hw4]; exact grown_one
              have hH4 : w4.heap[w.heap.size + 1]? = some (.cells #[.slice (some ⟨w.heap.size + 2, 0, none⟩) (ts.length + 8) (ts.length + 8), .slice oa (min i ts.length + 1) oc, .slice none 0 0, .slice none 0 0, .slice (some ⟨tb, tf, none⟩) ts.length tc, .slice sa cs.length sc] 72 (0, 0)) := by
                rw [hw4, heap_setCell_same _ _ _ _ _ _ hH3]; rfl
              have hb4 : Below w.heap.size w w4 := ((((hb1.trans (hb2.mono hb1.size)).alloc (by omega) _).grown hg3 (by simp; omega) (fun k hk => by have := hArow k hk; omega))).grown hg4 (by have := hg3.size; simp at this; omega) (fun k hk => by injection hk with hk; omega)
              have hP4 : w4.heap[w.heap.size]? = some (.cells #[.slice (some ⟨tb, tf, none⟩) ts.length tc, .slice sa cs.length sc] 33 (0, 0)) := by
                rw [hg4.block _ (by have := hg3.size; simp at this; omega) (fun e => by injection e with e; omega), hg3.block _ (by simp; omega) (fun e => by have := hArow _ e.symm; omega), heap_at_old _ _ ((hb2.block _ (by omega)).trans hP1)]
              have hT4 : TRow w4 (w.heap.size + 2) ((tDone ts bs i).set i (tmM (-77))) := by
                have q2 := ht1.below hb2
                have q3 : TRow w3 (w.heap.size + 2) ((tDone ts bs i).set i (tmM (-77))) := TRow.apart (heap_at_old _ _ q2) hg3 (own_type ((own_below hA1 hb2).alloc _) (by decide))
                unfold TRow
                rw [hg4.block _ q3.lt (fun e => by injection e with e; omega)]; exact q3
              clear hw4
              obtain ⟨m0, m1, m2, m3, m4, m5, mf⟩ := heap6 hH4
              have p4 : w4.cell? ⟨w.heap.size, 0, none⟩ = some (.slice (some ⟨tb, tf, none⟩) ts.length tc) := by rw [cell_of_row _ _ _ _ _ _ hP4]; rfl
              obtain ⟨_, _, hxx, ucell⟩ := (ht.below hb4).get hin
              injection hxx with hxx
              injection hxx with hx1' hx2' _
              subst hx1'
              subst hx2'
              obtain ⟨d1, d2, _⟩ := ucell i hin
              rw [Htt.out] at d1 d2
              simp only at d1 d2
              obtain ⟨n0, n1⟩ := hT4.cell (k := i) (by rw [List.length_set, tDone_length]; exact hlt)
              have nf0 := hT4.frozen (i * 2)
              have nf1 := hT4.frozen (i * 2 + 1)
              generalize (((tDone ts bs i).set i (tmM (-77))).getD i tm0).sym = z3 at *
              generalize (Value.slice (((tDone ts bs i).set i (tmM (-77))).getD i tm0).a (((tDone ts bs i).set i (tmM (-77))).getD i tm0).args.length (((tDone ts bs i).set i (tmM (-77))).getD i tm0).cap) = z4 at *
              clear k0 k1 k2 k3 k4 k5 kf1 ucell m1 m2 m3 m4 m5 mf p0 c1 c2
              go_region
              go_upto_region 7 with fail
              obtain ⟨w5, hw5⟩ : ∃ w5, w5 = ((w4.setCell ⟨w.heap.size + 2, i * 2, none⟩ (.int .i64 sym)).setCell ⟨w.heap.size + 2, i * 2 + 1, none⟩ (.slice none 0 0)).drew := ⟨_, rfl⟩
              rw [← hw5]
              have hg5 : w4.grownBy w5 (some (w.heap.size + 2)) := by rw [hw5]; exact grown_drewN (grown_set grown_one) 1
              have hmi : min i ts.length = i := Nat.min_eq_left (by omega)
              have hHT5 : HT (w.heap.size + 2) (w.heap.size + 2) w5 ts (bs ++ [w1.heap.size]) (.slice oa (min i ts.length + 1) oc) (i + 1) := by
                refine hHT.add hin (show w.heap.size + 1 < w.heap.size + 2 by omega) hg1 ht1 hb2 ?_ hg3 ?_ hg4 hg5 ?_
                · intro y hy; rw [Htt.out] at hy; cases hy
                · rw [Htt.out]; rw [hmi] at ho3 ⊢; exact ho3
                · intro hq
                  rw [Htt.out, hw5]
                  exact TRow.set hq (by rw [List.length_set, tDone_length]; exact hlt) (hTm ⟨sym, none, 0, []⟩ w1.heap.size)
              have hH5 : w5.heap[w.heap.size + 1]? = _ := (hg5.block _ (Array.getElem?_eq_some_iff.1 hH4).1 (fun e => by injection e with e; omega)).trans hH4
              have hP5 : w5.heap[w.heap.size]? = _ := (hg5.block _ (Array.getElem?_eq_some_iff.1 hP4).1 (fun e => by injection e with e; omega)).trans hP4
              have hb5 : Below w.heap.size w w5 := hb4.grown hg5 hb4.size (fun k hk => by injection hk with hk; omega)
              have HHT5 := hide hHT5
              clear hHT5 hw5 hmi hHT ho3 hg3 hg4 hg5 hg1 ht1 hrow2 hA1 hArow
              go_wp2_with fail
              go_roundg (ts.length + 8 - (i + 1))
              case measure => omega
              case rel => exact ⟨i + 1, bs ++ [w1.heap.size], _, rfl, by omega, by go_num, hH5, hP5, HHT5.out, hb5⟩
            | some ad =>
              go_upto_region 10 with fail
              go_wp2_with fail
              refine (fullInts_any ad cap args w1 c3 hal).mono ?_
              rintro e w2 ⟨rfl, hrow2, hb2⟩
              have hH2 : w2.heap[w.heap.size + 1]? = _ := (hb2.block _ hltH).trans hH1
              obtain ⟨j0, j1, j2, j3, j4, j5, jf⟩ := heap6 hH2
              have jf1 := jf 1
              have hsz2 := hb2.size
              go_upto_region 12 with (at_builtin; refine wpList_append_own _ rfl (.tmp 55) (.tmp 57) 48 rfl (w.heap.size + 2) 24 i2 (.slice none 0 0) 1 24 Try.underlying48 hi2 hx0 hx1 hx2 rfl (by decide) (.slice va (min i ts.length) vc) (min i ts.length) (aDone ts bs i) rfl ((own_below hA1 hb2).alloc _) ⟨w2.heap.size, 0, none⟩ 1 1 [.slice (some ⟨w1.heap.size, 0, none⟩) (args.length + 8) (args.length + 8)] rfl rfl (new_one _ _ _) (fun u hu => by simp at hu; subst hu; rfl) (by unfold maxLen; omega) (by omega) (by simp; omega) ?_)
              intro A' w3 ho3 hg3 hz3
              clear hz3
              have hArow : ∀ k, (Value.slice va (min i ts.length) vc).ownBlock = some k → w.heap.size + 2 ≤ k := fun k hk => (hA1.lt k hk).1
              have hH3 : w3.heap[w.heap.size + 1]? = _ := (hg3.block _ (by simp; omega) (fun e => by have := hArow _ e.symm; omega)).trans (heap_at_old _ _ hH2)
              obtain ⟨k0, k1, k2, k3, k4, k5, kf⟩ := heap6 hH3
              have kf1 := kf 1
              obtain ⟨oa, oc, hov⟩ := own_val ho3
              subst hov
              clear j0 j1 j2 j3 j4 j5 jf jf1 kf
              go_upto_region 12 with fail
              obtain ⟨w4, hw4⟩ : ∃ w4, w4 = w3.setCell ⟨w.heap.size + 1, 1, none⟩ (.slice oa (min i ts.length + 1) oc) := ⟨_, rfl⟩
              rw [← hw4]
              have hg4 : w3.grownBy w4 (some (w.heap.size + 1)) := by rw [hw4]; exact grown_one
              have hH4 : w4.heap[w.heap.size + 1]? = some (.cells #[.slice (some ⟨w.heap.size + 2, 0, none⟩) (ts.length + 8) (ts.length + 8), .slice oa (min i ts.length + 1) oc, .slice none 0 0, .slice none 0 0, .slice (some ⟨tb, tf, none⟩) ts.length tc, .slice sa cs.length sc] 72 (0, 0)) := by
                rw [hw4, heap_setCell_same _ _ _ _ _ _ hH3]; rfl
              have hb4 : Below w.heap.size w w4 := ((((hb1.trans (hb2.mono hb1.size)).alloc (by omega) _).grown hg3 (by simp; omega) (fun k hk => by have := hArow k hk; omega))).grown hg4 (by have := hg3.size; simp at this; omega) (fun k hk => by injection hk with hk; omega)
              have hP4 : w4.heap[w.heap.size]? = some (.cells #[.slice (some ⟨tb, tf, none⟩) ts.length tc, .slice sa cs.length sc] 33 (0, 0)) := by
                rw [hg4.block _ (by have := hg3.size; simp at this; omega) (fun e => by injection e with e; omega), hg3.block _ (by simp; omega) (fun e => by have := hArow _ e.symm; omega), heap_at_old _ _ ((hb2.block _ (by omega)).trans hP1)]
              have hT4 : TRow w4 (w.heap.size + 2) ((tDone ts bs i).set i (tmM (-77))) := by
                have q2 := ht1.below hb2
                have q3 : TRow w3 (w.heap.size + 2) ((tDone ts bs i).set i (tmM (-77))) := TRow.apart (heap_at_old _ _ q2) hg3 (own_type ((own_below hA1 hb2).alloc _) (by decide))
                unfold TRow
                rw [hg4.block _ q3.lt (fun e => by injection e with e; omega)]; exact q3
              clear hw4
              obtain ⟨m0, m1, m2, m3, m4, m5, mf⟩ := heap6 hH4
              have p4 : w4.cell? ⟨w.heap.size, 0, none⟩ = some (.slice (some ⟨tb, tf, none⟩) ts.length tc) := by rw [cell_of_row _ _ _ _ _ _ hP4]; rfl
              obtain ⟨_, _, hxx, ucell⟩ := (ht.below hb4).get hin
              injection hxx with hxx
              injection hxx with hx1' hx2' _
              subst hx1'
              subst hx2'
              obtain ⟨d1, d2, _⟩ := ucell i hin
              rw [Htt.out] at d1 d2
              simp only at d1 d2
              obtain ⟨n0, n1⟩ := hT4.cell (k := i) (by rw [List.length_set, tDone_length]; exact hlt)
              have nf0 := hT4.frozen (i * 2)
              have nf1 := hT4.frozen (i * 2 + 1)
              generalize (((tDone ts bs i).set i (tmM (-77))).getD i tm0).sym = z3 at *
              generalize (Value.slice (((tDone ts bs i).set i (tmM (-77))).getD i tm0).a (((tDone ts bs i).set i (tmM (-77))).getD i tm0).args.length (((tDone ts bs i).set i (tmM (-77))).getD i tm0).cap) = z4 at *
              clear k0 k1 k2 k3 k4 k5 kf1 ucell m1 m2 m3 m4 m5 mf p0 c1 c2
              go_region
              go_upto_region 7 with fail
              obtain ⟨w5, hw5⟩ : ∃ w5, w5 = ((w4.setCell ⟨w.heap.size + 2, i * 2, none⟩ (.int .i64 sym)).setCell ⟨w.heap.size + 2, i * 2 + 1, none⟩ (.slice (some ⟨w1.heap.size, 0, none⟩) args.length (args.length + 8))).drew := ⟨_, rfl⟩
              rw [← hw5]
              have hg5 : w4.grownBy w5 (some (w.heap.size + 2)) := by rw [hw5]; exact grown_drewN (grown_set grown_one) 1
              have hmi : min i ts.length = i := Nat.min_eq_left (by omega)
              have hHT5 : HT (w.heap.size + 2) (w.heap.size + 2) w5 ts (bs ++ [w1.heap.size]) (.slice oa (min i ts.length + 1) oc) (i + 1) := by
                refine hHT.add hin (show w.heap.size + 1 < w.heap.size + 2 by omega) hg1 ht1 hb2 ?_ hg3 ?_ hg4 hg5 ?_
                · intro y _; rw [Htt.out]; exact hrow2
                · rw [Htt.out]; rw [hmi] at ho3 ⊢; exact ho3
                · intro hq
                  rw [Htt.out, hw5]
                  exact TRow.set hq (by rw [List.length_set, tDone_length]; exact hlt) (hTm ⟨sym, some ad, cap, args⟩ w1.heap.size)
              have hH5 : w5.heap[w.heap.size + 1]? = _ := (hg5.block _ (Array.getElem?_eq_some_iff.1 hH4).1 (fun e => by injection e with e; omega)).trans hH4
              have hP5 : w5.heap[w.heap.size]? = _ := (hg5.block _ (Array.getElem?_eq_some_iff.1 hP4).1 (fun e => by injection e with e; omega)).trans hP4
              have hb5 : Below w.heap.size w w5 := hb4.grown hg5 hb4.size (fun k hk => by injection hk with hk; omega)
              have HHT5 := hide hHT5
              clear hHT5 hw5 hmi hHT ho3 hg3 hg4 hg5 hg1 ht1 hrow2 hA1 hArow
              go_wp2_with fail
              go_roundg (ts.length + 8 - (i + 1))
              case measure => omega
              case rel => exact ⟨i + 1, bs ++ [w1.heap.size], _, rfl, by omega, by go_num, hH5, hP5, HHT5.out, hb5⟩
          · have ht1' := ht1
            rw [tDone_mark ts bs i (by omega)] at ht1'
            have hHT2 := hHT.mark (by omega) hg1 ht1'
            have HHT2 := hide hHT2
            clear hHT2 hHT ht1 ht1'
            go_wp2_with fail
            go_roundg (ts.length + 8 - (i + 1))
            case measure => omega
            case rel => exact ⟨i + 1, bs, _, rfl, by omega, by go_num, hH1, hP1, HHT2.out, hb1⟩
        · have hin : i = ts.length + 8 := by omega
          subst hin
          have hHTn : HTn (w.heap.size + 2) (some x) (w.heap.size + 2) wr ts bs (.slice (some ⟨w.heap.size + 2, 0, none⟩) (ts.length + 8) (ts.length + 8)) (.slice va (min (ts.length + 8) ts.length) vc) := .inr ⟨by simp, rfl, hHT⟩
          have hlow : HTlow wr.heap.size (w.heap.size + 2) (some x) ts bs := hHT.low
          have HHTn := hide hHTn
          have Hlow := hide hlow
          clear hHTn hlow hHT
          go_wp2_with fail
          go_meet
          exact ⟨_, _, _, bs, _, rfl, hH, hP, HHTn.out, Hlow.out, hbx⟩
  all_goals
    obtain ⟨T, A, g, bs, Z, HZ, hH, hP, hHTn, hlow, hb3⟩ := hcut
    obtain ⟨h0, h1, h2, h3, h4, h5, hf⟩ := heap6 hH
    have hf2 := hf 2
    have p1 : wc.cell? ⟨w.heap.size, 1, none⟩ = some (.slice sa cs.length sc) := by rw [cell_of_row _ _ _ _ _ _ hP]; rfl
    have hltH := (Array.getElem?_eq_some_iff.1 hH).1
    have HHTn := hide hHTn
    have Hlow := hide hlow
    clear hHTn hlow hf
    rcases sa with _ | y
    focus
      have hcs0 : cs = [] := by
        rcases hcs with h | ⟨b, o, h, _⟩
        · exact h
        · cases h
      have hsc := hsn rfl
      subst hcs0
      subst hsc
      go_wp2_with fail
      refine wp_loop_rounds 1 ?_
      rw [rounds_succ]
      go_wp2_with fail
      go_ret
      exact ⟨rfl, ⟨T, A, _, _, g, 0, wc.heap.size, bs, [], by rw [HZ.out] at hH; exact hH, HHTn.out, Hlow.out, by omega, .inl ⟨rfl, rfl, rfl, rfl⟩⟩, hb3⟩
    focus
      go_upto_block 2 with (at_make; refine wpList_make_any _ rfl _ _ 31 rfl 45 i3 (.slice none 0 0) 1 Try.underlying31 hi3 hv0 hv1 _ _ _ _ (cs.length + 8) rfl rfl (by omega) (by omega) (by rw [hv2]; omega) (by omega) ?_)
      obtain ⟨w0, hw0⟩ : ∃ w0, w0 = (wc.setCell ⟨w.heap.size + 1, 2, none⟩ (.slice (some ⟨wc.heap.size, 0, none⟩) (cs.length + 8) (cs.length + 8))).alloc (.cells (madeCells #[.slice none 0 0] (cs.length + 8)) 45) := ⟨_, rfl⟩
      rw [← hw0]
      have hg0 : wc.grownBy w0 (some (w.heap.size + 1)) := by rw [hw0]; exact grown_alloc grown_one _
      have hH0' : w0.heap[w.heap.size + 1]? = some (.cells #[T, A, .slice (some ⟨wc.heap.size, 0, none⟩) (cs.length + 8) (cs.length + 8), .slice none 0 0, Z, .slice (some y) cs.length sc] 72 (0, 0)) := by
        rw [hw0]; exact heap_at_old _ _ (by rw [heap_setCell_same _ _ _ _ _ _ hH]; rfl)
      have hC0 : HC wc.heap.size wc.heap.size w0 cs [] (.slice none 0 0) 0 := by
        refine ⟨Nat.le_refl _, rfl, ?_, ?_, fun j hj => by omega, fun j k _ hk => by omega⟩
        · unfold CRow
          rw [cDone_zero, hw0, made_slices]
          exact heap_at_new _ _ _ (by simp)
        · rw [Nat.zero_min]; exact World.ownsRow_nil _ _ _ _
      clear hw0 h0 h1 h2 h3 h4 h5 hf2 p1
      go_wp2_with fail
      go_loopg [8] (cs.length + 8) (fun q s wx => ∃ (i : Nat) (cbs : List Nat) (L : Value), q = cs.length + 8 - i ∧ i ≤ cs.length + 8 ∧ s = .int .i64 i ∧
        wx.heap[w.heap.size + 1]? = some (.cells #[T, A, .slice (some ⟨wc.heap.size, 0, none⟩) (cs.length + 8) (cs.length + 8), L, Z, .slice (some y) cs.length sc] 72 (0, 0)) ∧ HC wc.heap.size wc.heap.size wx cs cbs L i ∧ wc.grownBy wx (some (w.heap.size + 1)))
      case atStart => exact ⟨0, [], _, rfl, by omega, rfl, hH0', hC0, hg0⟩
      case round =>
        obtain ⟨i, cbs, L, rfl, hi, rfl, hHr, hHC, hgr⟩ := hrel
        obtain ⟨va, vc, rfl⟩ := own_val hHC.2.2.2.1
        obtain ⟨h0, h1, h2, h3, h4, h5, hf⟩ := heap6 hHr
        have hbr : Below w.heap.size w wr := hb3.grown hgr hb3.size (fun k hk => by injection hk with hk; omega)
        have hPr : wr.heap[w.heap.size]? = some (.cells #[Z, .slice (some y) cs.length sc] 33 (0, 0)) := (hgr.block _ (by omega) (fun e => by injection e with e; omega)).trans hP
        have hltw := hgr.size
        by_cases hlt : i < cs.length + 8
        · have t0 := hHC.2.2.1.cell (k := i) (by rw [cDone_length]; exact hlt)
          have f0 := hHC.2.2.1.frozen i
          have hgl := hHC.2.2.1.lt
          generalize (cDone cs cbs i).getD i undef = z1 at *
          go_upto_region 20 with fail
          obtain ⟨w1, hw1⟩ : ∃ w1, w1 = (wr.setCell ⟨wc.heap.size, i, none⟩ (.slice (some ⟨wr.heap.size, 0, none⟩) 1 1)).alloc (.cells #[.int .i64 (-77), .int .i64 0, .bool false] 44) := ⟨_, rfl⟩
          rw [← hw1]
          have hg1 : wr.grownBy w1 (some wc.heap.size) := by rw [hw1]; exact grown_alloc grown_one _
          have hC1 : CRow w1 wc.heap.size ((cDone cs cbs i).set i (.slice (some ⟨wr.heap.size, 0, none⟩) 1 1)) := by rw [hw1]; exact heap_at_old _ _ (hHC.2.2.1.set _ _)
          have hM1 : LRow w1 wr.heap.size [ltM (-77)] := by rw [hw1]; exact heap_at_new _ _ _ (by simp)
          have hs1 : wr.heap.size + 1 = w1.heap.size := by rw [hw1]; simp
          have hL1 : w1.ownsRow (wc.heap.size + 1) 45 1 (.slice va (min i cs.length) vc) (min i cs.length) (lDone cs cbs i) := own_low hHC.2.2.2.1 hg1 (by omega)
          have hH1 : w1.heap[w.heap.size + 1]? = _ := (hg1.block _ (Array.getElem?_eq_some_iff.1 hHr).1 (fun e => by injection e with e; omega)).trans hHr
          have hP1 : w1.heap[w.heap.size]? = _ := (hg1.block _ (Array.getElem?_eq_some_iff.1 hPr).1 (fun e => by injection e with e; omega)).trans hPr
          have hgc1 : wc.grownBy w1 (some (w.heap.size + 1)) := grown_high hgr hg1 (Nat.le_refl _)
          have hb1 : Below w.heap.size w w1 := hb3.grown hgc1 hb3.size (fun k hk => by injection hk with hk; omega)
          clear hw1 h0 h1 h2 h3 h4 h5 hf t0 f0
          by_cases hin : i < cs.length
          · obtain ⟨sb, so, hxx, scell⟩ := (hcs.below hb1).get hin
            injection hxx with hxx
            subst hxx
            obtain ⟨c1, c2⟩ := scell i hin
            obtain ⟨hcap, hal⟩ := Hco.out i hin
            have p0 : w1.cell? ⟨w.heap.size, 1, none⟩ = some (.slice (some ⟨sb, so, none⟩) cs.length sc) := by rw [cell_of_row _ _ _ _ _ _ hP1]; rfl
            generalize htt : cs.getD i cl0 = t at *
            obtain ⟨ad0, cap, ls⟩ := t
            simp only at c1 c2 hcap hal
            have Htt := hide htt
            have hmin : min i cs.length ≤ 5864062014634 := by omega
            clear htt scell
            rcases ad0 with _ | ad
            focus
              next =>
                have hls0 : ls = [] := by
                  rcases c2 with h | ⟨b, o, h, _⟩
                  · exact h
                  · cases h
                have hcap0 : cap = 0 := hcap rfl
                subst hls0
                subst hcap0
                go_wp2_with fail
                refine (fullLits_nil w1).mono ?_
                rintro e w2 ⟨rfl, hw2⟩
                have hb2 : Below w1.heap.size w1 w2 := by rw [hw2]; exact Below.refl _ _
                have hrow2 : True := trivial
                clear hw2
                have hH2 : w2.heap[w.heap.size + 1]? = _ := (hb2.block _ (by omega)).trans hH1
                obtain ⟨j0, j1, j2, j3, j4, j5, jf⟩ := heap6 hH2
                have jf3 := jf 3
                have hsz2 := hb2.size
                go_upto_region 23 with (at_builtin; refine wpList_append_own _ rfl (.tmp 125) (.tmp 127) 31 rfl (wc.heap.size + 1) 45 i3 (.slice none 0 0) 1 24 Try.underlying31 hi3 hv0 hv1 hv2 rfl (by decide) (.slice va (min i cs.length) vc) (min i cs.length) (lDone cs cbs i) rfl ((own_below hL1 hb2).alloc _) ⟨w2.heap.size, 0, none⟩ 1 1 [.slice none 0 0] rfl rfl (new_one _ _ _) (fun u hu => by simp at hu; subst hu; rfl) (by unfold maxLen; omega) (by omega) (by simp; omega) ?_)
                intro L' w3 ho3 hg3 hz3
                clear hz3
                have hLrow : ∀ k, (Value.slice va (min i cs.length) vc).ownBlock = some k → wc.heap.size + 1 ≤ k := fun k hk => (hL1.lt k hk).1
                have hs3 := hg3.size
                simp only [World.size_alloc] at hs3
                have hH3 : w3.heap[w.heap.size + 1]? = _ := (hg3.block _ (by simp; omega) (fun e => by have := hLrow _ e.symm; omega)).trans (heap_at_old _ _ hH2)
                obtain ⟨k0, k1, k2, k3, k4, k5, kf⟩ := heap6 hH3
                have kf3 := kf 3
                obtain ⟨oa, oc, hov⟩ := own_val ho3
                subst hov
                clear j0 j1 j2 j3 j4 j5 jf jf3 kf
                go_upto_region 23 with fail
                obtain ⟨w4, hw4⟩ : ∃ w4, w4 = w3.setCell ⟨w.heap.size + 1, 3, none⟩ (.slice oa (min i cs.length + 1) oc) := ⟨_, rfl⟩
                rw [← hw4]
                have hg4 : w3.grownBy w4 (some (w.heap.size + 1)) := by rw [hw4]; exact grown_one
                have hs4 := hg4.size
                have hH4 : w4.heap[w.heap.size + 1]? = some (.cells #[T, A, .slice (some ⟨wc.heap.size, 0, none⟩) (cs.length + 8) (cs.length + 8), .slice oa (min i cs.length + 1) oc, Z, .slice (some ⟨sb, so, none⟩) cs.length sc] 72 (0, 0)) := by
                  rw [hw4, heap_setCell_same _ _ _ _ _ _ hH3]; rfl
                have hgc3 : wc.grownBy w3 (some (w.heap.size + 1)) := grown_wide (grown_alloc (grown_below hgc1 hb2) _) hg3 (fun k hk => by have := hLrow k hk; omega)
                have hgc4 : wc.grownBy w4 (some (w.heap.size + 1)) := grown_trans hgc3 hg4
                have hb4 : Below w.heap.size w w4 := hb3.grown hgc4 hb3.size (fun k hk => by injection hk with hk; omega)
                have hP4 : w4.heap[w.heap.size]? = some (.cells #[Z, .slice (some ⟨sb, so, none⟩) cs.length sc] 33 (0, 0)) := (hgc4.block _ (by omega) (fun e => by injection e with e; omega)).trans hP
                have hL3 : ∀ b c, b ≠ w.heap.size + 1 → LRow w2 b c → LRow w4 b c := fun b c hne hr => LRow.kept (LRow.apart (heap_at_old _ _ hr) hg3 (own_type ((own_below hL1 hb2).alloc _) (by decide))) hg4 (fun e => hne (by injection e))
                have hC4 : CRow w4 wc.heap.size ((cDone cs cbs i).set i (.slice (some ⟨wr.heap.size, 0, none⟩) 1 1)) :=
                  CRow.kept (CRow.kept (heap_at_old _ _ (hC1.up hb2)) hg3 (fun e => by have := hLrow _ e.symm; omega)) hg4 (fun e => by injection e with e; omega)
                clear hw4
                obtain ⟨m0, m1, m2, m3, m4, m5, mf⟩ := heap6 hH4
                have p4 : w4.cell? ⟨w.heap.size, 1, none⟩ = some (.slice (some ⟨sb, so, none⟩) cs.length sc) := by rw [cell_of_row _ _ _ _ _ _ hP4]; rfl
                obtain ⟨_, _, hxx, ucell⟩ := (hcs.below hb4).get hin
                injection hxx with hxx
                injection hxx with hx1' hx2' _
                subst hx1'
                subst hx2'
                obtain ⟨d1, _⟩ := ucell i hin
                rw [Htt.out] at d1
                simp only at d1
                have n0 := hC4.cell (k := i) (by rw [List.length_set, cDone_length]; exact hlt)
                have nf0 := hC4.frozen i
                generalize ((cDone cs cbs i).set i (Value.slice (some ⟨wr.heap.size, 0, none⟩) 1 1)).getD i undef = z3 at *
                clear k0 k1 k2 k3 k4 k5 kf3 ucell m0 m1 m3 m4 m5 mf p0 c1
                go_region
                go_upto_region 18 with fail
                obtain ⟨w5, hw5⟩ : ∃ w5, w5 = (w4.setCell ⟨wc.heap.size, i, none⟩ (.slice none 0 0)).drew := ⟨_, rfl⟩
                rw [← hw5]
                have hg5 : w4.grownBy w5 (some wc.heap.size) := by rw [hw5]; exact grown_drewN grown_one 1
                have hmi : min i cs.length = i := Nat.min_eq_left (by omega)
                have hcl5 : cbs.length = i := hHC.2.1
                have hHC5 : HC wc.heap.size wc.heap.size w5 cs (cbs ++ [w1.heap.size]) (.slice oa (min i cs.length + 1) oc) (i + 1) := by
                  refine hHC.next ?_ ?_ ?_ ?_ ?_
                  · intro j hj c hr
                    have hjg := (hHC.2.2.2.2.1 j hj).1
                    exact LRow.kept (hL3 _ _ (by omega) ((hr.kept hg1 (fun e => by injection e with e; omega)).up hb2)) hg5 (fun e => by injection e with e; omega)
                  · rw [← cDone_add cs cbs i _ hcl5 hlt, ← cDone_twice cs cbs i (.slice (some ⟨wr.heap.size, 0, none⟩) 1 1), hw5]
                    have e1 : cVal cs (cbs ++ [w1.heap.size]) i = .slice none 0 0 := by
                      unfold cVal
                      rw [if_pos hin, Htt.out, show (cbs ++ [w1.heap.size]).getD i 0 = w1.heap.size by rw [← hcl5]; exact getD_snoc_eq _ _ _]
                      rfl
                    rw [e1]
                    exact CRow.set hC4 i _
                  · rw [← lDone_add cs cbs i _ hin hcl5, Htt.out]
                    rw [Nat.min_eq_left (show i + 1 ≤ cs.length by omega)]
                    rw [hmi] at ho3 ⊢
                    exact own_low (own_low ho3 hg4 (by omega)) hg5 (by omega)
                  · have := hg1.size; omega
                  · intro hh
                    rcases hh with hh | hh
                    · omega
                    · rw [Htt.out] at hh; exact absurd rfl hh
                have hH5 : w5.heap[w.heap.size + 1]? = _ := (hg5.block _ (Array.getElem?_eq_some_iff.1 hH4).1 (fun e => by injection e with e; omega)).trans hH4
                have hgc5 : wc.grownBy w5 (some (w.heap.size + 1)) := grown_high hgc4 hg5 (Nat.le_refl _)
                have HHC5 := hide hHC5
                clear hHC5 hw5 hmi hHC ho3 hg3 hg4 hg5 hg1 hrow2 hL1 hLrow hL3
                go_wp2_with fail
                go_roundg (cs.length + 8 - (i + 1))
                case measure => omega
                case rel => exact ⟨i + 1, cbs ++ [w1.heap.size], _, rfl, by omega, by go_num, hH5, HHC5.out, hgc5⟩
            focus
              next =>
                go_wp2_with fail
                refine (fullLits_any ad cap ls w1 c2 hal).mono ?_
                rintro e w2 ⟨rfl, hrow2, hb2⟩
                have hH2 : w2.heap[w.heap.size + 1]? = _ := (hb2.block _ (by omega)).trans hH1
                obtain ⟨j0, j1, j2, j3, j4, j5, jf⟩ := heap6 hH2
                have jf3 := jf 3
                have hsz2 := hb2.size
                go_upto_region 23 with (at_builtin; refine wpList_append_own _ rfl (.tmp 125) (.tmp 127) 31 rfl (wc.heap.size + 1) 45 i3 (.slice none 0 0) 1 24 Try.underlying31 hi3 hv0 hv1 hv2 rfl (by decide) (.slice va (min i cs.length) vc) (min i cs.length) (lDone cs cbs i) rfl ((own_below hL1 hb2).alloc _) ⟨w2.heap.size, 0, none⟩ 1 1 [.slice (some ⟨w1.heap.size, 0, none⟩) (ls.length + 8) (ls.length + 8)] rfl rfl (new_one _ _ _) (fun u hu => by simp at hu; subst hu; rfl) (by unfold maxLen; omega) (by omega) (by simp; omega) ?_)
                intro L' w3 ho3 hg3 hz3
                clear hz3
                have hLrow : ∀ k, (Value.slice va (min i cs.length) vc).ownBlock = some k → wc.heap.size + 1 ≤ k := fun k hk => (hL1.lt k hk).1
                have hs3 := hg3.size
                simp only [World.size_alloc] at hs3
                have hH3 : w3.heap[w.heap.size + 1]? = _ := (hg3.block _ (by simp; omega) (fun e => by have := hLrow _ e.symm; omega)).trans (heap_at_old _ _ hH2)
                obtain ⟨k0, k1, k2, k3, k4, k5, kf⟩ := heap6 hH3
                have kf3 := kf 3
                obtain ⟨oa, oc, hov⟩ := own_val ho3
                subst hov
                clear j0 j1 j2 j3 j4 j5 jf jf3 kf
                go_upto_region 23 with fail
                obtain ⟨w4, hw4⟩ : ∃ w4, w4 = w3.setCell ⟨w.heap.size + 1, 3, none⟩ (.slice oa (min i cs.length + 1) oc) := ⟨_, rfl⟩
                rw [← hw4]
                have hg4 : w3.grownBy w4 (some (w.heap.size + 1)) := by rw [hw4]; exact grown_one
                have hs4 := hg4.size
                have hH4 : w4.heap[w.heap.size + 1]? = some (.cells #[T, A, .slice (some ⟨wc.heap.size, 0, none⟩) (cs.length + 8) (cs.length + 8), .slice oa (min i cs.length + 1) oc, Z, .slice (some ⟨sb, so, none⟩) cs.length sc] 72 (0, 0)) := by
                  rw [hw4, heap_setCell_same _ _ _ _ _ _ hH3]; rfl
                have hgc3 : wc.grownBy w3 (some (w.heap.size + 1)) := grown_wide (grown_alloc (grown_below hgc1 hb2) _) hg3 (fun k hk => by have := hLrow k hk; omega)
                have hgc4 : wc.grownBy w4 (some (w.heap.size + 1)) := grown_trans hgc3 hg4
                have hb4 : Below w.heap.size w w4 := hb3.grown hgc4 hb3.size (fun k hk => by injection hk with hk; omega)
                have hP4 : w4.heap[w.heap.size]? = some (.cells #[Z, .slice (some ⟨sb, so, none⟩) cs.length sc] 33 (0, 0)) := (hgc4.block _ (by omega) (fun e => by injection e with e; omega)).trans hP
                have hL3 : ∀ b c, b ≠ w.heap.size + 1 → LRow w2 b c → LRow w4 b c := fun b c hne hr => LRow.kept (LRow.apart (heap_at_old _ _ hr) hg3 (own_type ((own_below hL1 hb2).alloc _) (by decide))) hg4 (fun e => hne (by injection e))
                have hC4 : CRow w4 wc.heap.size ((cDone cs cbs i).set i (.slice (some ⟨wr.heap.size, 0, none⟩) 1 1)) :=
                  CRow.kept (CRow.kept (heap_at_old _ _ (hC1.up hb2)) hg3 (fun e => by have := hLrow _ e.symm; omega)) hg4 (fun e => by injection e with e; omega)
                clear hw4
                obtain ⟨m0, m1, m2, m3, m4, m5, mf⟩ := heap6 hH4
                have p4 : w4.cell? ⟨w.heap.size, 1, none⟩ = some (.slice (some ⟨sb, so, none⟩) cs.length sc) := by rw [cell_of_row _ _ _ _ _ _ hP4]; rfl
                obtain ⟨_, _, hxx, ucell⟩ := (hcs.below hb4).get hin
                injection hxx with hxx
                injection hxx with hx1' hx2' _
                subst hx1'
                subst hx2'
                obtain ⟨d1, _⟩ := ucell i hin
                rw [Htt.out] at d1
                simp only at d1
                have n0 := hC4.cell (k := i) (by rw [List.length_set, cDone_length]; exact hlt)
                have nf0 := hC4.frozen i
                generalize ((cDone cs cbs i).set i (Value.slice (some ⟨wr.heap.size, 0, none⟩) 1 1)).getD i undef = z3 at *
                clear k0 k1 k2 k3 k4 k5 kf3 ucell m0 m1 m3 m4 m5 mf p0 c1
                go_region
                go_upto_region 18 with fail
                obtain ⟨w5, hw5⟩ : ∃ w5, w5 = (w4.setCell ⟨wc.heap.size, i, none⟩ (.slice (some ⟨w1.heap.size, 0, none⟩) ls.length (ls.length + 8))).drew := ⟨_, rfl⟩
                rw [← hw5]
                have hg5 : w4.grownBy w5 (some wc.heap.size) := by rw [hw5]; exact grown_drewN grown_one 1
                have hmi : min i cs.length = i := Nat.min_eq_left (by omega)
                have hcl5 : cbs.length = i := hHC.2.1
                have hHC5 : HC wc.heap.size wc.heap.size w5 cs (cbs ++ [w1.heap.size]) (.slice oa (min i cs.length + 1) oc) (i + 1) := by
                  refine hHC.next ?_ ?_ ?_ ?_ ?_
                  · intro j hj c hr
                    have hjg := (hHC.2.2.2.2.1 j hj).1
                    exact LRow.kept (hL3 _ _ (by omega) ((hr.kept hg1 (fun e => by injection e with e; omega)).up hb2)) hg5 (fun e => by injection e with e; omega)
                  · rw [← cDone_add cs cbs i _ hcl5 hlt, ← cDone_twice cs cbs i (.slice (some ⟨wr.heap.size, 0, none⟩) 1 1), hw5]
                    have e1 : cVal cs (cbs ++ [w1.heap.size]) i = .slice (some ⟨w1.heap.size, 0, none⟩) ls.length (ls.length + 8) := by
                      unfold cVal
                      rw [if_pos hin, Htt.out, show (cbs ++ [w1.heap.size]).getD i 0 = w1.heap.size by rw [← hcl5]; exact getD_snoc_eq _ _ _]
                      rfl
                    rw [e1]
                    exact CRow.set hC4 i _
                  · rw [← lDone_add cs cbs i _ hin hcl5, Htt.out]
                    rw [Nat.min_eq_left (show i + 1 ≤ cs.length by omega)]
                    rw [hmi] at ho3 ⊢
                    exact own_low (own_low ho3 hg4 (by omega)) hg5 (by omega)
                  · have := hg1.size; omega
                  · intro _
                    unfold cRowLits
                    rw [if_pos hin, Htt.out]
                    exact LRow.kept (hL3 _ _ (by omega) hrow2) hg5 (fun e => by injection e with e; have := hg1.size; omega)
                have hH5 : w5.heap[w.heap.size + 1]? = _ := (hg5.block _ (Array.getElem?_eq_some_iff.1 hH4).1 (fun e => by injection e with e; omega)).trans hH4
                have hgc5 : wc.grownBy w5 (some (w.heap.size + 1)) := grown_high hgc4 hg5 (Nat.le_refl _)
                have HHC5 := hide hHC5
                clear hHC5 hw5 hmi hHC ho3 hg3 hg4 hg5 hg1 hrow2 hL1 hLrow hL3
                go_wp2_with fail
                go_roundg (cs.length + 8 - (i + 1))
                case measure => omega
                case rel => exact ⟨i + 1, cbs ++ [w1.heap.size], _, rfl, by omega, by go_num, hH5, HHC5.out, hgc5⟩
          · have hcl5 : cbs.length = i := hHC.2.1
            have hHC5 : HC wc.heap.size wc.heap.size w1 cs (cbs ++ [wr.heap.size]) (.slice va (min i cs.length) vc) (i + 1) := by
              refine hHC.next ?_ ?_ ?_ (Nat.le_refl _) ?_
              · intro j hj c hr
                have hjg := (hHC.2.2.2.2.1 j hj).1
                exact hr.kept hg1 (fun e => by injection e with e; omega)
              · rw [← cDone_add cs cbs i _ hcl5 hlt]
                have e1 : cVal cs (cbs ++ [wr.heap.size]) i = .slice (some ⟨wr.heap.size, 0, none⟩) 1 1 := by
                  unfold cVal
                  rw [if_neg hin, show (cbs ++ [wr.heap.size]).getD i 0 = wr.heap.size by rw [← hcl5]; exact getD_snoc_eq _ _ _]
                rw [e1]
                exact hC1
              · obtain ⟨e1, e2⟩ := lDone_mark cs cbs i wr.heap.size hcl5 (by omega)
                rw [e1, e2]; exact hL1
              · intro _
                unfold cRowLits
                rw [if_neg hin]; exact hM1
            have HHC5 := hide hHC5
            clear hHC5 hHC hL1 hg1 hM1 hC1
            go_wp2_with fail
            go_roundg (cs.length + 8 - (i + 1))
            case measure => omega
            case rel => exact ⟨i + 1, cbs ++ [wr.heap.size], _, rfl, by omega, by go_num, hH1, HHC5.out, hgc1⟩
        · have hin : i = cs.length + 8 := by omega
          subst hin
          have hH3' := hHr
          rw [HZ.out] at hH3'
          have HH3 := hide hH3'
          have HHC := hide hHC
          have hHTn' := hide (HTn.kept HHTn.out (show w.heap.size + 1 < w.heap.size + 2 by omega) hgr)
          clear hHC hH3'
          go_wp2_with fail
          go_ret
          exact ⟨rfl, ⟨T, A, _, _, g, wc.heap.size, wc.heap.size, bs, cbs, HH3.out, hHTn'.out, Hlow.out, by omega, .inr ⟨by simp, rfl, HHC.out⟩⟩, hbr⟩
end Go.Proofs.Ytiobmhfpnhjmcaa
