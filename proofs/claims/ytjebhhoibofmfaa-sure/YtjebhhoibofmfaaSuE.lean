import Derived.Test.YtjebhhoibofmfaaSuC
import Derived.Test.YtjebhhoibofmfaaMdB
namespace Go.Proofs.Ytjebhhoibofmfaa
open Go.RowKit

/-- What grown keeps (grown_any). -/
def GrownHolds : Prop := ∀ (ta sa ra : Option Addr) (tc sc rc : Nat) (ts : List Tm) (cs : List Cl) (rs : List Int) (w : World), TermsAt w ta ts → ClausesAt w sa cs → IntsAt w ra rs → termsB ts = true → clausesB ts.length cs = true →
    (∀ i, i < rs.length → -9223372036854775808 ≤ rs.getD i 0 ∧ rs.getD i 0 ≤ 9223372036854775807) →
    Calls Try.prog 27 #[.agg #[.slice ta ts.length tc, .slice sa cs.length sc], .slice ra rs.length rc] w fun e w' => ∃ la lc sts,
      e = .returned (.tuple #[.slice la sts.length lc, .bool true]) ∧ StepsAt w' la sts ∧ sts.length ≤ 60 ∧ sts.length ≤ lc ∧ (followL ts cs sts []).length = sts.length ∧ Below w.heap.size w w'

/-- The first step of Sure: a clause without literals, and one step. -/
theorem first_ok {ts : List Tm} (hts : termsB ts = true) : folN ts [⟨none, 0, []⟩] [⟨0, 0, 0, 0, 0⟩] = 1 ∧ chkE ts [⟨none, 0, []⟩] [⟨0, 0, 0, 0, 0⟩] = 0 := by
  have hr : refuseI ts [⟨none, 0, []⟩] = 0 := by
    unfold refuseI
    rw [hts]
    rfl
  have hL : followL ts [⟨none, 0, []⟩] [⟨0, 0, 0, 0, 0⟩] [] = [(0, 0)] := rfl
  have hN : folN ts [⟨none, 0, []⟩] [⟨0, 0, 0, 0, 0⟩] = 1 := by unfold folN; rw [if_pos hr, hL]; rfl
  have hE : folE ts [⟨none, 0, []⟩] [⟨0, 0, 0, 0, 0⟩] = 0 := by unfold folE; rw [if_pos hr, hL]; rfl
  have hS : folS ts [⟨none, 0, []⟩] [⟨0, 0, 0, 0, 0⟩] = (0, 0) := by unfold folS; rw [if_pos hr, hL]; rfl
  refine ⟨hN, ?_⟩
  unfold chkE
  rw [hE, hN, hS]; rfl

/-- What Clause says of right steps. -/
theorem cls_ok {ts : List Tm} {cs : List Cl} {sts : List St} (hts : termsB ts = true) (hcl : clausesB ts.length cs = true) (h : (followL ts cs sts []).length = sts.length) (h1 : 1 ≤ sts.length) :
    clsE ts cs sts = 0 ∧ clsN ts cs sts = ((sts.length - 1 : Nat) : Int) ∧ clsL ts cs sts = inOrd (lastS (followL ts cs sts [])).1 (lastS (followL ts cs sts [])).2 := by
  have hr : refuseI ts cs = 0 := by simp [refuseI, hts, hcl]
  have hE : folE ts cs sts = 0 := by unfold folE; rw [if_pos hr, h, if_neg (Nat.lt_irrefl _)]
  have hN : folN ts cs sts = (sts.length : Nat) := by unfold folN; rw [if_pos hr, h]
  have hS : folS ts cs sts = lastS (followL ts cs sts []) := by unfold folS; rw [if_pos hr, h, if_neg (Nat.lt_irrefl _)]
  have hc : clsE ts cs sts = 0 := by unfold clsE; rw [hE, if_pos rfl, hN, if_neg (by omega)]
  refine ⟨hc, ?_, ?_⟩
  · unfold clsN; rw [hE, if_pos rfl, hN, if_neg (by omega)]; omega
  · unfold clsL; rw [hc, if_pos rfl, hS]

/-- .. and with all classes that are sound, and with which the problem holds, it holds. -/
theorem cls_sure {ts : List Tm} {cs : List Cl} {sts : List St} (hts : termsB ts = true) (hcl : clausesB ts.length cs = true) (h : (followL ts cs sts []).length = sts.length) (h1 : 1 ≤ sts.length) :
    (∀ t ∈ inOrd (lastS (followL ts cs sts [])).1 (lastS (followL ts cs sts [])).2, LowL (ts.length : Nat) t) ∧ ∀ c, fitsB ts cs c = true → holdsB c (inOrd (lastS (followL ts cs sts [])).1 (lastS (followL ts cs sts [])).2) = true := by
  have hmem : lastS (followL ts cs sts []) ∈ followL ts cs sts [] := by
    unfold lastS
    rw [List.getLastD_eq_getLast?]
    cases hl : (followL ts cs sts []).getLast? with
    | none => have := List.getLast?_eq_none_iff.1 hl; rw [this] at h; simp at h; omega
    | some p => exact List.mem_of_getLast? hl
  have hs := follow_sure hts hcl sts [] (fun p hp => by cases hp) (fun c _ _ p hp => by cases hp) _ hmem
  refine ⟨inOrd_low hs.1, fun c hc => ?_⟩
  simp only [fitsB, Bool.and_eq_true] at hc
  exact inOrd_holds (by have := (len_of hts).2; omega) (hs.2 c hc.1 hc.2)

theorem StepsAt.take {w : World} {a : Option Addr} {sts : List St} (h : StepsAt w a sts) (n : Nat) : StepsAt w a (sts.take n) := by
  rcases h with h | ⟨b, o, rfl, h⟩
  · exact .inl (by rw [h]; simp)
  · refine .inr ⟨b, o, rfl, fun i hi => ?_⟩
    have hi' : i < sts.length := by simp at hi; omega
    have hin : i < n := by simp at hi; omega
    have e : (sts.take n).getD i st0 = sts.getD i st0 := by
      rw [List.getD_eq_getElem?_getD, List.getD_eq_getElem?_getD, List.getElem?_take, if_pos hin]
    rw [e]; exact h i hi'

set_option maxRecDepth 100000 in
set_option maxHeartbeats 2000000 in
theorem sure_of (hG : GrownHolds) (ra qa la : Option Addr) (rc qc lc : Nat) (rs qs ls : List Int) (w : World) (hr : IntsAt w ra rs) (hq : IntsAt w qa qs) (hl : IntsAt w la ls)
    (hwf : ∀ i, i < rs.length → -9223372036854775808 ≤ rs.getD i 0 ∧ rs.getD i 0 ≤ 9223372036854775807) (hwq : ∀ i, i < qs.length → -9223372036854775808 ≤ qs.getD i 0 ∧ qs.getD i 0 ≤ 9223372036854775807)
    (hwl : ∀ i, i < ls.length → -9223372036854775808 ≤ ls.getD i 0 ∧ ls.getD i 0 ≤ 9223372036854775807) :
    Calls Try.prog 8 #[.slice ra rs.length rc, .slice qa qs.length qc, .slice la ls.length lc] w fun e w' => e = .returned (.bool true) ∧ Below w.heap.size w w' := by
  have HG := hide hG
  have Hwf := hide hwf
  have Hwq := hide hwq
  have Hwl := hide hwl
  clear hwf hwq hwl hG
  go_enter Try.func8, Try.ntmps8
  go_wp2_with fail
  refine (kterms_any ra rc rs _ hr Hwf.out).mono ?_
  rintro e w1 ⟨ta, tc, ts, rfl, ht, hts, _, h7, hb1⟩
  have hn1 := (len_of hts).1
  have hlt1 : ts.length ≤ 9 := by omega
  go_wp2_with fail
  refine (kproblem_any ta qa tc qc ts.length qs _ hn1 hlt1 (hq.below hb1) Hwq.out).mono ?_
  rintro e w2 ⟨pv, cs, rfl, hcs, hcl, h8, hb2⟩
  obtain ⟨pa, pc, rfl, hcA⟩ := hcs.at
  have ht2 := ht.below hb2
  have hb12 : Below w.heap.size w w2 := hb1.trans (hb2.mono hb1.size)
  have hl2 := hl.below hb12
  have Hts := hide hts
  have Hcl := hide hcl
  clear hts hcl ht hcs hb1 hb2 hl hr hq
  obtain ⟨W, hW⟩ : ∃ W, W = w2.alloc (.cells #[.slice ta ts.length tc, .slice pa cs.length pc] 33) := ⟨_, rfl⟩
  have hbW : Below w2.heap.size w2 W := by rw [hW]; exact below_alloc _ _
  have p0 : W.cell? ⟨w2.heap.size, 0, none⟩ = some (.slice ta ts.length tc) := by rw [hW]; simp
  have p1 : W.cell? ⟨w2.heap.size, 1, none⟩ = some (.slice pa cs.length pc) := by rw [hW]; simp
  have ht3 := ht2.below hbW
  have hc3 := hcA.below hbW
  have hl3 := hl2.below hbW
  have hbw : Below w.heap.size w W := hb12.trans (hbW.mono hb12.size)
  go_upto_region 2 with fail
  rw [← hW]
  clear hW ht2 hcA hl2 hbW hb12
  generalize w2.heap.size = B at *
  obtain ⟨W2, hW2⟩ : ∃ W2, W2 = (W.alloc (.cells #[.slice none 0 0] 43)).alloc (.cells #[.int .i64 0, .int .i64 0, .int .i64 0, .int .i64 0, .int .i64 0] 62) := ⟨_, rfl⟩
  have hbW2 : Below W.heap.size W W2 := by rw [hW2]; exact ((Below.refl _ _).alloc (Nat.le_refl _) _).alloc (by simp) _
  have hcl1 : ClausesAt W2 (some ⟨W.heap.size, 0, none⟩) [⟨none, 0, []⟩] := .inr ⟨W.heap.size, 0, rfl, fun i hi => by
    have : i = 0 := by simp at hi; exact hi
    subst this
    exact ⟨by rw [hW2]; simp, .inl rfl⟩⟩
  have hst1 : StepsAt W2 (some ⟨W.heap.size + 1, 0, none⟩) [⟨0, 0, 0, 0, 0⟩] := .inr ⟨W.heap.size + 1, 0, rfl, fun i hi => by
    have : i = 0 := by simp at hi; exact hi
    subst this
    refine ⟨?_, ?_, ?_, ?_, ?_⟩ <;> rw [hW2] <;> simp <;> rfl⟩
  have hcon := check_any ta (some ⟨W.heap.size, 0, none⟩) (some ⟨W.heap.size + 1, 0, none⟩) tc 1 1 ts [⟨none, 0, []⟩] [⟨0, 0, 0, 0, 0⟩] W2 (ht3.below hbW2) hcl1 hst1 (by simp)
  rw [(first_ok Hts.out).1, (first_ok Hts.out).2] at hcon
  have Hcon := hide hcon
  clear hcon hcl1 hst1
  go_wp2_with fail
  rw [← hW2]
  clear hW2
  refine Hcon.out.mono ?_
  rintro e w3 ⟨rfl, hb3⟩
  have hbW3 : Below W.heap.size W w3 := hbW2.trans (hb3.mono hbW2.size)
  clear Hcon hb3 hbW2
  have q0 := cell_below hbW3 p0
  have q1 := cell_below hbW3 p1
  have hcon := HG.out ta pa la tc pc lc ts cs ls w3 (ht3.below hbW3) (hc3.below hbW3) (hl3.below hbW3) Hts.out Hcl.out Hwl.out
  have Hcon := hide hcon
  clear hcon
  go_wp2_with fail
  refine Hcon.out.mono ?_
  rintro e w4 ⟨sa, sc, sts, rfl, hst, h60, hsc, hfol, hb4⟩
  have hbW4 : Below W.heap.size W w4 := hbW3.trans (hb4.mono hbW3.size)
  have Hfol := hide hfol
  clear Hcon hb4 hbW3 q0 q1 hfol HG
  have q0 := cell_below hbW4 p0
  have q1 := cell_below hbW4 p1
  have hcon := models_any ta pa tc pc ts cs w4 (ht3.below hbW4) (hc3.below hbW4) Hts.out Hcl.out
  have Hcon := hide hcon
  clear hcon
  go_wp2_with fail
  refine Hcon.out.mono ?_
  rintro e w5 ⟨ya, yc, ys, rfl, hys, hy9, hgone, hb5⟩
  have hbW5 : Below W.heap.size W w5 := hbW4.trans (hb5.mono hbW4.size)
  have hst5 := hst.below hb5
  have Hgone := hide hgone
  clear Hcon hb5 hbW4 q0 q1 hgone hst
  go_wp2_with fail
  go_loopg [13] sts.length (fun g s13 wr => ∃ n : Nat, g = sts.length - n ∧ n ≤ sts.length ∧ s13 = .int .i64 (n + 1 : Nat) ∧ Below w5.heap.size w5 wr)
  case atStart => exact ⟨0, by omega, by omega, rfl, Below.refl _ _⟩
  case round =>
    obtain ⟨n, rfl, hn, rfl, hbr⟩ := hrel
    have hbWr : Below W.heap.size W wr := hbW5.trans (hbr.mono hbW5.size)
    by_cases hlt : n < sts.length
    · have hstr := (hst5.below hbr).take (n + 1)
      have hlen : (sts.take (n + 1)).length = n + 1 := by simp; omega
      have hft : (followL ts cs (sts.take (n + 1)) []).length = (sts.take (n + 1)).length := by
        have := fol_take ts cs sts [] (n + 1) (by simpa using Hfol.out)
        simpa using this
      obtain ⟨kE, kN, kL⟩ := cls_ok Hts.out Hcl.out hft (by omega)
      obtain ⟨sL, sH⟩ := cls_sure Hts.out Hcl.out hft (by omega)
      have hcon := clause_any ta pa sa tc pc sc ts cs (sts.take (n + 1)) wr.drew ((ht3.below hbWr).below (Below.refl _ _).drew) ((hc3.below hbWr).below (Below.refl _ _).drew) (hstr.below (Below.refl _ _).drew) (by omega)
      rw [kE, kN, kL, hlen] at hcon
      have h162 := inOrd_length (lastS (followL ts cs (sts.take (n + 1)) [])).1 (lastS (followL ts cs (sts.take (n + 1)) [])).2
      generalize inOrd (lastS (followL ts cs (sts.take (n + 1)) [])).1 (lastS (followL ts cs (sts.take (n + 1)) [])).2 = out at *
      rw [show ((n + 1 - 1 : Nat) : Int) = (n : Int) by simp] at hcon
      have Hcon := hide hcon
      have SL := hide sL
      have SH := hide sH
      have q0 := cell_below hbWr p0
      have q1 := cell_below hbWr p1
      have s0 : (0 : Int) ≤ ((n + 1 : Nat) : Int) := by omega
      have s1 : ((n + 1 : Nat) : Int) ≤ (sc : Int) := by omega
      have s2 : n + 1 ≤ sc := by omega
      have s3 : ((n + 1 : Nat) : Int) ≤ (sts.length : Int) := by omega
      clear hcon sL sH kE kN kL hft hlen hstr
      go_upto_region 12 with fail
      go_cut [14, 15, 16] (fun s14 s15 s16 wx => ∃ va vc, s14 = .slice va out.length vc ∧ s15 = .int .i64 n ∧ s16 = .int .i64 0 ∧ LitsAt wx va out ∧ Below wr.heap.size wr wx)
      case first =>
        go_region_with (go_at_call 28; refine Hcon.out.mono ?_; rintro e w6 ⟨va, vc, rfl, hown6, _, hb6⟩)
        all_goals
          go_wp2_with fail
          go_meet
          exact ⟨va, vc, rfl, rfl, rfl, litsAt_of_own hown6, ((Below.refl _ _).drew).trans hb6⟩
      case rest =>
        obtain ⟨va, vc, rfl, rfl, rfl, hlits, hbc⟩ := hcut
        have hb5c : Below w5.heap.size w5 wc := hbr.trans (hbc.mono hbr.size)
        have hysc := hys.below hb5c
        clear Hcon q0 q1 hbWr hbr hbc s0 s1 s2 s3
        have hk : ((n : Int) != ((n + 1 : Nat) : Int) - 1) = false := by simp
        go_wp2_with fail
        go_loopg [17] ys.length (fun g s17 wx => ∃ i : Nat, g = ys.length - i ∧ i ≤ ys.length ∧ s17 = .int .i64 i ∧ ∃ m, wx = wc.drewN m)
        case atStart => exact ⟨0, by omega, by omega, rfl, 0, rfl⟩
        case round =>
          obtain ⟨i, rfl, hi, rfl, m, rfl⟩ := hrel
          by_cases hiy : i < ys.length
          · obtain ⟨yb, yo, rfl, ycell⟩ := hysc.get hiy
            obtain ⟨y1, y2⟩ := ycell i hiy
            obtain ⟨gr, gl, gf⟩ := Hgone.out.1 i hiy
            have hh := SH.out _ gf
            generalize ys.getD i wy0 = y at *
            obtain ⟨xa, xc, xs⟩ := y
            simp only [wyVal] at y1 y2 gl hh
            have hsm := some_long va xa vc xc out xs (wc.drewN m) hlits y2 ⟨by omega, fun t ht => by
              have := SL.out _ (getD_mem ht)
              rw [gl]
              exact ⟨⟨this.1, this.2.1⟩, this.2.2.1, this.2.2.2⟩⟩
            rw [hh] at hsm
            have Hsm := hide hsm
            clear hsm hh gf gr gl ycell
            go_wp2_with fail
            refine Hsm.out.mono ?_
            rintro e w7 ⟨rfl, m2, rfl⟩
            go_wp2_with fail
            go_roundg (ys.length - (i + 1))
            case measure => omega
            case rel => exact ⟨i + 1, rfl, by omega, by go_num, m + m2, rfl⟩
          · go_wp2_with fail
            go_roundg (sts.length - (n + 1))
            case measure => omega
            case rel => exact ⟨n + 1, rfl, by omega, by go_num, below_drewN hb5c m⟩
    · go_wp2_with fail
      go_ret
      exact ⟨rfl, hbw.trans (hbWr.mono hbw.size)⟩
end Go.Proofs.Ytjebhhoibofmfaa
