import Derived.Test.YtiobmhfpnhjmcaaEMSt
import Derived.Test.YtiobmhfpnhjmcaaEXStB
import Derived.Test.YtiobmhfpnhjmcaaEMRf
namespace Go.Proofs.Ytiobmhfpnhjmcaa
open Go.RowKit
theorem fullInts_both (ca : Option Addr) (cc : Nat) (c : List Int) (w : World) (hc : IntsAt w ca c) (hn : ca = none → cc = 0) (hlen : c.length ≤ 17592186043904) :
    Calls Try.prog 30 #[.slice ca c.length cc] w fun e w' => ∃ (oa : Option Addr) (ol : Nat), e = .returned (.slice oa ol ol) ∧ Below w.heap.size w w' ∧
      ((oa = none ∧ ol = 0 ∧ c = []) ∨ (oa = some ⟨w.heap.size, 0, none⟩ ∧ ol = c.length + 8 ∧ Row w' w.heap.size (full c))) := by
  cases ca with
  | none =>
    have h0 : c = [] := by rcases hc with h | ⟨_, _, h, _⟩; exact h; cases h
    have := hn rfl
    subst this
    subst h0
    refine (fullInts_nil w).mono ?_
    rintro e w' ⟨rfl, rfl⟩
    exact ⟨none, 0, rfl, Below.refl _ _, .inl ⟨rfl, rfl, rfl⟩⟩
  | some ad =>
    refine (fullInts_any ad cc c w hc hlen).mono ?_
    rintro e w' ⟨rfl, h1, h2⟩
    exact ⟨_, _, rfl, h2, .inr ⟨rfl, rfl, h1⟩⟩
theorem stillInts_both (W w : World) (ca oa : Option Addr) (cc ol B : Nat) (c : List Int) (hc : IntsAt W ca c) (hW : Below W.heap.size W w) (hB : W.heap.size ≤ B) (hlen : c.length ≤ 17592186043904)
    (ho : (oa = none ∧ ol = 0 ∧ c = []) ∨ (oa = some ⟨B, 0, none⟩ ∧ ol = c.length + 8 ∧ Row w B (full c))) :
    Calls Try.prog 31 #[.slice oa ol ol, .slice ca c.length cc] w fun e w' => e = .returned (.bool true) ∧ Below W.heap.size W w' := by
  rcases ho with ⟨rfl, rfl, rfl⟩ | ⟨rfl, rfl, hr⟩
  · refine (stillInts_nil _ _ _ _).mono ?_
    rintro e w' ⟨rfl, rfl⟩
    exact ⟨rfl, hW⟩
  · refine (stillInts_any W B (c.length + 8) (c.length + 8) (full c) ca cc c w hW hB hc hr (by rw [full_length]; omega) (by rw [full_length]; omega) (full_mt c)).mono ?_
    rintro e w' ⟨rfl, _, hg⟩
    exact ⟨rfl, hW.grown hg hW.size (fun k hk => by injection hk with hk; omega)⟩
set_option maxRecDepth 100000 in
set_option maxHeartbeats 2000000 in
theorem truth_any (ta sa ca : Option Addr) (tc sc cc : Nat) (ts : List Tm) (cs : List Cl) (c : List Int) (w : World) (ht : TermsAt w ta ts) (hcs : ClausesAt w sa cs) (hc : IntsAt w ca c)
    (htn : ta = none → tc = 0) (hsn : sa = none → sc = 0) (hcn : ca = none → cc = 0) (hto : TmsOk ts) (hco : ClsOk cs) (htl : ts.length ≤ 4398046510976) (hcl : cs.length ≤ 5864062014634) (hlen : c.length ≤ 17592186043904) :
    Calls Try.prog 11 #[.agg #[.slice ta ts.length tc, .slice sa cs.length sc], .slice ca c.length cc] w fun e w' => e = .returned (.bool true) ∧ Below w.heap.size w w' := by
  have Hto := hide hto
  have Hco := hide hco
  have Hht := hide ht
  have Hcs := hide hcs
  clear hto hco
  go_enter Try.func11, Try.ntmps11
  go_upto_region 1 with fail
  obtain ⟨w1, hw1⟩ : ∃ w1, w1 = w.alloc (.cells #[.slice ta ts.length tc, .slice sa cs.length sc] 33) := ⟨_, rfl⟩
  rw [← hw1]
  have hb1 : Below w.heap.size w w1 := by rw [hw1]; exact (Below.refl _ _).alloc (Nat.le_refl _) _
  have p0 : w1.cell? ⟨w.heap.size, 0, none⟩ = some (.slice ta ts.length tc) := by rw [hw1]; exact new0 rfl
  have p1 : w1.cell? ⟨w.heap.size, 1, none⟩ = some (.slice sa cs.length sc) := by rw [hw1]; exact new0 rfl
  have hT1 := ht.below hb1
  have hC1 := hcs.below hb1
  have hc1 := hc.below hb1
  have hs1 := hb1.size
  clear hw1 ht hcs hc
  go_wp2_with fail
  refine (hand_any ta sa tc sc ts cs w1 hT1 hC1 htn hsn Hto.out Hco.out htl hcl).mono ?_
  rintro e w2 ⟨rfl, hh2, hb2⟩
  have hs2 := hb2.size
  have Hh2 := hide hh2
  clear hh2
  go_wp2_with fail
  refine (fullInts_both ca cc c w2 (hc1.below hb2) hcn hlen).mono ?_
  rintro e w3 ⟨oa, ol, rfl, hb3, ho3⟩
  have hb13 : Below w1.heap.size w1 w3 := hb2.trans (hb3.mono hs2)
  have Ho3 := hide ho3
  have hol : c.length ≤ ol := by
    rcases ho3 with ⟨_, h2, h3⟩ | ⟨_, h2, _⟩
    · rw [h3]; simp
    · omega
  have hs3 := hb3.size
  clear ho3
  go_upto_region 3 with fail
  go_cut [7, 8] (fun s7 s8 wz => s7 = .bool (trueB ts cs c) ∧ s8 = .int .i64 (trueE ts cs c) ∧ Below w3.heap.size w3 wz)
  case first =>
    have hh3 := Hh2.out.up hb3
    have hta := Hht.out.bare
    have hca := Hcs.out.bare
    have Hh3 := hide hh3
    have Hta := hide hta
    have Hca := hide hca
    clear hh3 hta hca
    rcases Ho3.out with ⟨rfl, rfl, rfl⟩ | ⟨rfl, rfl, hr⟩
    · go_region_with (first
        | (go_at_call 22; refine (given_any (w1.heap.size + 1) ta sa tc sc ts cs _ (Hh3.out.up (Below.refl _ _).drew) Hta.out Hca.out htl hcl).mono ?_; rintro e w' ⟨ta', sa', tc', sc', ts', cs', rfl, k1, k2, k3, k4, k5⟩)
        | (go_at_call 10; refine (true_any ta' sa' _ tc' sc' _ ts' cs' [] _ (k1.below k5) (k2.below k5) (.inl rfl)).mono ?_; rintro e w'' ⟨rfl, k6⟩))
      all_goals (go_wp2_with fail; go_meet; exact ⟨by rw [same_trueB k3 k4], by rw [same_trueE k3 k4], (Below.refl _ _).drew.trans (k5.trans (k6.mono k5.size))⟩)
    · have Hr := hide hr
      have hia : IntsAt w3 (some ⟨w2.heap.size, 0, none⟩) c := .inr ⟨w2.heap.size, 0, rfl, fun i hi => by
        rw [Nat.zero_add]
        have := hr.cell (k := i) (by rw [full_length]; omega)
        rw [full_getD hi] at this
        exact this⟩
      have Hia := hide hia
      clear hr hia
      go_region_with (first
        | (go_at_call 22; refine (given_any (w1.heap.size + 1) ta sa tc sc ts cs _ (Hh3.out.up (Below.refl _ _).drew) Hta.out Hca.out htl hcl).mono ?_; rintro e w' ⟨ta', sa', tc', sc', ts', cs', rfl, k1, k2, k3, k4, k5⟩)
        | (go_at_call 10; refine (true_any ta' sa' _ tc' sc' _ ts' cs' c _ (k1.below k5) (k2.below k5) (Hia.out.below ((Below.refl _ _).drew.trans k5))).mono ?_; rintro e w'' ⟨rfl, k6⟩))
      all_goals (go_wp2_with fail; go_meet; exact ⟨by rw [same_trueB k3 k4], by rw [same_trueE k3 k4], (Below.refl _ _).drew.trans (k5.trans (k6.mono k5.size))⟩)
  case rest =>
    obtain ⟨rfl, rfl, hbz⟩ := hcut
    have hs4 := hbz.size
    have hb1c : Below w1.heap.size w1 wc := hb13.trans (hbz.mono (by omega))
    have hN : Below w2.heap.size w2 wc := hb3.trans (hbz.mono hs3)
    go_wp2_with fail
    refine (still_any w1 w2 wc (w1.heap.size + 1) ta sa tc sc ts cs hb1c (by omega) Hh2.out hN hT1 hC1 hT1.bare hC1.bare Hto.out Hco.out htl hcl).mono ?_
    rintro e w5 ⟨rfl, htch⟩
    have hb15 : Below w1.heap.size w1 w5 := hb1c.trans (htch.below (by omega) hb1c.size)
    have Ho5 : Hid ((oa = none ∧ ol = 0 ∧ c = []) ∨ (oa = some ⟨w2.heap.size, 0, none⟩ ∧ ol = c.length + 8 ∧ Row w5 w2.heap.size (full c))) := by
      rcases Ho3.out with h | ⟨h1, h2, h3⟩
      · exact .inl h
      · have h4 := h3.up hbz
        refine .inr ⟨h1, h2, ?_⟩
        unfold Row
        rw [htch.block _ h4.lt (.inr (Nat.le_refl _))]
        exact h4
    go_wp2_with fail
    refine (stillInts_both w1 w5 ca oa cc ol w2.heap.size c hc1 hb15 hs2 hlen Ho5.out).mono ?_
    rintro e w6 ⟨rfl, hb6⟩
    have p0' := cell_below hb6 p0
    have p1' := cell_below hb6 p1
    clear p0 p1
    go_wp2_with fail
    refine (rTrue_any ta sa ca tc sc cc ts cs c w6 (hT1.below hb6) (hC1.below hb6) (hc1.below hb6)).mono ?_
    rintro e w7 ⟨rfl, hb7⟩
    have hb17 : Below w.heap.size w w7 := (hb1.trans (hb6.mono hs1)).trans (hb7.mono (by have := hb6.size; omega))
    generalize trueB ts cs c = bb at *
    generalize trueE ts cs c = ee at *
    have hee : (ee == ee) = true := by simp
    cases bb
    · go_wp2_with fail
      go_ret
      exact ⟨rfl, hb17⟩
    · go_wp2_with fail
      go_ret
      exact ⟨rfl, hb17⟩
end Go.Proofs.Ytiobmhfpnhjmcaa
