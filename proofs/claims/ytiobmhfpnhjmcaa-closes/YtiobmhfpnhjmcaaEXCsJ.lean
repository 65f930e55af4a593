import Derived.Test.YtiobmhfpnhjmcaaEXCsI
import Derived.Test.YtiobmhfpnhjmcaaEXTrC
namespace Go.Proofs.Ytiobmhfpnhjmcaa
open Go.RowKit
theorem four_close (b1 b2 : Nat) : closeE (fourTs b1 b2) [⟨0, 1⟩] = 0 := by rfl
set_option maxRecDepth 100000 in
set_option maxHeartbeats 2000000 in
theorem closes_any (ta pa : Option Addr) (tc pc : Nat) (ts : List Tm) (ps : List Pr) (w : World) (ht : TermsAt w ta ts) (hp : PairsAt w pa ps) (htn : ta = none → tc = 0) (hto : TmsOk ts) (htl : ts.length ≤ 4398046510976) (htc : ts.length ≤ tc) (hpl : ps.length ≤ 8796093021952) :
    Calls Try.prog 3 #[.slice ta ts.length tc, .slice pa ps.length pc] w fun e w' => e = .returned (.bool true) ∧ Below w.heap.size w w' := by
  have Hto := hide hto
  clear hto
  go_enter Try.func3, Try.ntmps3
  go_wp2_with fail
  refine (four_any w).mono ?_
  rintro e w1 ⟨b1, b2, g, rfl, hF, hb1⟩
  go_wp2_with fail
  obtain ⟨w2, hw2⟩ : ∃ w2, w2 = w1.alloc (.cells #[.int .i64 0, .int .i64 1] 29) := ⟨_, rfl⟩
  rw [← hw2]
  have hb2 : Below w1.heap.size w1 w2 := by rw [hw2]; exact (Below.refl _ _).alloc (Nat.le_refl _) _
  have hp2 : PairsAt w2 (some ⟨w1.heap.size, 0, none⟩) [⟨0, 1⟩] := by
    refine .inr ⟨w1.heap.size, 0, rfl, fun i hi => ?_⟩
    have : i = 0 := by simpa using hi
    subst this
    rw [hw2]
    simp
  have hT2 := hF.terms.below hb2
  have hs1 := hb1.size
  have hs2 := hb2.size
  clear hw2
  refine (closed_any (some ⟨g, 0, none⟩) (some ⟨w1.heap.size, 0, none⟩) 4 1 (fourTs b1 b2) [⟨0, 1⟩] w2 hT2 hp2 (fun h => by cases h) (four_ok _ _) (by simp [fourTs]) (by simp [fourTs]) (by simp)).mono ?_
  rintro e w3 ⟨ca, cc, C, rfl, hci, hb3⟩
  have hC4 : C.length = 4 := by rw [(hci.1 (four_close b1 b2)).1]; rfl
  rw [hC4]
  have hb13 : Below w.heap.size w w3 := (hb1.trans (hb2.mono hs1)).trans (hb3.mono (by omega))
  clear hci
  go_wp2_with fail
  refine (closed_any ta pa tc pc ts ps w3 (ht.below hb13) (hp.below hb13) htn Hto.out htl htc hpl).mono ?_
  rintro e w4 ⟨da, dc, D, rfl, _, hb4⟩
  go_wp2_with fail
  go_ret
  exact ⟨rfl, hb13.trans (hb4.mono hb13.size)⟩
end Go.Proofs.Ytiobmhfpnhjmcaa
