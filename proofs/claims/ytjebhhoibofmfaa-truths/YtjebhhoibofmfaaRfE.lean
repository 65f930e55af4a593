import Derived.Test.YtjebhhoibofmfaaRfB
import Derived.Test.YtjebhhoibofmfaaRfC
import Derived.Test.YtjebhhoibofmfaaRfD
namespace Go.Proofs.Ytjebhhoibofmfaa
open Go.RowKit

set_option maxRecDepth 100000 in
set_option maxHeartbeats 800000 in
theorem rTrue_any (ta sa ca : Option Addr) (tc sc cc : Nat) (ts : List Tm) (cs : List Cl) (c : List Int) (w : World) (ht : TermsAt w ta ts) (hcs : ClausesAt w sa cs) (hc : IntsAt w ca c) :
    Calls Try.prog 41 #[.agg #[.slice ta ts.length tc, .slice sa cs.length sc], .slice ca c.length cc] w fun e w' =>
      e = .returned (.tuple #[.bool (trueB ts cs c), .int .i64 (trueE ts cs c)]) ∧ Below w.heap.size w w' := by
  have hb0 : Below w.heap.size w (w.alloc (.cells #[.slice ta ts.length tc, .slice sa cs.length sc] 33)) := (Below.refl _ _).alloc (Nat.le_refl _) _
  go_enter Try.func41, Try.ntmps41
  go_wp2_with fail
  refine (look_any ta sa tc sc ts cs _ (ht.below hb0) (hcs.below hb0)).mono ?_
  rintro e w1 ⟨rfl, hb⟩
  have q1 : w1.cell? ⟨w.heap.size, 0, none⟩ = some (.slice ta ts.length tc) := cell_below hb (by simp)
  have q2 : w1.cell? ⟨w.heap.size, 1, none⟩ = some (.slice sa cs.length sc) := cell_below hb (by simp)
  have hsz : w.heap.size + 1 ≤ w1.heap.size := by have := hb.size; simp at this; exact this
  have hb1 : Below w.heap.size w w1 := hb0.trans (hb.mono (by simp))
  clear hb hb0
  by_cases he : refuseI ts cs = 0
  · have hbe : (refuseI ts cs != 0) = false := by simp [he]
    have hts : termsB ts = true := by cases h : termsB ts; simp [refuseI, h] at he; rfl
    have hcl : clausesB ts.length cs = true := by cases h : clausesB ts.length cs; simp [refuseI, hts, h] at he; rfl
    have h9 := (len_of hts).2
    have He := hide he
    have Hts := hide hts
    have Hcl := hide hcl
    clear he hts hcl
    by_cases hl : (c.length : Int) = ts.length
    · have hb1' : ((c.length : Int) != ts.length) = false := by simp [hl]
      have hc9 : c.length ≤ 9 := by omega
      have hl2 : ts.length ≤ c.length := by omega
      have hl3 : c.length = ts.length := by omega
      have Hl := hide hl
      have Hlen := hide hl3
      have hc1 := hc.below hb1
      clear hl hl3
      go_wp2_with fail
      go_loopg [7, 8] c.length (fun g s v wr => ∃ k nx : Nat, g = c.length - k ∧ k ≤ c.length ∧ v = .int .i64 k ∧ s = .int .i64 nx ∧ nx ≤ k ∧ Hid (rgs 0 c = rgs nx (c.drop k)) ∧ wr = w1)
      case atStart => exact ⟨0, 0, by omega, Nat.zero_le _, rfl, rfl, Nat.le_refl _, rfl, rfl⟩
      case round =>
        obtain ⟨k, nx, rfl, hk, rfl, rfl, hnk, Hr, rfl⟩ := hrel
        by_cases hlt : k < c.length
        · obtain ⟨cb, co, rfl, ccell⟩ := hc1.get hlt
          have c1 := ccell k hlt
          generalize hv : c.getD k 0 = v at *
          have Hv := hide hv
          clear hv ccell
          by_cases v0 : v < 0
          · go_wp2_with fail
            go_ret2
            have hf : classesB c ts.length = false := by simp [classesB, rgs_no hlt Hr.out (by rw [Hv.out]; simp [belowB]; omega)]
            exact ⟨ret_bi (by simp [trueB, hf]) (by simp [trueE, hf, He.out]), hb1⟩
          · by_cases v1 : (nx : Int) < v
            · go_wp2_with fail
              go_ret2
              have hf : classesB c ts.length = false := by simp [classesB, rgs_no hlt Hr.out (by rw [Hv.out]; simp [belowB]; omega)]
              exact ⟨ret_bi (by simp [trueB, hf]) (by simp [trueE, hf, He.out]), hb1⟩
            · have hbl : belowB v (nx + 1) = true := by simp [belowB]; omega
              have Hbl := hide hbl
              clear hbl
              by_cases he : v = nx
              · have hb2 : (v == (nx : Int)) = true := by simp [he]
                have He2 := hide he
                clear he
                go_wp2_with fail
                go_roundg (c.length - (k + 1))
                case measure => omega
                case rel => exact ⟨k + 1, nx + 1, rfl, by omega, by go_num, by go_num, by omega, by have := rgs_on hlt Hr.out (by rw [Hv.out]; exact Hbl.out); rw [Hv.out, if_pos He2.out] at this; exact this, rfl⟩
              · have hb2 : (v == (nx : Int)) = false := by simp [he]
                have He2 := hide he
                clear he
                go_wp2_with fail
                go_roundg (c.length - (k + 1))
                case measure => omega
                case rel => exact ⟨k + 1, nx, rfl, by omega, by go_num, rfl, by omega, by have := rgs_on hlt Hr.out (by rw [Hv.out]; exact Hbl.out); rw [Hv.out, if_neg He2.out] at this; exact this, rfl⟩
        · have hk' : classesB c ts.length = true := by simp [classesB, Hlen.out, Hr.out, List.drop_of_length_le (show c.length ≤ k by omega), rgs]
          have Hk := hide hk'
          clear hk'
          go_wp2_with fail
          refine (rSound_any ta ca tc cc ts c _ (ht.below hb1) hc1 hl2 h9 (argsIn_of Hts.out hl2)).mono ?_
          rintro e w3 ⟨rfl, n3, rfl⟩
          have hb4 : Below w.heap.size w (wr.drewN n3) := below_drewN hb1 _
          go_wp2_with fail
          refine (rHolds_any ta sa ca ts.length tc sc cc cs c _ (hcs.below hb4) (hc.below hb4) (by rw [Hlen.out]; exact clausesIn_of Hcl.out)).mono ?_
          rintro e w5 ⟨rfl, hb5⟩
          cases hsd : soundB ts c
          · go_wp2_with fail
            go_ret2
            exact ⟨ret_bi (by simp [trueB, hsd]) (by simp [trueE, Hk.out, He.out]), hb4.trans (hb5.mono hb4.size)⟩
          · go_wp2_with fail
            go_ret2
            exact ⟨ret_bi (by simp [trueB, Hk.out, hsd, He.out]) (by simp [trueE, Hk.out, He.out]), hb4.trans (hb5.mono hb4.size)⟩
    · have hb2 : ((c.length : Int) != ts.length) = true := by simp [hl]
      have hf : classesB c ts.length = false := by simp [classesB, hl]
      have Hf := hide hf
      clear hf
      go_wp2_with fail
      go_ret2
      exact ⟨ret_bi (by simp [trueB, Hf.out]) (by simp [trueE, Hf.out, He.out]), hb1⟩
  · have hbe : (refuseI ts cs != 0) = true := by simp [he]
    go_wp2_with fail
    go_ret2
    exact ⟨ret_bi (by simp [trueB, he]) (by simp [trueE, he]), hb1⟩
end Go.Proofs.Ytjebhhoibofmfaa
