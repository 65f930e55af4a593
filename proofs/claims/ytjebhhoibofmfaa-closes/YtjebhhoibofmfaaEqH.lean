import Derived.Test.YtjebhhoibofmfaaEqG
namespace Go.Proofs.Ytjebhhoibofmfaa
open Go.RowKit

/-- equalproof.True: the bool, the error. -/
def trueB (ts : List Tm) (cs : List Cl) (c : List Int) : Bool := decide (refuseI ts cs = 0) && classesB c ts.length && soundB ts c && allHoldB c cs
def trueE (ts : List Tm) (cs : List Cl) (c : List Int) : Int := if refuseI ts cs = 0 then if classesB c ts.length then 0 else 2 else refuseI ts cs

theorem ret_bi {a b : Bool} {x y : Int} (h : a = b) (h' : x = y) : Ending.returned (.tuple #[.bool a, .int .i64 x]) = .returned (.tuple #[.bool b, .int .i64 y]) := by rw [h, h']

set_option maxHeartbeats 400000 in
theorem true_any (ta sa ca : Option Addr) (tc sc cc : Nat) (ts : List Tm) (cs : List Cl) (c : List Int) (w : World) (ht : TermsAt w ta ts) (hcs : ClausesAt w sa cs) (hc : IntsAt w ca c) :
    Calls Try.prog 13 #[.agg #[.slice ta ts.length tc, .slice sa cs.length sc], .slice ca c.length cc] w fun e w' =>
      e = .returned (.tuple #[.bool (trueB ts cs c), .int .i64 (trueE ts cs c)]) ∧ Below w.heap.size w w' := by
  have hb0 : Below w.heap.size w (w.alloc (.cells #[.slice ta ts.length tc, .slice sa cs.length sc] 33)) := (Below.refl _ _).alloc (Nat.le_refl _) _
  go_enter Try.func13, Try.ntmps13
  go_wp2_with fail
  refine (refuse_any ta sa tc sc ts cs _ (ht.below hb0) (hcs.below hb0)).mono ?_
  rintro e w1 ⟨rfl, hb⟩
  have q1 : w1.cell? ⟨w.heap.size, 0, none⟩ = some (.slice ta ts.length tc) := cell_below hb (by simp)
  have q2 : w1.cell? ⟨w.heap.size, 1, none⟩ = some (.slice sa cs.length sc) := cell_below hb (by simp)
  have hsz : w.heap.size + 1 ≤ w1.heap.size := by have := hb.size; simp at this; exact this
  have hb1 : Below w.heap.size w w1 := hb0.trans (hb.mono (by simp))
  clear hb hb0
  by_cases he : refuseI ts cs = 0
  · have hbe : (refuseI ts cs != 0) = false := by simp [he]
    have hts : termsB ts = true := by cases h : termsB ts; simp [refuseI, h] at he; rfl
    have hcl : clausesB ts.length cs = true := by cases h : clausesB ts.length cs; simp [refuseI, hts, h] at he; rfl
    have h9 := (len_of hts).2
    have He := hide he
    have Hts := hide hts
    have Hcl := hide hcl
    clear he hts hcl
    go_wp2_with fail
    refine (classes_any ca cc c ts.length _ (hc.below hb1) (by omega)).mono ?_
    rintro e w2 ⟨rfl, rfl⟩
    cases hk : classesB c ts.length
    · go_wp2_with fail
      go_ret2
      exact ⟨ret_bi (by simp [trueB, hk]) (by simp [trueE, hk, He.out]), hb1⟩
    · have hlen : c.length = ts.length := by simp [classesB] at hk; omega
      have Hlen := hide hlen
      have hl2 : ts.length ≤ c.length := by omega
      clear hlen
      go_wp2_with fail
      refine (eqSound_any ta ca tc cc ts c _ (ht.below hb1) (hc.below hb1) hl2 h9 (argsIn_of Hts.out hl2)).mono ?_
      rintro e w3 ⟨rfl, hb3⟩
      have q3 : w3.cell? ⟨w.heap.size, 1, none⟩ = some (.slice sa cs.length sc) := cell_below hb3 q2
      have hb4 : Below w.heap.size w w3 := hb1.trans (hb3.mono hb1.size)
      cases hsd : soundB ts c
      · go_wp2_with fail
        go_ret2
        exact ⟨ret_bi (by simp [trueB, hsd]) (by simp [trueE, hk, He.out]), hb4⟩
      · go_wp2_with fail
        refine (allHold_any sa ca sc cc cs c _ (hcs.below hb4) (hc.below hb4) (by rw [Hlen.out]; exact clausesIn_of Hcl.out)).mono ?_
        rintro e w5 ⟨rfl, hb5⟩
        go_wp2_with fail
        go_ret2
        exact ⟨ret_bi (by simp [trueB, hk, hsd, He.out]) (by simp [trueE, hk, He.out]), hb4.trans (hb5.mono hb4.size)⟩
  · have hbe : (refuseI ts cs != 0) = true := by simp [he]
    go_wp2_with fail
    go_ret2
    exact ⟨ret_bi (by simp [trueB, he]) (by simp [trueE, he]), hb1⟩
end Go.Proofs.Ytjebhhoibofmfaa
