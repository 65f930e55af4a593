import Derived.Test.YtjebhhoibofmfaaEqF
namespace Go.Proofs.Ytjebhhoibofmfaa
open Go.RowKit

theorem belowB_iff {x n : Int} : belowB x n = true ↔ 0 ≤ x ∧ x < n := by simp [belowB]

theorem argsIn_of {ts : List Tm} (h : termsB ts = true) {n : Nat} (hn : ts.length ≤ n) : ArgsIn ts n := by
  intro i hi
  simp only [termsB, Bool.and_eq_true] at h
  have h1 := allB_iff.1 h.2 i hi
  generalize ts.getD i tm0 = q at *
  simp only [termB, Bool.and_eq_true, decide_eq_true_eq] at h1
  refine ⟨h1.1.2, fun k hk => ?_⟩
  have h2 := belowB_iff.1 (allB_iff.1 h1.2 k hk)
  exact ⟨h2.1, by omega⟩

theorem len_of {ts : List Tm} (h : termsB ts = true) : 1 ≤ ts.length ∧ ts.length ≤ 9 := by
  simp only [termsB, Bool.and_eq_true, decide_eq_true_eq] at h
  exact h.1

theorem clausesIn_of {cs : List Cl} {n : Nat} (h : clausesB n cs = true) : ClausesIn cs n := by
  simp only [clausesB, Bool.and_eq_true, decide_eq_true_eq] at h
  refine ⟨h.1, fun t ht => ?_⟩
  have h1 := allB_iff.1 h.2 t ht
  simp only [clauseB, Bool.and_eq_true, decide_eq_true_eq] at h1
  refine ⟨h1.1, fun k hk => ?_⟩
  have h2 := allB_iff.1 h1.2 k hk
  simp only [litOk, Bool.and_eq_true] at h2
  exact ⟨belowB_iff.1 h2.1, belowB_iff.1 h2.2⟩

/-- Numbers of classes, the next new one being nx. -/
def rgs : Int → List Int → Bool
  | _, [] => true
  | nx, x :: xs => belowB x (nx + 1) && rgs (if x = nx then nx + 1 else nx) xs

def classesB (c : List Int) (n : Int) : Bool := decide ((c.length : Int) = n) && rgs 0 c

theorem drop_get {c : List Int} {k : Nat} (h : k < c.length) : c.drop k = c.getD k 0 :: c.drop (k + 1) := by
  rw [List.drop_eq_getElem_cons h]; simp [h]

theorem rgs_no {c : List Int} {k : Nat} {nx : Int} (h : k < c.length) (hr : rgs 0 c = rgs nx (c.drop k)) (hb : belowB (c.getD k 0) (nx + 1) = false) : rgs 0 c = false := by
  rw [hr, drop_get h, rgs, hb]; rfl

theorem rgs_on {c : List Int} {k : Nat} {nx : Int} (h : k < c.length) (hr : rgs 0 c = rgs nx (c.drop k)) (hb : belowB (c.getD k 0) (nx + 1) = true) :
    rgs 0 c = rgs (if c.getD k 0 = nx then nx + 1 else nx) (c.drop (k + 1)) := by
  rw [hr, drop_get h, rgs, hb]; rfl

set_option maxHeartbeats 400000 in
theorem classes_any (ca : Option Addr) (cc : Nat) (c : List Int) (n : Int) (w : World) (hc : IntsAt w ca c) (hn : n ≤ 9) :
    Calls Try.prog 36 #[.slice ca c.length cc, .int .i64 n] w fun e w' => e = .returned (.bool (classesB c n)) ∧ w' = w := by
  by_cases hl : (c.length : Int) = n
  · have hb1 : ((c.length : Int) != n) = false := by simp [hl]
    have h9 : c.length ≤ 9 := by omega
    have Hl := hide hl
    clear hl
    go_enter Try.func36, Try.ntmps36
    go_wp2_with fail
    go_loopg [5, 14] c.length (fun g s v wr => ∃ k nx : Nat, g = c.length - k ∧ k ≤ c.length ∧ v = .int .i64 k ∧ s = .int .i64 nx ∧ nx ≤ k ∧ Hid (rgs 0 c = rgs nx (c.drop k)) ∧ wr = w)
    case atStart => exact ⟨0, 0, by omega, Nat.zero_le _, rfl, rfl, Nat.le_refl _, rfl, rfl⟩
    case round =>
      obtain ⟨k, nx, rfl, hk, rfl, rfl, hnk, Hr, rfl⟩ := hrel
      by_cases hlt : k < c.length
      · obtain ⟨cb, co, rfl, ccell⟩ := hc.get hlt
        have c1 := ccell k hlt
        generalize hv : c.getD k 0 = v at *
        have Hv := hide hv
        clear hv ccell
        cases hbl : belowB v (nx + 1)
        · go_wp2_with (go_at_call 60; refine (isBelow_any _ _ _).mono ?_; rintro e w' ⟨rfl, rfl⟩)
          go_ret
          exact ⟨ret_bool (by simp [classesB, rgs_no hlt Hr.out (by rw [Hv.out]; exact hbl)]), rfl⟩
        · by_cases he : v = nx
          · have hb2 : (v == (nx : Int)) = true := by simp [he]
            have He := hide he
            clear he
            go_wp2_with (go_at_call 60; refine (isBelow_any _ _ _).mono ?_; rintro e w' ⟨rfl, rfl⟩)
            go_roundg (c.length - (k + 1))
            case measure => omega
            case rel => exact ⟨k + 1, nx + 1, rfl, by omega, by go_num, by go_num, by omega, by have := rgs_on hlt Hr.out (by rw [Hv.out]; exact hbl); rw [Hv.out, if_pos He.out] at this; exact this, rfl⟩
          · have hb2 : (v == (nx : Int)) = false := by simp [he]
            have He := hide he
            clear he
            go_wp2_with (go_at_call 60; refine (isBelow_any _ _ _).mono ?_; rintro e w' ⟨rfl, rfl⟩)
            go_roundg (c.length - (k + 1))
            case measure => omega
            case rel => exact ⟨k + 1, nx, rfl, by omega, by go_num, rfl, by omega, by have := rgs_on hlt Hr.out (by rw [Hv.out]; exact hbl); rw [Hv.out, if_neg He.out] at this; exact this, rfl⟩
      · go_wp2_with fail
        go_ret
        exact ⟨ret_bool (by simp [classesB, Hl.out, Hr.out, List.drop_of_length_le (show c.length ≤ k by omega), rgs]), rfl⟩
  · have hb1 : ((c.length : Int) != n) = true := by simp [hl]
    go_enter Try.func36, Try.ntmps36
    go_wp2_with fail
    go_ret
    exact ⟨ret_bool (by simp [classesB, hl]), rfl⟩
end Go.Proofs.Ytjebhhoibofmfaa
