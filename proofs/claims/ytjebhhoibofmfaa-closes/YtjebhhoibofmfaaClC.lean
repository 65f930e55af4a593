import Derived.Test.YtjebhhoibofmfaaClB
namespace Go.Proofs.Ytjebhhoibofmfaa
open Go.RowKit

set_option maxHeartbeats 400000 in
theorem pairs_any (n : Int) (pa : Option Addr) (pc : Nat) (ps : List Pr) (w : World) (hps : PairsAt w pa ps) :
    Calls Try.prog 50 #[.slice pa ps.length pc, .int .i64 n] w fun e w' => e = .returned (.bool (pairsB n ps)) ∧ Below w.heap.size w w' := by
  by_cases h6 : ps.length ≤ 60
  · go_enter Try.func50, Try.ntmps50
    go_wp2_with fail
    go_loopg [12] ps.length (fun g v wr => ∃ k : Nat, g = ps.length - k ∧ k ≤ ps.length ∧ v = .int .i64 k ∧ Hid (∀ t, t < k → pairOk n (ps.getD t pr0) = true) ∧ Below w.heap.size w wr)
    case atStart => exact ⟨0, by omega, Nat.zero_le _, rfl, (fun t h => by omega), Below.refl _ _⟩
    case round =>
      obtain ⟨k, rfl, hk, rfl, Hk, hb⟩ := hrel
      by_cases hlt : k < ps.length
      · obtain ⟨lb, lo, rfl, lcell⟩ := (hps.below hb).get hlt
        obtain ⟨l1, l2⟩ := lcell k hlt
        have hst : pairOk n (ps.getD k pr0) = (belowB (ps.getD k pr0).x n && belowB (ps.getD k pr0).y n) := rfl
        generalize (ps.getD k pr0).x = vx at *
        generalize (ps.getD k pr0).y = vy at *
        have Hst := hide hst
        clear hst lcell
        cases hx : belowB vx n
        · go_wp2_with (go_at_call 60; refine (isBelow_any _ _ _).mono ?_; rintro e w' ⟨rfl, rfl⟩)
          go_ret
          exact ⟨ret_bool (by rw [pairsB_no k hlt (by rw [Hst.out, hx]; rfl)]), hb.alloc hb.size _⟩
        · cases hy : belowB vy n
          · go_wp2_with (go_at_call 60; refine (isBelow_any _ _ _).mono ?_; rintro e w' ⟨rfl, rfl⟩)
            go_ret
            exact ⟨ret_bool (by rw [pairsB_no k hlt (by rw [Hst.out, hx, hy]; rfl)]), hb.alloc hb.size _⟩
          · go_wp2_with (go_at_call 60; refine (isBelow_any _ _ _).mono ?_; rintro e w' ⟨rfl, rfl⟩)
            go_roundg (ps.length - (k + 1))
            case measure => omega
            case rel => exact ⟨k + 1, rfl, by omega, by go_num, upto_succ Hk.out (by rw [Hst.out, hx, hy]; rfl), hb.alloc hb.size _⟩
      · go_wp2_with fail
        go_ret
        exact ⟨ret_bool (by rw [pairsB_yes h6 (fun t ht => Hk.out t (by omega))]), hb⟩
  · go_enter Try.func50, Try.ntmps50
    go_wp2_with fail
    go_ret
    exact ⟨ret_bool (by simp [pairsB, h6]), Below.refl _ _⟩

/-- equalproof.Close: the error; with none: classes. -/
def CloseEnds (ts : List Tm) (ps : List Pr) (w w' : World) (e : Ending) : Prop :=
  (termsB ts = false ∧ e = .returned (.tuple #[.slice none 0 0, .int .i64 1])) ∨
  (termsB ts = true ∧ pairsB ts.length ps = false ∧ e = .returned (.tuple #[.slice none 0 0, .int .i64 2])) ∨
  (termsB ts = true ∧ pairsB ts.length ps = true ∧ ∃ g c, e = .returned (.tuple #[.slice (some ⟨g, 0, none⟩) ts.length ts.length, .int .i64 0]) ∧ Row w' g c ∧ w.heap.size ≤ g ∧ CloseOf ts ps c)

set_option maxHeartbeats 400000 in
theorem close_any (ta pa : Option Addr) (tc pc : Nat) (ts : List Tm) (ps : List Pr) (w : World) (ht : TermsAt w ta ts) (hp : PairsAt w pa ps) :
    Calls Try.prog 20 #[.slice ta ts.length tc, .slice pa ps.length pc] w fun e w' => CloseEnds ts ps w w' e ∧ Below w.heap.size w w' := by
  go_enter Try.func20, Try.ntmps20
  go_wp2_with fail
  refine (terms_any ta tc ts w ht).mono ?_
  rintro e w1 ⟨rfl, hb1⟩
  cases h1 : termsB ts
  · go_wp2_with fail
    go_ret2
    exact ⟨.inl ⟨h1, rfl⟩, hb1⟩
  · have H1 := hide h1
    clear h1
    go_wp2_with fail
    refine (pairs_any ts.length pa pc ps w1 (hp.below hb1)).mono ?_
    rintro e w2 ⟨rfl, hb2⟩
    have hb12 : Below w.heap.size w w2 := hb1.trans (hb2.mono hb1.size)
    cases h2 : pairsB ts.length ps
    · go_wp2_with fail
      go_ret2
      exact ⟨.inr (.inl ⟨H1.out, h2, rfl⟩), hb12⟩
    · have H2 := hide h2
      clear h2
      go_wp2_with fail
      refine (eqClose_any ta pa tc pc ts ps w2 (ht.below hb12) (hp.below hb12) (len_of H1.out).2 (argsIn_of H1.out (Nat.le_refl _)) (pairsIn_of H2.out)).mono ?_
      rintro e w3 ⟨g, c, rfl, hrow, hg, hcl, hb3⟩
      have Hcl := hide hcl
      clear hcl
      go_wp2_with fail
      go_ret2
      exact ⟨.inr (.inr ⟨H1.out, H2.out, g, c, rfl, hrow, Nat.le_trans hb12.size hg, Hcl.out⟩), hb12.trans (hb3.mono hb12.size)⟩
end Go.Proofs.Ytjebhhoibofmfaa
