import Derived.Test.YtjebhhoibofmfaaXLwI
namespace Go.Proofs.Ytjebhhoibofmfaa
open Go.RowKit

theorem termB_sym {n s : Int} {a : Option Addr} {cap : Nat} {xs : List Int} (h : belowB s 10 = false) : termB n ⟨s, a, cap, xs⟩ = false := by
  simp [termB, h]
theorem termB_len {n s : Int} {a : Option Addr} {cap : Nat} {xs : List Int} (h : ¬ xs.length ≤ 2) : termB n ⟨s, a, cap, xs⟩ = false := by
  simp [termB, h]

set_option maxHeartbeats 400000 in
theorem rTerms_any (ta : Option Addr) (tc : Nat) (ts : List Tm) (w : World) (ht : TermsAt w ta ts) :
    Calls Try.prog 57 #[.slice ta ts.length tc] w fun e w' => e = .returned (.bool (termsB ts)) ∧ w' = w := by
  by_cases h1 : 1 ≤ ts.length
  · by_cases h9 : ts.length ≤ 9
    · go_enter Try.func57, Try.ntmps57
      go_wp2_with fail
      go_loopg [3] ts.length (fun g v wr => ∃ i : Nat, g = ts.length - i ∧ i ≤ ts.length ∧ v = .int .i64 i ∧ Hid (∀ t, t < i → termB (t : Int) (ts.getD t tm0) = true) ∧ wr = w)
      case atStart => exact ⟨0, by omega, Nat.zero_le _, rfl, (fun t h => by omega), rfl⟩
      case round =>
        obtain ⟨i, rfl, hi, rfl, Hi, rfl⟩ := hrel
        by_cases hlt : i < ts.length
        · obtain ⟨tb, tf, rfl, tcell⟩ := ht.get hlt
          obtain ⟨t1, t2, t3⟩ := tcell i hlt
          generalize hq : ts.getD i tm0 = q at *
          obtain ⟨qs, qa, qc, ql⟩ := q
          have Hq := hide hq
          clear hq tcell
          simp only at t1 t2 t3
          by_cases hs0 : qs < 0
          · go_wp2_with fail
            go_ret
            exact ⟨ret_bool (by rw [termsB_no i hlt (by rw [Hq.out]; exact termB_sym (by simp [belowB]; omega))]), rfl⟩
          · by_cases hs9 : 9 < qs
            · go_wp2_with fail
              go_ret
              exact ⟨ret_bool (by rw [termsB_no i hlt (by rw [Hq.out]; exact termB_sym (by simp [belowB]; omega))]), rfl⟩
            · by_cases h2 : ql.length ≤ 2
              · have hs : belowB qs 10 = true := by simp [belowB]; omega
                have Hs := hide hs
                clear hs
                go_wp2_with fail
                go_loopg [4] ql.length (fun g v wr' => ∃ k : Nat, g = ql.length - k ∧ k ≤ ql.length ∧ v = .int .i64 k ∧ Hid (∀ t, t < k → belowB (ql.getD t 0) i = true) ∧ wr' = wr)
                case atStart => exact ⟨0, by omega, Nat.zero_le _, rfl, (fun t h => by omega), rfl⟩
                case round =>
                  obtain ⟨k, rfl, hk, rfl, Hk, rfl⟩ := hrel
                  by_cases hkt : k < ql.length
                  · obtain ⟨xb, xo, rfl, xcell⟩ := t3.get hkt
                    have x1 := xcell k hkt
                    generalize hv : ql.getD k 0 = v at *
                    have Hv := hide hv
                    clear xcell hv
                    by_cases hv0 : v < 0
                    · go_wp2_with fail
                      go_ret
                      exact ⟨ret_bool (by rw [termsB_no i hlt (by rw [Hq.out]; exact termB_no k hkt (by rw [Hv.out]; simp [belowB]; omega))]), rfl⟩
                    · by_cases hvi : v < i
                      · go_wp2_with fail
                        go_roundg (ql.length - (k + 1))
                        case measure => omega
                        case rel => exact ⟨k + 1, rfl, by omega, by go_num, upto_succ Hk.out (by rw [Hv.out]; simp [belowB]; omega), rfl⟩
                      · go_wp2_with fail
                        go_ret
                        exact ⟨ret_bool (by rw [termsB_no i hlt (by rw [Hq.out]; exact termB_no k hkt (by rw [Hv.out]; simp [belowB]; omega))]), rfl⟩
                  · go_wp2_with fail
                    go_roundg (ts.length - (i + 1))
                    case measure => omega
                    case rel => exact ⟨i + 1, rfl, by omega, by go_num, upto_succ Hi.out (by rw [Hq.out]; exact termB_yes Hs.out h2 (fun t ht => Hk.out t (by omega))), rfl⟩
              · go_wp2_with fail
                go_ret
                exact ⟨ret_bool (by rw [termsB_no i hlt (by rw [Hq.out]; exact termB_len h2)]), rfl⟩
        · go_wp2_with fail
          go_ret
          exact ⟨ret_bool (by rw [termsB_yes h1 h9 (fun t ht => Hi.out t (by omega))]), rfl⟩
    · go_enter Try.func57, Try.ntmps57
      go_wp2_with fail
      go_ret
      exact ⟨ret_bool (by simp [termsB, h9]), rfl⟩
  · go_enter Try.func57, Try.ntmps57
    go_wp2_with fail
    go_ret
    exact ⟨ret_bool (by simp [termsB, h1]), rfl⟩
end Go.Proofs.Ytjebhhoibofmfaa
