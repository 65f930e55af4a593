import Derived.Test.YtjebhhoibofmfaaXRfA
namespace Go.Proofs.Ytjebhhoibofmfaa
open Go.RowKit

set_option maxRecDepth 100000 in
set_option maxHeartbeats 800000 in
theorem look_any (ta sa : Option Addr) (tc sc : Nat) (ts : List Tm) (cs : List Cl) (w : World) (ht : TermsAt w ta ts) (hcs : ClausesAt w sa cs) :
    Calls Try.prog 63 #[.agg #[.slice ta ts.length tc, .slice sa cs.length sc]] w fun e w' => e = .returned (.int .i64 (refuseI ts cs)) ∧ Below w.heap.size w w' := by
  have hb0 : Below w.heap.size w (w.alloc (.cells #[.slice ta ts.length tc, .slice sa cs.length sc] 33)) := (Below.refl _ _).alloc (Nat.le_refl _) _
  have ht' := ht.below hb0
  have hcs' := hcs.below hb0
  cases h1 : termsB ts
  · go_enter Try.func63, Try.ntmps63
    go_wp2_with (go_at_call 57; refine (rTerms_any ta tc ts _ ht').mono ?_; rintro e w' ⟨rfl, rfl⟩)
    go_ret
    exact ⟨ret_int (by simp [refuseI, h1]), hb0⟩
  · have h9 := (len_of h1).2
    have H1 := hide h1
    by_cases h16 : cs.length ≤ 16
    · go_enter Try.func63, Try.ntmps63
      go_wp2_with (go_at_call 57; refine (rTerms_any ta tc ts _ ht').mono ?_; rintro e w' ⟨rfl, rfl⟩)
      have q1 : (w.alloc (.cells #[.slice ta ts.length tc, .slice sa cs.length sc] 33)).cell? ⟨w.heap.size, 0, none⟩ = some (.slice ta ts.length tc) := by simp
      have q2 : (w.alloc (.cells #[.slice ta ts.length tc, .slice sa cs.length sc] 33)).cell? ⟨w.heap.size, 1, none⟩ = some (.slice sa cs.length sc) := by simp
      have hsz : w.heap.size ≤ (w.alloc (.cells #[.slice ta ts.length tc, .slice sa cs.length sc] 33)).heap.size := by simp
      generalize hW : w.alloc (.cells #[.slice ta ts.length tc, .slice sa cs.length sc] 33) = W at *
      clear hW
      clear h1
      go_loopg [4] cs.length (fun g v wr => ∃ k : Nat, g = cs.length - k ∧ k ≤ cs.length ∧ v = .int .i64 k ∧ Hid (∀ t, t < k → clauseB ts.length (cs.getD t cl0).ls = true) ∧ Below W.heap.size W wr)
      case atStart => exact ⟨0, by omega, Nat.zero_le _, rfl, (fun t h => by omega), Below.refl _ _⟩
      case round =>
        obtain ⟨i, rfl, hi, rfl, Hi, hb⟩ := hrel
        have r1 := cell_below hb q1
        have r2 := cell_below hb q2
        by_cases hlt : i < cs.length
        · obtain ⟨sb, so, rfl, scell⟩ := hcs'.get hlt
          obtain ⟨s1, s2⟩ := scell i hlt
          generalize hq : cs.getD i cl0 = q at *
          obtain ⟨qa, qc, ql⟩ := q
          have Hq := hide hq
          clear hq scell
          simp only at s1 s2
          have s1' := cell_below hb s1
          by_cases h6 : ql.length ≤ 6
          · go_wp2_with fail
            go_loopg [5] ql.length (fun g v wr' => ∃ k : Nat, g = ql.length - k ∧ k ≤ ql.length ∧ v = .int .i64 k ∧ Hid (∀ t, t < k → litOk ts.length (ql.getD t lt0) = true) ∧ Below W.heap.size W wr')
            case atStart => exact ⟨0, by omega, Nat.zero_le _, rfl, (fun t h => by omega), hb⟩
            case round =>
              clear r1 r2 s1' hb
              obtain ⟨k, rfl, hk, rfl, Hk, hb⟩ := hrel
              have r1 := cell_below hb q1
              have r2 := cell_below hb q2
              have s1' := cell_below hb s1
              by_cases hkt : k < ql.length
              · obtain ⟨lb, lo, rfl, lcell⟩ := (s2.below hb).get hkt
                obtain ⟨l1, l2, l3⟩ := lcell k hkt
                have hst : litOk ts.length (ql.getD k lt0) = (belowB (ql.getD k lt0).x ts.length && belowB (ql.getD k lt0).y ts.length) := rfl
                generalize (ql.getD k lt0).x = vx at *
                generalize (ql.getD k lt0).y = vy at *
                generalize (ql.getD k lt0).n = vn at *
                have Hst := hide hst
                clear hst lcell
                have hwb := block_lt r1
                have hwb2 := block_lt s1'
                have hno : (belowB vx ts.length && belowB vy ts.length) = false → refuseI ts cs = 3 := by
                  intro hf
                  have h3 : clausesB ts.length cs = false := clausesB_no i hlt (by rw [Hq.out]; exact clauseB_no k hkt (by rw [Hst.out, hf]))
                  simp [refuseI, H1.out, h3]
                have Hno := hide hno
                clear hno
                by_cases x0 : vx < 0
                · go_wp2_with fail
                  go_ret
                  exact ⟨ret_int (by rw [Hno.out (by simp [belowB]; omega)]), hb0.trans ((hb.alloc hb.size _).mono hsz)⟩
                · by_cases x1 : (ts.length : Int) ≤ vx
                  · go_wp2_with fail
                    go_ret
                    exact ⟨ret_int (by rw [Hno.out (by simp [belowB]; omega)]), hb0.trans ((hb.alloc hb.size _).mono hsz)⟩
                  · by_cases y0 : vy < 0
                    · go_wp2_with fail
                      go_ret
                      exact ⟨ret_int (by rw [Hno.out (by simp [belowB]; omega)]), hb0.trans ((hb.alloc hb.size _).mono hsz)⟩
                    · by_cases y1 : (ts.length : Int) ≤ vy
                      · go_wp2_with fail
                        go_ret
                        exact ⟨ret_int (by rw [Hno.out (by simp [belowB]; omega)]), hb0.trans ((hb.alloc hb.size _).mono hsz)⟩
                      · go_wp2_with fail
                        go_roundg (ql.length - (k + 1))
                        case measure => omega
                        case rel => exact ⟨k + 1, rfl, by omega, by go_num, upto_succ Hk.out (by rw [Hst.out]; simp [belowB]; omega), hb.alloc hb.size _⟩
              · go_wp2_with fail
                go_roundg (cs.length - (i + 1))
                case measure => omega
                case rel => exact ⟨i + 1, rfl, by omega, by go_num, upto_succ Hi.out (by rw [Hq.out]; show clauseB _ ql = true; exact clauseB_yes h6 (fun t ht => Hk.out t (by omega))), hb⟩
          · go_wp2_with fail
            go_ret
            exact ⟨ret_int (by
              have h3 : clausesB ts.length cs = false := clausesB_no i hlt (by rw [Hq.out]; simp [clauseB, h6])
              simp [refuseI, H1.out, h3]), hb0.trans (hb.mono hsz)⟩
        · go_wp2_with fail
          go_ret
          exact ⟨ret_int (by simp [refuseI, H1.out, clausesB_yes h16 (fun t ht => Hi.out t (by omega))]), hb0.trans (hb.mono hsz)⟩
    · go_enter Try.func63, Try.ntmps63
      go_wp2_with (go_at_call 57; refine (rTerms_any ta tc ts _ ht').mono ?_; rintro e w' ⟨rfl, rfl⟩)
      go_ret
      exact ⟨ret_int (by simp [refuseI, h1, clausesB, h16]), hb0⟩
end Go.Proofs.Ytjebhhoibofmfaa
