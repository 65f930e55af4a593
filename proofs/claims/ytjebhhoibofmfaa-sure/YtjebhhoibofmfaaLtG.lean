import Derived.Test.YtjebhhoibofmfaaLtF
namespace Go.Proofs.Ytjebhhoibofmfaa
open Go.RowKit

/-- lits.Of -/
def ofL : List Lt → Nat × Nat → Nat × Nat
  | [], s => s
  | t :: ls, s => ofL ls (withE s.1 t, withA s.2 t)

theorem ofL_take (ls : List Lt) (s : Nat × Nat) : ∀ k, k < ls.length → ofL (ls.take (k + 1)) s = (withE (ofL (ls.take k) s).1 (ls.getD k lt0), withA (ofL (ls.take k) s).2 (ls.getD k lt0)) := by
  induction ls generalizing s with
  | nil => intro k hk; simp at hk
  | cons t ls ih =>
    intro k hk
    cases k with
    | zero => simp [ofL]
    | succ k =>
      have := ih (withE s.1 t, withA s.2 t) k (by simpa using hk)
      simpa [ofL] using this

theorem withE_lt {E : Nat} {t : Lt} (hE : E < 18446744073709551616) (h : LowL 9 t) : withE E t < 18446744073709551616 := by
  unfold withE
  split
  · exact hE
  · exact Nat.or_lt_two_pow (n := 64) hE (bitN_lt h.1 h.2.1 h.2.2.1 h.2.2.2)
theorem withA_lt {A : Nat} {t : Lt} (hA : A < 18446744073709551616) (h : LowL 9 t) : withA A t < 18446744073709551616 := by
  unfold withA
  split
  · exact Nat.or_lt_two_pow (n := 64) hA (bitN_lt h.1 h.2.1 h.2.2.1 h.2.2.2)
  · exact hA

theorem ofL_lt : ∀ (ls : List Lt) (s : Nat × Nat), (∀ t ∈ ls, LowL 9 t) → s.1 < 18446744073709551616 → s.2 < 18446744073709551616 → (ofL ls s).1 < 18446744073709551616 ∧ (ofL ls s).2 < 18446744073709551616
  | [], _, _, h1, h2 => ⟨h1, h2⟩
  | t :: ls, _, h, h1, h2 => ofL_lt ls _ (fun u hu => h u (List.mem_cons_of_mem _ hu)) (withE_lt h1 (h t (List.mem_cons_self ..))) (withA_lt h2 (h t (List.mem_cons_self ..)))

theorem getD_mem {ls : List Lt} {k : Nat} (h : k < ls.length) : ls.getD k lt0 ∈ ls := by
  rw [List.getD_eq_getElem?_getD, List.getElem?_eq_getElem h, Option.getD_some]; exact List.getElem_mem h

set_option maxHeartbeats 1000000 in
theorem of_any (a : Option Addr) (cap : Nat) (ls : List Lt) (w : World) (hx : LitsAt w a ls) (hl : ∀ t ∈ ls, LowL 9 t) (h9 : ls.length ≤ 100) :
    Calls Try.prog 123 #[.slice a ls.length cap] w fun e w' => e = .returned (.agg #[.int .u64 (ofL ls (0, 0)).1, .int .u64 (ofL ls (0, 0)).2]) ∧ Below w.heap.size w w' := by
  obtain ⟨W, hW⟩ : ∃ W, W = (w.alloc (.cells #[.int .u64 0, .int .u64 0] 84)).alloc (.cells #[.int .u64 0, .int .u64 0] 84) := ⟨_, rfl⟩
  have hb0 : Below w.heap.size w W := by rw [hW]; exact ((Below.refl _ _).alloc (Nat.le_refl _) _).alloc (by simp) _
  have hs : W.heap.size = w.heap.size + 1 + 1 := by rw [hW]; simp
  have c0 : W.cell? ⟨w.heap.size, 0, none⟩ = some (.int .u64 0) := by rw [hW]; simp
  have c1 : W.cell? ⟨w.heap.size, 1, none⟩ = some (.int .u64 0) := by rw [hW]; simp
  have f0 : W.frozen? ⟨w.heap.size, 0, none⟩ = false := by rw [hW]; simp
  have f1 : W.frozen? ⟨w.heap.size, 1, none⟩ = false := by rw [hW]; simp
  have d0 : W.cell? ⟨w.heap.size + 1, 0, none⟩ = some (.int .u64 0) := by rw [hW]; simp
  have d1 : W.cell? ⟨w.heap.size + 1, 1, none⟩ = some (.int .u64 0) := by rw [hW]; simp
  have g0 : W.frozen? ⟨w.heap.size + 1, 0, none⟩ = false := by rw [hW]; simp
  have g1 : W.frozen? ⟨w.heap.size + 1, 1, none⟩ = false := by rw [hW]; simp
  go_enter Try.func123, Try.ntmps123
  go_wp2_with fail
  rw [← hW]
  clear hW
  generalize hB : w.heap.size = B at *
  have HB := hide hB
  go_loopg [8] ls.length (fun g v wr => ∃ k : Nat, g = ls.length - k ∧ k ≤ ls.length ∧ v = .int .i64 k ∧
    (∃ E A : Nat, Hid (ofL (ls.take k) (0, 0) = (E, A)) ∧ wr.cell? ⟨B + 1, 0, none⟩ = some (.int .u64 E) ∧ wr.cell? ⟨B + 1, 1, none⟩ = some (.int .u64 A)) ∧
    wr.frozen? ⟨B + 1, 0, none⟩ = false ∧ wr.frozen? ⟨B + 1, 1, none⟩ = false ∧
    wr.cell? ⟨B, 0, none⟩ = some (.int .u64 0) ∧ wr.cell? ⟨B, 1, none⟩ = some (.int .u64 0) ∧ wr.frozen? ⟨B, 0, none⟩ = false ∧ wr.frozen? ⟨B, 1, none⟩ = false ∧ Below B w wr ∧ B + 1 + 1 ≤ wr.heap.size)
  case atStart => exact ⟨0, by omega, Nat.zero_le _, rfl, ⟨0, 0, rfl, d0, d1⟩, g0, g1, c0, c1, f0, f1, hb0, by omega⟩
  case round =>
    obtain ⟨k, rfl, hk, rfl, ⟨E, A, HEA, p0, p1⟩, q0, q1, r0, r1, s0, s1, hb, hsz⟩ := hrel
    by_cases hlt : k < ls.length
    · have hbw : Below w.heap.size w wr := by rw [hB]; exact hb
      obtain ⟨xb, xo, rfl, xcell⟩ := (hx.below hbw).get hlt
      obtain ⟨x1, x2, x3⟩ := xcell k hlt
      have hlow := hl _ (getD_mem hlt)
      have hEA := ofL_lt (ls.take k) (0, 0) (fun t ht => hl t (List.mem_of_mem_take ht)) (by decide) (by decide)
      rw [HEA.out] at hEA
      have Hst : Hid (ofL (ls.take (k + 1)) (0, 0) = (withE E (ls.getD k lt0), withA A (ls.getD k lt0))) := by
        show _ = _
        rw [ofL_take _ _ _ hlt, HEA.out]
      generalize hv : ls.getD k lt0 = v at *
      obtain ⟨vx, vy, vn⟩ := v
      simp only at x1 x2 x3
      obtain ⟨l1, l2, l3, l4⟩ := hlow
      simp only at l1 l2 l3 l4
      clear xcell hv hbw d0 d1 c0 c1 f0 f1 g0 g1
      have hc := with_any vx vy vn E A
      have Hc := hide hc
      clear hc
      have z1 : B + 1 < wr.heap.size := by omega
      have z0 : B < wr.heap.size := by omega
      have z2 : ¬ (B + 1 = wr.heap.size) := by omega
      have z3 : ¬ (B = wr.heap.size) := by omega
      have hb1 : Below wr.heap.size wr (wr.alloc (.cells #[.int .i64 vx, .int .i64 vy, .bool vn] 50)) := (Below.refl _ _).alloc (Nat.le_refl _) _
      go_wp2_with fail
      refine (Hc.out _ l1 l2 l3 l4 hEA.1 hEA.2).mono ?_
      rintro e w' ⟨rfl, hb2⟩
      have hb3 : Below wr.heap.size wr w' := hb1.trans (hb2.mono hb1.size)
      clear hb1 hb2 Hc x1 x2 x3
      replace p0 := cell_below hb3 p0
      replace p1 := cell_below hb3 p1
      replace r0 := cell_below hb3 r0
      replace r1 := cell_below hb3 r1
      replace q0 := frozen_below hb3 z1 q0
      replace q1 := frozen_below hb3 z1 q1
      replace s0 := frozen_below hb3 z0 s0
      replace s1 := frozen_below hb3 z0 s1
      have hb4 : Below B w w' := hb.trans (hb3.mono (by omega))
      have hsz2 : B + 1 + 1 ≤ w'.heap.size := by have := hb3.size; omega
      clear hb3 hb z0 z1 z2 z3
      generalize withE E ⟨vx, vy, vn⟩ = E' at *
      generalize withA A ⟨vx, vy, vn⟩ = A' at *
      go_wp2_with fail
      go_roundg (ls.length - (k + 1))
      case measure => omega
      case rel =>
        exact ⟨k + 1, rfl, by omega, by go_num, ⟨E', A', Hst, set_other (by omega) (set_same p0), set_same (set_other (by omega) p1)⟩, set_frozen (set_frozen q0), set_frozen (set_frozen q1),
          set_other (by omega) (set_other (by omega) r0), set_other (by omega) (set_other (by omega) r1), set_frozen (set_frozen s0), set_frozen (set_frozen s1),
          (hb4.setCell (p := ⟨B + 1, 0, none⟩) (Nat.le_succ B) _).setCell (p := ⟨B + 1, 1, none⟩) (Nat.le_succ B) _, by simp; exact hsz2⟩
    · have Hfin : Hid (ofL ls (0, 0) = (E, A)) := by
        show _ = _
        have := HEA.out
        rwa [List.take_of_length_le (by omega)] at this
      have z0 : ¬ (B + 1 = B) := by omega
      go_wp2_with fail
      exact bodyPost_ret (v := .agg #[.int .u64 E, .int .u64 A]) (by simp [results, Try.results123, go_sem, r0, r1]) rfl ⟨by rw [Hfin.out], by rw [HB.out]; exact (hb.setCell (p := ⟨B, 0, none⟩) (Nat.le_refl _) _).setCell (p := ⟨B, 1, none⟩) (Nat.le_refl _) _⟩
end Go.Proofs.Ytjebhhoibofmfaa
