import Derived.Test.YtjebhhoibofmfaaSuA
import Derived.Test.YtjebhhoibofmfaaKpI
namespace Go.Proofs.Ytjebhhoibofmfaa
open Go.RowKit

/-- The world in which a step has been stored. -/
abbrev w5 (W : World) (g : Nat) (x0 x1 x2 x3 x4 : Int) : World :=
  ((((W.setCell ⟨g, 0, none⟩ (.int .i64 x0)).setCell ⟨g, 1, none⟩ (.int .i64 x1)).setCell ⟨g, 2, none⟩ (.int .i64 x2)).setCell ⟨g, 3, none⟩ (.int .i64 x3)).setCell ⟨g, 4, none⟩ (.int .i64 x4)

theorem w5_cells {W : World} {g : Nat} {x0 x1 x2 x3 x4 : Int} {y0 y1 y2 y3 y4 : Value} (r0 : W.cell? ⟨g, 0, none⟩ = some y0) (r1 : W.cell? ⟨g, 1, none⟩ = some y1) (r2 : W.cell? ⟨g, 2, none⟩ = some y2) (r3 : W.cell? ⟨g, 3, none⟩ = some y3) (r4 : W.cell? ⟨g, 4, none⟩ = some y4) :
    (w5 W g x0 x1 x2 x3 x4).cell? ⟨g, 0, none⟩ = some (.int .i64 x0) ∧ (w5 W g x0 x1 x2 x3 x4).cell? ⟨g, 1, none⟩ = some (.int .i64 x1) ∧ (w5 W g x0 x1 x2 x3 x4).cell? ⟨g, 2, none⟩ = some (.int .i64 x2) ∧
    (w5 W g x0 x1 x2 x3 x4).cell? ⟨g, 3, none⟩ = some (.int .i64 x3) ∧ (w5 W g x0 x1 x2 x3 x4).cell? ⟨g, 4, none⟩ = some (.int .i64 x4) := by
  unfold w5
  refine ⟨?_, ?_, ?_, ?_, ?_⟩
  · exact set_other (by omega) (set_other (by omega) (set_other (by omega) (set_other (by omega) (set_same r0))))
  · exact set_other (by omega) (set_other (by omega) (set_other (by omega) (set_same (set_other (by omega) r1))))
  · exact set_other (by omega) (set_other (by omega) (set_same (set_other (by omega) (set_other (by omega) r2))))
  · exact set_other (by omega) (set_same (set_other (by omega) (set_other (by omega) (set_other (by omega) r3))))
  · exact set_same (set_other (by omega) (set_other (by omega) (set_other (by omega) (set_other (by omega) r4))))

theorem w5_below {w W : World} {g : Nat} {x0 x1 x2 x3 x4 : Int} (h : Below w.heap.size w W) (hg : w.heap.size ≤ g) : Below w.heap.size w (w5 W g x0 x1 x2 x3 x4) :=
  ((((h.setCell (p := ⟨g, 0, none⟩) hg _).setCell (p := ⟨g, 1, none⟩) hg _).setCell (p := ⟨g, 2, none⟩) hg _).setCell (p := ⟨g, 3, none⟩) hg _).setCell (p := ⟨g, 4, none⟩) hg _

theorem step_fin {w W : World} {a : Act} {g : Nat} {x0 x1 x2 x3 x4 : Int} {y0 y1 y2 y3 y4 : Value} (h : Below w.heap.size w W) (hg : w.heap.size ≤ g)
    (r0 : W.cell? ⟨g, 0, none⟩ = some y0) (r1 : W.cell? ⟨g, 1, none⟩ = some y1) (r2 : W.cell? ⟨g, 2, none⟩ = some y2) (r3 : W.cell? ⟨g, 3, none⟩ = some y3) (r4 : W.cell? ⟨g, 4, none⟩ = some y4) (hd : a.defers = [])
    (hr : ∀ W' : World, W'.cell? ⟨g, 0, none⟩ = some (.int .i64 x0) → W'.cell? ⟨g, 1, none⟩ = some (.int .i64 x1) → W'.cell? ⟨g, 2, none⟩ = some (.int .i64 x2) → W'.cell? ⟨g, 3, none⟩ = some (.int .i64 x3) → W'.cell? ⟨g, 4, none⟩ = some (.int .i64 x4) →
      (results Try.f52 a.tmps).run Try.prog W' = .ok (.agg #[.int .i64 x0, .int .i64 x1, .int .i64 x2, .int .i64 x3, .int .i64 x4]) W') :
    bodyPost Try.prog Try.f52 (fun e w' => ∃ s : St, e = .returned (.agg #[.int .i64 s.r, .int .i64 s.a, .int .i64 s.b, .int .i64 s.c, .int .i64 s.d]) ∧ Below w.heap.size w w') .ret a (w5 W g x0 x1 x2 x3 x4) := by
  obtain ⟨k0, k1, k2, k3, k4⟩ := w5_cells (x0 := x0) (x1 := x1) (x2 := x2) (x3 := x3) (x4 := x4) r0 r1 r2 r3 r4
  exact bodyPost_ret (hr _ k0 k1 k2 k3 k4) hd ⟨⟨x0, x1, x2, x3, x4⟩, rfl, w5_below h hg⟩

theorem step_finD {w W : World} {a : Act} {g : Nat} {x0 x1 x2 x3 x4 : Int} {y0 y1 y2 y3 y4 : Value} (h : Below w.heap.size w W) (hg : w.heap.size ≤ g)
    (r0 : W.cell? ⟨g, 0, none⟩ = some y0) (r1 : W.cell? ⟨g, 1, none⟩ = some y1) (r2 : W.cell? ⟨g, 2, none⟩ = some y2) (r3 : W.cell? ⟨g, 3, none⟩ = some y3) (r4 : W.cell? ⟨g, 4, none⟩ = some y4) (hd : a.defers = [])
    (hr : ∀ W' : World, W'.cell? ⟨g, 0, none⟩ = some (.int .i64 x0) → W'.cell? ⟨g, 1, none⟩ = some (.int .i64 x1) → W'.cell? ⟨g, 2, none⟩ = some (.int .i64 x2) → W'.cell? ⟨g, 3, none⟩ = some (.int .i64 x3) → W'.cell? ⟨g, 4, none⟩ = some (.int .i64 x4) →
      (results Try.f52 a.tmps).run Try.prog W' = .ok (.agg #[.int .i64 x0, .int .i64 x1, .int .i64 x2, .int .i64 x3, .int .i64 x4]) W') :
    bodyPost Try.prog Try.f52 (fun e w' => ∃ s : St, e = .returned (.agg #[.int .i64 s.r, .int .i64 s.a, .int .i64 s.b, .int .i64 s.c, .int .i64 s.d]) ∧ Below w.heap.size w w') .ret a (w5 W g x0 x1 x2 x3 x4).drew := by
  obtain ⟨k0, k1, k2, k3, k4⟩ := w5_cells (x0 := x0) (x1 := x1) (x2 := x2) (x3 := x3) (x4 := x4) r0 r1 r2 r3 r4
  exact bodyPost_ret (hr (w5 W g x0 x1 x2 x3 x4).drew (drew_old k0) (drew_old k1) (drew_old k2) (drew_old k3) (drew_old k4)) hd ⟨⟨x0, x1, x2, x3, x4⟩, rfl, (w5_below h hg).drew⟩

set_option maxRecDepth 100000 in
set_option maxHeartbeats 2000000 in
theorem kstep_any (ta sa : Option Addr) (tc sc n k v m : Nat) (w : World) (hn : 1 ≤ n) (hn9 : n ≤ 9) (hk : k ≤ 16) (hm : m ≤ 60) (hv : v < 1152921504606846976) :
    Calls Try.prog 52 #[.agg #[.slice ta n tc, .slice sa k sc], .int .i64 v, .int .i64 m] w fun e w' => ∃ s : St, e = .returned (.agg #[.int .i64 s.r, .int .i64 s.a, .int .i64 s.b, .int .i64 s.c, .int .i64 s.d]) ∧ Below w.heap.size w w' := by
  obtain ⟨W, hW⟩ : ∃ W, W = (w.alloc (.cells #[.slice ta n tc, .slice sa k sc] 33)).alloc (.cells #[.int .i64 0, .int .i64 0, .int .i64 0, .int .i64 0, .int .i64 0] 62) := ⟨_, rfl⟩
  have p0 : W.cell? ⟨w.heap.size, 0, none⟩ = some (.slice ta n tc) := by rw [hW]; simp
  have p1 : W.cell? ⟨w.heap.size, 1, none⟩ = some (.slice sa k sc) := by rw [hW]; simp
  have r0 : W.cell? ⟨w.heap.size + 1, 0, none⟩ = some (.int .i64 0) := by rw [hW]; simp
  have r1 : W.cell? ⟨w.heap.size + 1, 1, none⟩ = some (.int .i64 0) := by rw [hW]; simp
  have r2 : W.cell? ⟨w.heap.size + 1, 2, none⟩ = some (.int .i64 0) := by rw [hW]; simp
  have r3 : W.cell? ⟨w.heap.size + 1, 3, none⟩ = some (.int .i64 0) := by rw [hW]; simp
  have r4 : W.cell? ⟨w.heap.size + 1, 4, none⟩ = some (.int .i64 0) := by rw [hW]; simp
  have f0 : W.frozen? ⟨w.heap.size + 1, 0, none⟩ = false := by rw [hW]; simp
  have f1 : W.frozen? ⟨w.heap.size + 1, 1, none⟩ = false := by rw [hW]; simp
  have f2 : W.frozen? ⟨w.heap.size + 1, 2, none⟩ = false := by rw [hW]; simp
  have f3 : W.frozen? ⟨w.heap.size + 1, 3, none⟩ = false := by rw [hW]; simp
  have f4 : W.frozen? ⟨w.heap.size + 1, 4, none⟩ = false := by rw [hW]; simp
  have hb0 : Below w.heap.size w W := by rw [hW]; exact ((Below.refl _ _).alloc (Nat.le_refl _) _).alloc (by simp) _
  have n0 : ¬ n = 0 := by omega
  go_enter Try.func52, Try.ntmps52
  go_upto_region 1 with fail
  rw [← hW]
  clear hW
  go_wp2_with fail
  · refine step_fin (W := W) hb0 (Nat.le_succ _) r0 r1 r2 r3 r4 rfl (fun W' k0 k1 k2 k3 k4 => ?_)
    simp [results, Try.results52, go_sem, k0, k1, k2, k3, k4]
  · have m0 : ¬ m = 0 := by omega
    go_region
    go_wp2_with fail
    refine step_finD (W := W) hb0 (Nat.le_succ _) r0 r1 r2 r3 r4 rfl (fun W' k0 k1 k2 k3 k4 => ?_)
    simp [results, Try.results52, go_sem, k0, k1, k2, k3, k4]
  · refine step_fin (W := W) hb0 (Nat.le_succ _) r0 r1 r2 r3 r4 rfl (fun W' k0 k1 k2 k3 k4 => ?_)
    simp [results, Try.results52, go_sem, k0, k1, k2, k3, k4]
  · refine step_fin (W := W) hb0 (Nat.le_succ _) r0 r1 r2 r3 r4 rfl (fun W' k0 k1 k2 k3 k4 => ?_)
    simp [results, Try.results52, go_sem, k0, k1, k2, k3, k4]
  · have m0 : ¬ m = 0 := by omega
    go_region
    go_wp2_with fail
    refine step_finD (W := W) hb0 (Nat.le_succ _) r0 r1 r2 r3 r4 rfl (fun W' k0 k1 k2 k3 k4 => ?_)
    simp [results, Try.results52, go_sem, k0, k1, k2, k3, k4]
  · refine step_fin (W := W) hb0 (Nat.le_succ _) r0 r1 r2 r3 r4 rfl (fun W' k0 k1 k2 k3 k4 => ?_)
    simp [results, Try.results52, go_sem, k0, k1, k2, k3, k4]
  · refine step_fin (W := W) hb0 (Nat.le_succ _) r0 r1 r2 r3 r4 rfl (fun W' k0 k1 k2 k3 k4 => ?_)
    simp [results, Try.results52, go_sem, k0, k1, k2, k3, k4]
  · refine step_fin (W := W) hb0 (Nat.le_succ _) r0 r1 r2 r3 r4 rfl (fun W' k0 k1 k2 k3 k4 => ?_)
    simp [results, Try.results52, go_sem, k0, k1, k2, k3, k4]
  · refine step_fin (W := W) hb0 (Nat.le_succ _) r0 r1 r2 r3 r4 rfl (fun W' k0 k1 k2 k3 k4 => ?_)
    simp [results, Try.results52, go_sem, k0, k1, k2, k3, k4]
  · have m0 : ¬ m = 0 := by omega
    go_region
    go_wp2_with fail
    refine step_finD (W := W) hb0 (Nat.le_succ _) r0 r1 r2 r3 r4 rfl (fun W' k0 k1 k2 k3 k4 => ?_)
    simp [results, Try.results52, go_sem, k0, k1, k2, k3, k4]
  · refine step_fin (W := W) hb0 (Nat.le_succ _) r0 r1 r2 r3 r4 rfl (fun W' k0 k1 k2 k3 k4 => ?_)
    simp [results, Try.results52, go_sem, k0, k1, k2, k3, k4]
end Go.Proofs.Ytjebhhoibofmfaa
