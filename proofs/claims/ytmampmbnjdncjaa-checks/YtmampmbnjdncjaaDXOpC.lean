import Derived.Test.YtmampmbnjdncjaaDXOpA
import Derived.Test.YtmampmbnjdncjaaDMLx
namespace Go.Proofs.Ytmampmbnjdncjaa
open Go.RowKit Go.ChangeShapes Go.WideShapes Go.ChangeAt
section
variable {H : Type} {enc : TypeId × Value → H} {W : World} {base : Nat} {spare : Nat → Bool} {held : Bool}
theorem bytes_step : Try.prog.bytesOf 62 = 40 := by kernel_rfl
theorem cells_step : Try.prog.cellsOf 62 = 5 := by kernel_rfl
theorem trod_struct5 {t : TypeId} {f0 f1 f2 f3 f4 : Field} {fuel : Nat} {cs : List Value} {x : DataW H × List MemPlace} (ht : Try.prog.underlying t = some (.struct #[f0, f1, f2, f3, f4])) (h : DataW.trod enc Try.prog W base spare held fuel t cs = some x) :
    ∃ y0 y1 y2 y3 y4 n, cs.length = Try.prog.cellsOf t ∧ DataW.trod enc Try.prog W base spare held n f0.type ((cs.drop f0.offset).take (Try.prog.cellsOf f0.type)) = some y0 ∧
      DataW.trod enc Try.prog W base spare held n f1.type ((cs.drop f1.offset).take (Try.prog.cellsOf f1.type)) = some y1 ∧ DataW.trod enc Try.prog W base spare held n f2.type ((cs.drop f2.offset).take (Try.prog.cellsOf f2.type)) = some y2 ∧
      DataW.trod enc Try.prog W base spare held n f3.type ((cs.drop f3.offset).take (Try.prog.cellsOf f3.type)) = some y3 ∧ DataW.trod enc Try.prog W base spare held n f4.type ((cs.drop f4.offset).take (Try.prog.cellsOf f4.type)) = some y4 := by
  obtain ⟨xs, n, _, rfl, hl, hlen, hf⟩ := DataW.trod_struct ht h
  match xs, hlen with
  | [y0, y1, y2, y3, y4], _ => exact ⟨y0, y1, y2, y3, y4, n, hl, by simpa using hf 0 f0 rfl, by simpa using hf 1 f1 rfl, by simpa using hf 2 f2 rfl, by simpa using hf 3 f3 rfl, by simpa using hf 4 f4 rfl⟩
set_option maxRecDepth 100000 in
theorem oStep {fuel : Nat} {cs : List Value} {x : DataW H × List MemPlace} (h : DataW.trod enc Try.prog W base spare held fuel 62 cs = some x) :
    ∃ s : St, cs = [.int .i64 s.r, .int .i64 s.a, .int .i64 s.b, .int .i64 s.c, .int .i64 s.d] := by
  obtain ⟨y0, y1, y2, y3, y4, n, hl, h0, h1, h2, h3, h4⟩ := trod_struct5 Try.underlying62 h
  rw [cells_step] at hl
  match cs, hl with
  | [u, v, y, z, t], _ =>
    rw [cells_int] at h0 h1 h2 h3 h4
    obtain ⟨s0, e0, _, _⟩ := DataW.trod_int Try.underlying3 h0
    obtain ⟨s1, e1, _, _⟩ := DataW.trod_int Try.underlying3 h1
    obtain ⟨s2, e2, _, _⟩ := DataW.trod_int Try.underlying3 h2
    obtain ⟨s3, e3, _, _⟩ := DataW.trod_int Try.underlying3 h3
    obtain ⟨s4, e4, _, _⟩ := DataW.trod_int Try.underlying3 h4
    simp at e0 e1 e2 e3 e4
    subst e0
    subst e1
    subst e2
    subst e3
    subst e4
    exact ⟨⟨s0, s1, s2, s3, s4⟩, rfl⟩
theorem oSteps {fuel : Nat} {cs : List Value} {x : DataW H × List MemPlace} (h : DataW.trod enc Try.prog W base spare held fuel 34 cs = some x) (hw : ∀ n ∈ x.1.weights Try.prog 34, n ≤ reachBytes) :
    ∃ (a : Option Addr) (cap : Nat) (sts : List St), cs = [.slice a sts.length cap] ∧ StepsAt W a sts ∧ (a = none → cap = 0) ∧ sts.length ≤ 3518437208883 := by
  rcases Go.Deep.open_slice Try.underlying34 h with ⟨rfl, _⟩ | ⟨a, len, cap, m, n, D, Pl, rfl, _, hl, _, hm, rfl, hx⟩
  · exact ⟨none, 0, [], rfl, .inl rfl, fun _ => rfl, by simp⟩
  · have hlm : len ≤ m := by rw [hm]; split <;> omega
    rw [cells_step] at hx
    have hb : len ≤ 3518437208883 := by
      have := hw ((((List.range len).map D).length + ((List.range (m - len)).map fun j => D (len + j)).length) * Try.prog.bytesOf 62) (by simp [DataW.weights, Try.underlying34])
      rw [bytes_step] at this
      simp only [reachBytes, List.length_map, List.length_range] at this
      omega
    have : Inhabited St := ⟨st0⟩
    obtain ⟨f, hf⟩ := Go.Deep.choose_lt (α := St) (p := fun i l => W.cell? (a.add (i * 5)) = some (.int .i64 l.r) ∧ W.cell? (a.add (i * 5 + 1)) = some (.int .i64 l.a) ∧ W.cell? (a.add (i * 5 + 2)) = some (.int .i64 l.b) ∧ W.cell? (a.add (i * 5 + 3)) = some (.int .i64 l.c) ∧ W.cell? (a.add (i * 5 + 4)) = some (.int .i64 l.d)) (n := len) (fun i hi => by
      obtain ⟨cs', h1, h2⟩ := hx i (by omega)
      obtain ⟨t, rfl⟩ := oStep h2
      obtain ⟨_, _, hc⟩ := World.cells?_some h1
      have e0 := hc 0 (by omega)
      have e1 := hc 1 (by omega)
      have e2 := hc 2 (by omega)
      have e3 := hc 3 (by omega)
      have e4 := hc 4 (by omega)
      rw [Go.Deep.add_add] at e0 e1 e2 e3 e4
      exact ⟨t, e0, e1, e2, e3, e4⟩)
    have hlen : (tabG len f).length = len := tabG_length _ _
    refine ⟨some a, cap, tabG len f, by rw [hlen], ?_, fun h => (by cases h), by rw [hlen]; exact hb⟩
    by_cases h0 : len = 0
    · exact .inl (by subst h0; rfl)
    · obtain ⟨b, off, spot⟩ := a
      have hspot : spot = none := by simpa [Addr.add] using World.cell?_spot (hf 0 (by omega)).1
      subst hspot
      refine .inr ⟨b, off, rfl, fun i hi => ?_⟩
      rw [hlen] at hi
      rw [tabG_getD _ _ _ hi]
      obtain ⟨h1, h2, h3, h4, h5⟩ := hf i hi
      rw [Go.WideShapes.add_plain] at h1 h2 h3 h4 h5
      exact ⟨h1, h2, h3, h4, h5⟩
end
end Go.Proofs.Ytmampmbnjdncjaa
