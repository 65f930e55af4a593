import Derived.Test.YtiobmhfpnhjmcaaEXOpA
import Derived.Test.YtiobmhfpnhjmcaaEMMd
namespace Go.Proofs.Ytiobmhfpnhjmcaa
open Go.RowKit Go.ChangeShapes Go.WideShapes Go.ChangeAt
section
variable {H : Type} {enc : TypeId × Value → H} {W : World} {base : Nat} {spare : Nat → Bool} {held : Bool}
theorem bytes_pair : Try.prog.bytesOf 29 = 16 := by kernel_rfl
theorem cells_pair : Try.prog.cellsOf 29 = 2 := by kernel_rfl
set_option maxRecDepth 100000 in
theorem oPair {fuel : Nat} {cs : List Value} {x : DataW H × List MemPlace} (h : DataW.trod enc Try.prog W base spare held fuel 29 cs = some x) :
    ∃ p : Pr, cs = [.int .i64 p.x, .int .i64 p.y] := by
  obtain ⟨y0, y1, n, _, hl, h0, h1⟩ := trod_struct2 Try.underlying29 h
  rw [cells_pair] at hl
  match cs, hl with
  | [u, v], _ =>
    rw [cells_int] at h0 h1
    obtain ⟨s, hs, _, _⟩ := DataW.trod_int Try.underlying3 h0
    obtain ⟨r, hr, _, _⟩ := DataW.trod_int Try.underlying3 h1
    simp at hs hr
    subst hs
    subst hr
    exact ⟨⟨s, r⟩, rfl⟩
theorem oPairs {fuel : Nat} {cs : List Value} {x : DataW H × List MemPlace} (h : DataW.trod enc Try.prog W base spare held fuel 23 cs = some x) (hw : ∀ n ∈ x.1.weights Try.prog 23, n ≤ reachBytes) :
    ∃ (a : Option Addr) (cap : Nat) (ps : List Pr), cs = [.slice a ps.length cap] ∧ PairsAt W a ps ∧ (a = none → cap = 0) ∧ ps.length ≤ 8796093021952 := by
  rcases Go.Deep.open_slice Try.underlying23 h with ⟨rfl, _⟩ | ⟨a, len, cap, m, n, D, Pl, rfl, _, hl, _, hm, rfl, hx⟩
  · exact ⟨none, 0, [], rfl, .inl rfl, fun _ => rfl, by simp⟩
  · have hlm : len ≤ m := by rw [hm]; split <;> omega
    rw [cells_pair] at hx
    have hb : len ≤ 8796093021952 := by
      have := hw ((((List.range len).map D).length + ((List.range (m - len)).map fun j => D (len + j)).length) * Try.prog.bytesOf 29) (by simp [DataW.weights, Try.underlying23])
      rw [bytes_pair] at this
      simp only [reachBytes, List.length_map, List.length_range] at this
      omega
    have : Inhabited Pr := ⟨pr0⟩
    obtain ⟨f, hf⟩ := Go.Deep.choose_lt (α := Pr) (p := fun i l => W.cell? (a.add (i * 2)) = some (.int .i64 l.x) ∧ W.cell? (a.add (i * 2 + 1)) = some (.int .i64 l.y)) (n := len) (fun i hi => by
      obtain ⟨cs', h1, h2⟩ := hx i (by omega)
      obtain ⟨t, rfl⟩ := oPair h2
      obtain ⟨_, _, hc⟩ := World.cells?_some h1
      have e0 := hc 0 (by omega)
      have e1 := hc 1 (by omega)
      rw [Go.Deep.add_add] at e0 e1
      exact ⟨t, e0, e1⟩)
    have hlen : (tabG len f).length = len := tabG_length _ _
    refine ⟨some a, cap, tabG len f, by rw [hlen], ?_, fun h => (by cases h), by rw [hlen]; exact hb⟩
    by_cases h0 : len = 0
    · exact .inl (by subst h0; rfl)
    · obtain ⟨b, off, spot⟩ := a
      have hspot : spot = none := by simpa [Addr.add] using World.cell?_spot (hf 0 (by omega)).1
      subst hspot
      refine .inr ⟨b, off, rfl, fun i hi => ?_⟩
      rw [hlen] at hi
      rw [tabG_getD _ _ _ hi]
      obtain ⟨h1, h2⟩ := hf i hi
      rw [Go.WideShapes.add_plain] at h1 h2
      exact ⟨h1, h2⟩
end
end Go.Proofs.Ytiobmhfpnhjmcaa
