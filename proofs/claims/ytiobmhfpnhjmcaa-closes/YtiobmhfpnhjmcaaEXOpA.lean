import Derived.Test.YtiobmhfpnhjmcaaEXLwI
import Derived.Deep.Slices
import Derived.Deep.Strs
import Derived.SizedLaws
import Derived.OpenShut
import Derived.ChangeSame
import Derived.ProofKit
import Derived.ChangeOld
import Derived.ShutString
namespace Go.Proofs.Ytiobmhfpnhjmcaa
open Go.RowKit Go.ChangeShapes Go.WideShapes Go.ChangeAt
section
variable {H : Type} {enc : TypeId × Value → H} {W : World} {base : Nat} {spare : Nat → Bool} {held : Bool}
theorem weightsAll_mem {P : Program} {e : TypeId} : ∀ {l : List (DataW H)} {d : DataW H}, d ∈ l → ∀ n ∈ d.weights P e, n ∈ DataW.weightsAll P e l
  | x :: l, d, hd, n, hn => by
    simp only [DataW.weightsAll, List.mem_append]
    rcases List.mem_cons.1 hd with rfl | h
    · exact .inl hn
    · exact .inr (weightsAll_mem h n hn)
theorem bytes_int : Try.prog.bytesOf 3 = 8 := by kernel_rfl
theorem bytes_term : Try.prog.bytesOf 61 = 32 := by kernel_rfl
theorem bytes_lit : Try.prog.bytesOf 44 = 24 := by kernel_rfl
theorem bytes_lits : Try.prog.bytesOf 45 = 24 := by kernel_rfl
theorem cells_int : Try.prog.cellsOf 3 = 1 := by kernel_rfl
theorem cells_bool : Try.prog.cellsOf 4 = 1 := by kernel_rfl
theorem cells_ints : Try.prog.cellsOf 24 = 1 := by kernel_rfl
theorem cells_lits : Try.prog.cellsOf 45 = 1 := by kernel_rfl
theorem cells_term : Try.prog.cellsOf 61 = 2 := by kernel_rfl
theorem cells_lit : Try.prog.cellsOf 44 = 3 := by kernel_rfl
theorem oInts {fuel : Nat} {cs : List Value} {x : DataW H × List MemPlace} (h : DataW.trod enc Try.prog W base spare held fuel 24 cs = some x) (hw : ∀ n ∈ x.1.weights Try.prog 24, n ≤ reachBytes) :
    ∃ (a : Option Addr) (cap : Nat) (xs : List Int), cs = [.slice a xs.length cap] ∧ IntsAt W a xs ∧ (a = none → cap = 0) ∧ xs.length ≤ 17592186043904 := by
  rcases open_ints Try.underlying24 Try.underlying3 cells_int h with ⟨rfl, _⟩ | ⟨a, len, cap, zs, rfl, _, hl, _, hz, rfl, hcell, _⟩
  · exact ⟨none, 0, [], rfl, .inl rfl, fun _ => rfl, by simp⟩
  · have hlz : len ≤ zs.length := by rw [hz]; split <;> omega
    have hlen : (zs.take len).length = len := by simp; omega
    have hb : len ≤ 17592186043904 := by
      have := hw (((lits (H := H) .i64 (zs.take len)).length + (lits (H := H) .i64 (zs.drop len)).length) * Try.prog.bytesOf 3) (by simp [DataW.weights, Try.underlying24])
      rw [bytes_int] at this
      simp only [reachBytes, lits, List.length_map, List.length_take, List.length_drop] at this
      omega
    refine ⟨some a, cap, zs.take len, by rw [hlen], ?_, fun h => (by cases h), by rw [hlen]; exact hb⟩
    by_cases h0 : len = 0
    · exact .inl (by rw [h0]; rfl)
    · obtain ⟨b, off, rfl, hc⟩ := ints_at hcell (by omega)
      refine .inr ⟨b, off, rfl, fun i hi => ?_⟩
      rw [hlen] at hi
      rw [hc i (by omega)]
      simp [hi]
set_option maxRecDepth 100000 in
theorem oTerm {fuel : Nat} {cs : List Value} {x : DataW H × List MemPlace} (h : DataW.trod enc Try.prog W base spare held fuel 61 cs = some x) (hw : ∀ n ∈ x.1.weights Try.prog 61, n ≤ reachBytes) :
    ∃ t : Tm, cs = [.int .i64 t.sym, .slice t.a t.args.length t.cap] ∧ IntsAt W t.a t.args ∧ (t.a = none → t.cap = 0) ∧ t.args.length ≤ 17592186043904 := by
  obtain ⟨y0, y1, n, rfl, hl, h0, h1⟩ := trod_struct2 Try.underlying61 h
  rw [cells_term] at hl
  match cs, hl with
  | [u, v], _ =>
    rw [cells_int] at h0
    rw [cells_ints] at h1
    obtain ⟨s, hs, hx0, _⟩ := DataW.trod_int Try.underlying3 h0
    obtain ⟨a, cap, xs, hv, h2, h3, h4⟩ := oInts h1 (fun n hn => hw n (by simp [DataW.weights, Try.underlying61, DataW.weightsEach, hn]))
    simp at hs hv
    subst hs
    subst hv
    exact ⟨⟨s, a, cap, xs⟩, rfl, h2, h3, h4⟩
theorem oTerms {fuel : Nat} {cs : List Value} {x : DataW H × List MemPlace} (h : DataW.trod enc Try.prog W base spare held fuel 22 cs = some x) (hw : ∀ n ∈ x.1.weights Try.prog 22, n ≤ reachBytes) :
    ∃ (a : Option Addr) (cap : Nat) (ts : List Tm), cs = [.slice a ts.length cap] ∧ TermsAt W a ts ∧ TmsOk ts ∧ (a = none → cap = 0) ∧ ts.length ≤ 4398046510976 := by
  rcases Go.Deep.open_slice Try.underlying22 h with ⟨rfl, _⟩ | ⟨a, len, cap, m, n, D, Pl, rfl, _, hl, _, hm, rfl, hx⟩
  · exact ⟨none, 0, [], rfl, .inl rfl, fun i hi => by simp at hi, fun _ => rfl, by simp⟩
  · have hlm : len ≤ m := by rw [hm]; split <;> omega
    rw [cells_term] at hx
    have hwm : ∀ i, i < len → ∀ n ∈ (D i).weights Try.prog 61, n ≤ reachBytes := fun i hi n hn => hw n (by
      simp only [DataW.weights, Try.underlying22, List.mem_cons, List.mem_append]
      exact .inr (.inl (weightsAll_mem (List.mem_map.2 ⟨i, List.mem_range.2 hi, rfl⟩) n hn)))
    have hb : len ≤ 4398046510976 := by
      have := hw ((((List.range len).map D).length + ((List.range (m - len)).map fun j => D (len + j)).length) * Try.prog.bytesOf 61) (by simp [DataW.weights, Try.underlying22])
      rw [bytes_term] at this
      simp only [reachBytes, List.length_map, List.length_range] at this
      omega
    have : Inhabited Tm := ⟨tm0⟩
    obtain ⟨f, hf⟩ := Go.Deep.choose_lt (α := Tm) (p := fun i t => W.cell? (a.add (i * 2)) = some (.int .i64 t.sym) ∧ W.cell? (a.add (i * 2 + 1)) = some (.slice t.a t.args.length t.cap) ∧ IntsAt W t.a t.args ∧ (t.a = none → t.cap = 0) ∧ t.args.length ≤ 17592186043904) (n := len) (fun i hi => by
      obtain ⟨cs', h1, h2⟩ := hx i (by omega)
      obtain ⟨t, rfl, h3, h4, h5⟩ := oTerm h2 (hwm i hi)
      obtain ⟨_, _, hc⟩ := World.cells?_some h1
      have e0 := hc 0 (by omega)
      have e1 := hc 1 (by omega)
      rw [Go.Deep.add_add] at e0 e1
      exact ⟨t, e0, e1, h3, h4, h5⟩)
    have hlen : (tabG len f).length = len := tabG_length _ _
    refine ⟨some a, cap, tabG len f, by rw [hlen], ?_, ?_, fun h => (by cases h), by rw [hlen]; exact hb⟩
    · by_cases h0 : len = 0
      · exact .inl (by subst h0; rfl)
      · obtain ⟨b, off, spot⟩ := a
        have hspot : spot = none := by simpa [Addr.add] using World.cell?_spot (hf 0 (by omega)).1
        subst hspot
        refine .inr ⟨b, off, rfl, fun i hi => ?_⟩
        rw [hlen] at hi
        rw [tabG_getD _ _ _ hi]
        obtain ⟨h1, h2, h3, _⟩ := hf i hi
        rw [Go.WideShapes.add_plain] at h1 h2
        exact ⟨h1, h2, h3⟩
    · intro i hi
      rw [hlen] at hi
      rw [tabG_getD _ _ _ hi]
      exact (hf i hi).2.2.2
set_option maxRecDepth 100000 in
theorem oLit {fuel : Nat} {cs : List Value} {x : DataW H × List MemPlace} (h : DataW.trod enc Try.prog W base spare held fuel 44 cs = some x) :
    ∃ l : Lt, cs = [.int .i64 l.x, .int .i64 l.y, .bool l.n] := by
  obtain ⟨y0, y1, y2, n, _, hl, h0, h1, h2⟩ := Go.Deep.trod_struct3 Try.underlying44 h
  rw [cells_lit] at hl
  match cs, hl with
  | [u, v, z], _ =>
    rw [cells_int] at h0 h1
    rw [cells_bool] at h2
    obtain ⟨s, hs, _, _⟩ := DataW.trod_int Try.underlying3 h0
    obtain ⟨r, hr, _, _⟩ := DataW.trod_int Try.underlying3 h1
    obtain ⟨b, hb, _⟩ := DataW.trod_bool Try.underlying4 h2
    simp at hs hr hb
    subst hs
    subst hr
    subst hb
    exact ⟨⟨s, r, b⟩, rfl⟩
theorem oLits {fuel : Nat} {cs : List Value} {x : DataW H × List MemPlace} (h : DataW.trod enc Try.prog W base spare held fuel 45 cs = some x) (hw : ∀ n ∈ x.1.weights Try.prog 45, n ≤ reachBytes) :
    ∃ q : Cl, cs = [.slice q.a q.ls.length q.cap] ∧ LitsAt W q.a q.ls ∧ (q.a = none → q.cap = 0) ∧ q.ls.length ≤ 5864062014634 := by
  rcases Go.Deep.open_slice Try.underlying45 h with ⟨rfl, _⟩ | ⟨a, len, cap, m, n, D, Pl, rfl, _, hl, _, hm, rfl, hx⟩
  · exact ⟨⟨none, 0, []⟩, rfl, .inl rfl, fun _ => rfl, by simp⟩
  · have hlm : len ≤ m := by rw [hm]; split <;> omega
    rw [cells_lit] at hx
    have hb : len ≤ 5864062014634 := by
      have := hw ((((List.range len).map D).length + ((List.range (m - len)).map fun j => D (len + j)).length) * Try.prog.bytesOf 44) (by simp [DataW.weights, Try.underlying45])
      rw [bytes_lit] at this
      simp only [reachBytes, List.length_map, List.length_range] at this
      omega
    have : Inhabited Lt := ⟨lt0⟩
    obtain ⟨f, hf⟩ := Go.Deep.choose_lt (α := Lt) (p := fun i l => W.cell? (a.add (i * 3)) = some (.int .i64 l.x) ∧ W.cell? (a.add (i * 3 + 1)) = some (.int .i64 l.y) ∧ W.cell? (a.add (i * 3 + 2)) = some (.bool l.n)) (n := len) (fun i hi => by
      obtain ⟨cs', h1, h2⟩ := hx i (by omega)
      obtain ⟨t, rfl⟩ := oLit h2
      obtain ⟨_, _, hc⟩ := World.cells?_some h1
      have e0 := hc 0 (by omega)
      have e1 := hc 1 (by omega)
      have e2 := hc 2 (by omega)
      rw [Go.Deep.add_add] at e0 e1 e2
      exact ⟨t, e0, e1, e2⟩)
    have hlen : (tabG len f).length = len := tabG_length _ _
    refine ⟨⟨some a, cap, tabG len f⟩, by rw [hlen], ?_, fun h => (by cases h), by rw [hlen]; exact hb⟩
    by_cases h0 : len = 0
    · exact .inl (by subst h0; rfl)
    · obtain ⟨b, off, spot⟩ := a
      have hspot : spot = none := by simpa [Addr.add] using World.cell?_spot (hf 0 (by omega)).1
      subst hspot
      refine .inr ⟨b, off, rfl, fun i hi => ?_⟩
      rw [hlen] at hi
      rw [tabG_getD _ _ _ hi]
      obtain ⟨h1, h2, h3⟩ := hf i hi
      rw [Go.WideShapes.add_plain] at h1 h2 h3
      exact ⟨h1, h2, h3⟩
theorem oClauses {fuel : Nat} {cs : List Value} {x : DataW H × List MemPlace} (h : DataW.trod enc Try.prog W base spare held fuel 31 cs = some x) (hw : ∀ n ∈ x.1.weights Try.prog 31, n ≤ reachBytes) :
    ∃ (a : Option Addr) (cap : Nat) (qs : List Cl), cs = [.slice a qs.length cap] ∧ ClausesAt W a qs ∧ ClsOk qs ∧ (a = none → cap = 0) ∧ qs.length ≤ 5864062014634 := by
  rcases Go.Deep.open_slice1 Try.underlying31 cells_lits h with ⟨rfl, _⟩ | ⟨a, len, cap, m, n, V, D, Pl, rfl, _, hl, _, hm, rfl, hx⟩
  · exact ⟨none, 0, [], rfl, .inl rfl, fun i hi => by simp at hi, fun _ => rfl, by simp⟩
  · have hlm : len ≤ m := by rw [hm]; split <;> omega
    have hwm : ∀ i, i < len → ∀ n ∈ (D i).weights Try.prog 45, n ≤ reachBytes := fun i hi n hn => hw n (by
      simp only [DataW.weights, Try.underlying31, List.mem_cons, List.mem_append]
      exact .inr (.inl (weightsAll_mem (List.mem_map.2 ⟨i, List.mem_range.2 hi, rfl⟩) n hn)))
    have hb : len ≤ 5864062014634 := by
      have := hw ((((List.range len).map D).length + ((List.range (m - len)).map fun j => D (len + j)).length) * Try.prog.bytesOf 45) (by simp [DataW.weights, Try.underlying31])
      rw [bytes_lits] at this
      simp only [reachBytes, List.length_map, List.length_range] at this
      omega
    have : Inhabited Cl := ⟨cl0⟩
    obtain ⟨f, hf⟩ := Go.Deep.choose_lt (α := Cl) (p := fun i q => W.cell? (a.add i) = some (.slice q.a q.ls.length q.cap) ∧ LitsAt W q.a q.ls ∧ (q.a = none → q.cap = 0) ∧ q.ls.length ≤ 5864062014634) (n := len) (fun i hi => by
      obtain ⟨h1, h2⟩ := hx i (by omega)
      obtain ⟨t, ht, h3, h4, h5⟩ := oLits h2 (hwm i hi)
      simp at ht
      rw [ht] at h1
      exact ⟨t, h1, h3, h4, h5⟩)
    have hlen : (tabG len f).length = len := tabG_length _ _
    refine ⟨some a, cap, tabG len f, by rw [hlen], ?_, ?_, fun h => (by cases h), by rw [hlen]; exact hb⟩
    · by_cases h0 : len = 0
      · exact .inl (by subst h0; rfl)
      · obtain ⟨b, off, spot⟩ := a
        have hspot : spot = none := by simpa [Addr.add] using World.cell?_spot (hf 0 (by omega)).1
        subst hspot
        refine .inr ⟨b, off, rfl, fun i hi => ?_⟩
        rw [hlen] at hi
        rw [tabG_getD _ _ _ hi]
        obtain ⟨h1, h2, _⟩ := hf i hi
        rw [Go.WideShapes.add_plain] at h1
        exact ⟨h1, h2⟩
    · intro i hi
      rw [hlen] at hi
      rw [tabG_getD _ _ _ hi]
      exact (hf i hi).2.2
set_option maxRecDepth 100000 in
theorem oProblem {fuel : Nat} {cs : List Value} {x : DataW H × List MemPlace} (h : DataW.trod enc Try.prog W base spare held fuel 33 cs = some x) (hw : ∀ n ∈ x.1.weights Try.prog 33, n ≤ reachBytes) :
    ∃ (ta sa : Option Addr) (tc sc : Nat) (ts : List Tm) (qs : List Cl), cs = [.slice ta ts.length tc, .slice sa qs.length sc] ∧ TermsAt W ta ts ∧ ClausesAt W sa qs ∧ TmsOk ts ∧ ClsOk qs ∧ (ta = none → tc = 0) ∧ (sa = none → sc = 0) ∧ ts.length ≤ 4398046510976 ∧ qs.length ≤ 5864062014634 := by
  obtain ⟨y0, y1, n, rfl, hl, h0, h1⟩ := trod_struct2 Try.underlying33 h
  have hc : Try.prog.cellsOf 33 = 2 := by kernel_rfl
  have hc0 : Try.prog.cellsOf 22 = 1 := by kernel_rfl
  have hc1 : Try.prog.cellsOf 31 = 1 := by kernel_rfl
  rw [hc] at hl
  match cs, hl with
  | [u, v], _ =>
    rw [hc0] at h0
    rw [hc1] at h1
    obtain ⟨a, cap, ts, hu, h2, h3, h4, h5⟩ := oTerms h0 (fun n hn => hw n (by simp [DataW.weights, Try.underlying33, DataW.weightsEach, hn]))
    obtain ⟨a', cap', qs, hv, g2, g3, g4, g5⟩ := oClauses h1 (fun n hn => hw n (by simp [DataW.weights, Try.underlying33, DataW.weightsEach, hn]))
    simp at hu hv
    subst hu
    subst hv
    exact ⟨a, a', cap, cap', ts, qs, rfl, h2, g2, h3, g3, h4, g4, h5, g5⟩
end
end Go.Proofs.Ytiobmhfpnhjmcaa
