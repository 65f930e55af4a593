import Derived.Test.YtjebhhoibofmfaaLwE
namespace Go.Proofs.Ytjebhhoibofmfaa
open Go.RowKit

/-- A row of one type is left alone where a block of another type is written. -/
theorem own_kept {w w' : World} {base : Nat} {e e' : TypeId} {size : Nat} {v : Value} {n : Nat} {xs : List Value} {g : Nat} {cur : Array Value} (h : w.ownsRow base e size v n xs) (hg : w.grownBy w' (some g)) (hr : w.heap[g]? = some (.cells cur e' (0, 0))) (hne : e' ≠ e) : w'.ownsRow base e size v n xs :=
  own_apart h hg (fun k hk => by injection hk with hk; subst hk; exact ⟨cur, e', hr, hne⟩)

/-- .. where a block below its base is written. -/
theorem own_low {w w' : World} {base : Nat} {e : TypeId} {size : Nat} {v : Value} {n : Nat} {xs : List Value} {g : Nat} (h : w.ownsRow base e size v n xs) (hg : w.grownBy w' (some g)) (hlt : g < base) : w'.ownsRow base e size v n xs := by
  refine h.kept hg ?_
  cases hv : v.ownBlock with
  | none => exact .inl rfl
  | some k => have := (h.lt k hv).1; exact .inr (fun e => by injection e with e; omega)

theorem Row.apart {w w' : World} {b : Nat} {c : List Int} {row : Option Nat} (h : Row w b c) (hg : w.grownBy w' row) (hr : ∀ g, row = some g → ∃ cur e', w.heap[g]? = some (.cells cur e' (0, 0)) ∧ e' ≠ 3) : Row w' b c := by
  refine h.kept hg (fun e => ?_)
  obtain ⟨cur, e', h1, h2⟩ := hr b e.symm
  unfold Row at h
  rw [h] at h1
  injection h1 with h1
  injection h1 with _ h1
  exact h2 h1.symm

theorem Row.up {w w' : World} {b : Nat} {c : List Int} (h : Row w b c) (hb : Below w.heap.size w w') : Row w' b c := h.below hb h.lt
theorem grown_one {w : World} {g k : Nat} {v : Value} : w.grownBy (w.setCell ⟨g, k, none⟩ v) (some g) := grown_set (World.grownBy.refl _ _)

theorem tDone_mark (ts : List Tm) (bs : List Nat) (i : Nat) (hi : ts.length ≤ i) : (tDone ts bs i).set i (tmM (-77)) = tDone ts bs (i + 1) := by
  unfold tDone
  rw [tabG_set]
  refine tabG_congr (fun t _ => ?_)
  by_cases h : t = i
  · subst h; rw [if_pos rfl, if_pos (by omega), if_neg (by omega)]
  · rw [if_neg h]
    by_cases h2 : t < i
    · have h3 : t < i + 1 := by omega
      simp only [h2, h3, if_true]
    · have h3 : ¬ t < i + 1 := by omega
      simp only [h2, h3, if_false]

theorem tDone_add (ts : List Tm) (bs : List Nat) (i b : Nat) (x : Tm) (hi : i < ts.length) (hb : bs.length = i) : ((tDone ts bs i).set i x).set i (hTm (ts.getD i tm0) b) = tDone ts (bs ++ [b]) (i + 1) := by
  unfold tDone
  rw [tabG_set, tabG_set]
  refine tabG_congr (fun t _ => ?_)
  by_cases h : t = i
  · subst h
    rw [if_pos rfl, if_pos (by omega), if_pos hi, ← hb, getD_snoc_eq]
  · rw [if_neg h, if_neg h]
    by_cases h2 : t < i
    · have h4 : t < i + 1 := by omega
      have h3 : t < ts.length := by omega
      simp only [h2, h4, h3, if_true]
      rw [getD_snoc_lt _ _ _ (by omega)]
    · have h4 : ¬ t < i + 1 := by omega
      simp only [h2, h4, if_false]

theorem aDone_add (ts : List Tm) (bs : List Nat) (i b : Nat) (hi : i < ts.length) (hb : bs.length = i) : aDone ts bs i ++ [hArg (ts.getD i tm0) b] = aDone ts (bs ++ [b]) (i + 1) := by
  unfold aDone
  rw [Nat.min_eq_left (by omega), Nat.min_eq_left (by omega)]
  unfold tabG
  rw [List.range_succ, List.map_append]
  congr 1
  · refine List.map_congr_left (fun t ht => ?_)
    rw [getD_snoc_lt _ _ _ (by have := List.mem_range.1 ht; omega)]
  · simp [← hb]

theorem aDone_mark (ts : List Tm) (bs : List Nat) (i : Nat) (hi : ts.length ≤ i) : aDone ts bs (i + 1) = aDone ts bs i ∧ min (i + 1) ts.length = min i ts.length := by
  unfold aDone
  rw [Nat.min_eq_right (by omega), Nat.min_eq_right (by omega)]
  exact ⟨rfl, rfl⟩

theorem HT.mark {B g : Nat} {w w' : World} {ts : List Tm} {bs : List Nat} {A : Value} {i : Nat} (h : HT B g w ts bs A i) (hi : ts.length ≤ i) (hg : w.grownBy w' (some g)) (ht : TRow w' g (tDone ts bs (i + 1))) : HT B g w' ts bs A (i + 1) := by
  obtain ⟨h1, h2, h3, h4, h5, h6⟩ := h
  obtain ⟨e1, e2⟩ := aDone_mark ts bs i hi
  refine ⟨h1, by rw [e2]; exact h2, ht, by rw [e1, e2]; exact own_kept h4 hg h3 (by decide), fun j hj => ⟨(h5 j hj).1, fun x hx => ?_⟩, h6⟩
  exact ((h5 j hj).2 x hx).kept hg (fun e => by injection e with e; have := (h5 j hj).1; omega)

theorem HT.add {B g H : Nat} {w w1 w2 w3 w4 w5 : World} {ts : List Tm} {bs : List Nat} {A A' : Value} {i : Nat} {x : Tm} {o : Obj} (h : HT B g w ts bs A i) (hi : i < ts.length) (hH : H < B)
    (hg1 : w.grownBy w1 (some g)) (ht1 : TRow w1 g ((tDone ts bs i).set i x)) (hb2 : Below w1.heap.size w1 w2) (hr2 : ∀ y, (ts.getD i tm0).a = some y → Row w2 w1.heap.size (full (ts.getD i tm0).args))
    (hg3 : (w2.alloc o).grownBy w3 A.ownBlock) (ho3 : w3.ownsRow B 24 1 A' (i + 1) (aDone ts bs i ++ [hArg (ts.getD i tm0) w1.heap.size])) (hg4 : w3.grownBy w4 (some H))
    (hg5 : w4.grownBy w5 (some g)) (ht5 : TRow w4 g ((tDone ts bs i).set i x) → TRow w5 g (((tDone ts bs i).set i x).set i (hTm (ts.getD i tm0) w1.heap.size))) : HT B g w5 ts (bs ++ [w1.heap.size]) A' (i + 1) := by
  obtain ⟨h1, h2, h3, h4, h5, h6⟩ := h
  rw [Nat.min_eq_left (by omega)] at h2 h4
  have hA1 := own_kept h4 hg1 h3 (by decide)
  have hA2 := own_below hA1 hb2
  have hAt : ∀ e0, 24 ≠ e0 → ∀ k, A.ownBlock = some k → ∃ cur e', (w2.alloc o).heap[k]? = some (.cells cur e' (0, 0)) ∧ e' ≠ e0 := fun e0 hne => own_type (hA2.alloc o) hne
  have hlift : ∀ {b c}, b ≠ g → b ≠ H → Row w2 b c → Row w5 b c := by
    intro b c hb hbH hr
    have r3 : Row w3 b c := Row.apart (heap_at_old _ _ hr) hg3 (hAt _ (by decide))
    have r4 : Row w4 b c := r3.kept hg4 (fun e => hbH (by injection e))
    exact r4.kept hg5 (fun e => hb (by injection e))
  have ht2 := ht1.below hb2
  have ht3 : TRow w3 g ((tDone ts bs i).set i x) := by
    unfold TRow
    rw [hg3.block g (by have := ht2.lt; simp; omega) (fun e => ?_)]
    · exact heap_at_old _ _ ht2
    · obtain ⟨cur, e', q1, q2⟩ := hAt 77 (by decide) g e.symm
      rw [heap_at_old _ _ ht2] at q1
      injection q1 with q1
      injection q1 with _ q1
      exact q2 q1.symm
  have ht4 : TRow w4 g ((tDone ts bs i).set i x) := by
    unfold TRow
    rw [hg4.block g ht3.lt (fun e => by injection e with e; omega)]; exact ht3
  have hgw1 : g < w1.heap.size := ht1.lt
  have hlt0 := h3.lt
  refine ⟨h1, by rw [List.length_append, h2, Nat.min_eq_left (by omega)]; rfl, ?_, ?_, ?_, ?_⟩
  · rw [← tDone_add ts bs i _ x hi h2]; exact ht5 ht4
  · rw [Nat.min_eq_left (by omega), ← aDone_add ts bs i _ hi h2]
    exact own_kept (own_low ho3 hg4 hH) hg5 ht4 (by decide)
  · intro j hj
    simp only [List.length_append, List.length_cons, List.length_nil] at hj
    by_cases hjl : j < bs.length
    · rw [getD_snoc_lt _ _ _ hjl]
      have q := h5 j hjl
      refine ⟨q.1, fun y hy => hlift (by omega) (by omega) ((q.2 y hy |>.kept hg1 (fun e => by injection e with e; omega)).up hb2)⟩
    · have : j = bs.length := by omega
      subst this
      rw [getD_snoc_eq, h2]
      exact ⟨hgw1, fun y hy => hlift (by omega) (by omega) (hr2 y hy)⟩
  · intro j k hjk hk hn
    simp only [List.length_append, List.length_cons, List.length_nil] at hk
    by_cases hkl : k < bs.length
    · rw [getD_snoc_lt _ _ _ hkl, getD_snoc_lt _ _ _ (by omega)]; exact h6 j k hjk hkl hn
    · have : k = bs.length := by omega
      subst this
      rw [getD_snoc_eq, getD_snoc_lt _ _ _ hjk]
      cases ha : (ts.getD j tm0).a with
      | none => exact absurd ha hn
      | some y =>
        have r := ((h5 j hjk).2 y ha).kept hg1 (fun e => by injection e with e; have := (h5 j hjk).1; omega)
        exact r.lt
end Go.Proofs.Ytjebhhoibofmfaa
