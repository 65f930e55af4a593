import Derived.Test.YtiobmhfpnhjmcaaEXLwI
import Derived.Laws.IdiomCopy
namespace Go.Proofs.Ytiobmhfpnhjmcaa
open Go.RowKit
structure Touch (H N : Nat) (w w' : World) : Prop where
  os : w'.os = w.os
  tape : w'.tape = w.tape
  output : w'.output = w.output
  size : w.heap.size ≤ w'.heap.size
  block : ∀ k, k < w.heap.size → (k ≤ H ∨ N ≤ k) → w'.heap[k]? = w.heap[k]?
theorem Touch.refl (H N : Nat) (w : World) : Touch H N w w := ⟨rfl, rfl, rfl, Nat.le_refl _, fun _ _ _ => rfl⟩
theorem Touch.grown {H N : Nat} {w w1 w2 : World} {row : Option Nat} (h : Touch H N w w1) (hg : w1.grownBy w2 row) (hr : ∀ k, row = some k → H < k ∧ k < N) : Touch H N w w2 :=
  ⟨hg.os.trans h.os, hg.tape.trans h.tape, hg.output.trans h.output, Nat.le_trans h.size hg.size, fun k hk hkk => (hg.block k (Nat.lt_of_lt_of_le hk h.size) (fun e => by have := hr k e.symm; omega)).trans (h.block k hk hkk)⟩
theorem Touch.one {H N g : Nat} {w w1 w2 : World} (h : Touch H N w w1) (hg : w1.grownBy w2 (some g)) (h1 : H < g) (h2 : g < N) : Touch H N w w2 := h.grown hg (fun k hk => by injection hk with hk; subst hk; exact ⟨h1, h2⟩)
theorem Touch.up {H N : Nat} {w w1 w2 : World} (h : Touch H N w w1) (hb : Below w1.heap.size w1 w2) : Touch H N w w2 :=
  ⟨hb.os.trans h.os, hb.tape.trans h.tape, hb.output.trans h.output, Nat.le_trans h.size hb.size, fun k hk hkk => (hb.block k (Nat.lt_of_lt_of_le hk h.size)).trans (h.block k hk hkk)⟩
theorem Touch.below {H N B : Nat} {w w1 : World} (h : Touch H N w w1) (hB : B ≤ H + 1) (hw : B ≤ w.heap.size) : Below B w w1 :=
  ⟨h.os, h.tape, h.output, h.size, fun k hk => h.block k (by omega) (.inl (by omega))⟩
theorem own_cell {w : World} {base : Nat} {e : TypeId} {v : Value} {n : Nat} {xs : List Value} (h : w.ownsRow base e 1 v n xs) (hn : 0 < n) :
    ∃ g cap, v = .slice (some ⟨g, 0, none⟩) n cap ∧ g < w.heap.size ∧ n ≤ cap ∧ cap ≤ maxLen ∧ ∀ (j : Nat) (x : Value), xs[j]? = some x → w.cell? ⟨g, j, none⟩ = some x := by
  rcases h.2 with ⟨_, h0⟩ | ⟨g, cap, cur, hv, hb, hg, h1, h2, h3, h4⟩
  · omega
  · refine ⟨g, cap, hv, (Array.getElem?_eq_some_iff.1 hg).1, h1, h2, fun j x hx => ?_⟩
    rw [← h4, List.getElem?_take] at hx
    by_cases hj : j < n * 1
    · rw [if_pos hj] at hx
      rw [cell_of_row w g _ cur e (0, 0) hg]
      simpa using hx
    · rw [if_neg hj] at hx; cases hx
def tOver (ts : List Tm) (bs : List Nat) (i : Nat) : List Tm := tabG (ts.length + 8) (fun j => if j < i then tmM (-99) else if j < ts.length then hTm (ts.getD j tm0) (bs.getD j 0) else tmM (-77))
theorem tOver_length (ts : List Tm) (bs : List Nat) (i : Nat) : (tOver ts bs i).length = ts.length + 8 := tabG_length _ _
theorem tOver_zero (ts : List Tm) (bs : List Nat) : tOver ts bs 0 = tDone ts bs (ts.length + 8) := by
  unfold tOver tDone
  refine tabG_congr (fun t ht => ?_)
  rw [if_neg (by omega), if_pos ht]
theorem tOver_set (ts : List Tm) (bs : List Nat) (i : Nat) : (tOver ts bs i).set i (tmM (-99)) = tOver ts bs (i + 1) := by
  unfold tOver
  rw [tabG_set]
  refine tabG_congr (fun t _ => ?_)
  by_cases h : t = i
  · subst h; rw [if_pos rfl, if_pos (by omega)]
  · rw [if_neg h]
    by_cases h2 : t < i
    · have h3 : t < i + 1 := by omega
      simp only [h2, h3, if_true]
    · have h3 : ¬ t < i + 1 := by omega
      simp only [h2, h3, if_false]
theorem tOver_get (ts : List Tm) (bs : List Nat) {i : Nat} (h : i < ts.length + 8) : (tOver ts bs i).getD i tm0 = if i < ts.length then hTm (ts.getD i tm0) (bs.getD i 0) else tmM (-77) := by
  unfold tOver
  rw [tabG_getD _ _ _ h, if_neg (by omega)]
def TLeft (B g : Nat) (w : World) (ts : List Tm) (bs : List Nat) (A : Value) (i : Nat) : Prop :=
  TRow w g (tOver ts bs i) ∧ w.ownsRow B 24 1 A ts.length (aDone ts bs ts.length) ∧ (∀ j, i ≤ j → j < ts.length → ∀ x, (ts.getD j tm0).a = some x → Row w (bs.getD j 0) (full (ts.getD j tm0).args))
theorem aDone_all (ts : List Tm) (bs : List Nat) : aDone ts bs (ts.length + 8) = aDone ts bs ts.length := by
  unfold aDone
  rw [Nat.min_eq_right (by omega), Nat.min_eq_right (by omega)]
theorem aDone_get (ts : List Tm) (bs : List Nat) {i : Nat} (h : i < ts.length) : (aDone ts bs ts.length)[i]? = some (hArg (ts.getD i tm0) (bs.getD i 0)) := by
  unfold aDone tabG
  rw [Nat.min_eq_right (by omega)]
  simp [h]
theorem TLeft.start {B g : Nat} {w : World} {ts : List Tm} {bs : List Nat} {A : Value} (h : HT B g w ts bs A (ts.length + 8)) : TLeft B g w ts bs A 0 := by
  obtain ⟨h1, h2, h3, h4, h5, h6⟩ := h
  rw [aDone_all, Nat.min_eq_right (by omega)] at h4
  rw [Nat.min_eq_right (by omega)] at h2
  exact ⟨by rw [tOver_zero]; exact h3, h4, fun j _ hj x hx => (h5 j (by omega)).2 x hx⟩
theorem TLeft.up {B g : Nat} {w w' : World} {ts : List Tm} {bs : List Nat} {A : Value} {i : Nat} (h : TLeft B g w ts bs A i) (hb : Below w.heap.size w w') : TLeft B g w' ts bs A i :=
  ⟨h.1.below hb, own_below h.2.1 hb, fun j h1 h2 x hx => (h.2.2 j h1 h2 x hx).up hb⟩
def Apart (g N : Nat) (ts : List Tm) (bs : List Nat) : Prop :=
  g < N ∧ (∀ j, j < ts.length → g < bs.getD j 0 ∧ ((ts.getD j tm0).a ≠ none → bs.getD j 0 < N)) ∧ (∀ j k, j < k → k < ts.length → (ts.getD j tm0).a ≠ none → bs.getD j 0 < bs.getD k 0)
theorem TLeft.mark {B g N : Nat} {w w' : World} {ts : List Tm} {bs : List Nat} {A : Value} {i : Nat} (h : TLeft B g w ts bs A i) (hap : Apart g N ts bs) (hg : w.grownBy w' (some g)) (ht : TRow w' g (tOver ts bs (i + 1))) : TLeft B g w' ts bs A (i + 1) :=
  ⟨ht, own_kept h.2.1 hg h.1 (by decide), fun j h1 h2 x hx => (h.2.2 j (by omega) h2 x hx).kept hg (fun e => by injection e with e; have := (hap.2.1 j h2).1; omega)⟩
theorem TLeft.mid {B g N : Nat} {w w' : World} {ts : List Tm} {bs : List Nat} {A : Value} {i : Nat} (h : TLeft B g w ts bs A i) (hap : Apart g N ts bs) (hi : i < ts.length) {y : Addr} (hy : (ts.getD i tm0).a = some y)
    (hg : w.grownBy w' (some (bs.getD i 0))) : TRow w' g (tOver ts bs i) ∧ w'.ownsRow B 24 1 A ts.length (aDone ts bs ts.length) ∧ (∀ j, i + 1 ≤ j → j < ts.length → ∀ x, (ts.getD j tm0).a = some x → Row w' (bs.getD j 0) (full (ts.getD j tm0).args)) := by
  have hrow := h.2.2 i (Nat.le_refl _) hi y hy
  refine ⟨?_, own_kept h.2.1 hg hrow (by decide), fun j h1 h2 x hx => ?_⟩
  · unfold TRow
    rw [hg.block g h.1.lt (fun e => by injection e with e; have := (hap.2.1 i hi).1; omega)]
    exact h.1
  · exact (h.2.2 j (by omega) h2 x hx).kept hg (fun e => by injection e with e; have := hap.2.2 i j (by omega) h2 (by rw [hy]; simp); omega)
theorem HC.low {B g : Nat} {w w' : World} {cs : List Cl} {bs : List Nat} {L : Value} {i k : Nat} (h : HC B g w cs bs L i) (hg : w.grownBy w' (some k)) (hk : k < B) : HC B g w' cs bs L i := by
  obtain ⟨h1, h2, h3, h4, h5, h6⟩ := h
  exact ⟨h1, h2, h3.kept hg (fun e => by injection e with e; omega), own_low h4 hg (by omega), fun j hj => ⟨(h5 j hj).1, fun q => ((h5 j hj).2 q).kept hg (fun e => by injection e with e; have := (h5 j hj).1; omega)⟩, h6⟩
theorem HC.up {B g : Nat} {w w' : World} {cs : List Cl} {bs : List Nat} {L : Value} {i : Nat} (h : HC B g w cs bs L i) (hb : Below w.heap.size w w') : HC B g w' cs bs L i := by
  obtain ⟨h1, h2, h3, h4, h5, h6⟩ := h
  exact ⟨h1, h2, h3.up hb, own_below h4 hb, fun j hj => ⟨(h5 j hj).1, fun q => ((h5 j hj).2 q).up hb⟩, h6⟩
theorem HT.up {B g : Nat} {w w' : World} {ts : List Tm} {bs : List Nat} {A : Value} {i : Nat} (h : HT B g w ts bs A i) (hb : Below w.heap.size w w') : HT B g w' ts bs A i := by
  obtain ⟨h1, h2, h3, h4, h5, h6⟩ := h
  exact ⟨h1, h2, h3.below hb, own_below h4 hb, fun j hj => ⟨(h5 j hj).1, fun x hx => ((h5 j hj).2 x hx).up hb⟩, h6⟩
theorem HT.apart {B g : Nat} {w : World} {ts : List Tm} {bs : List Nat} {A : Value} (h : HT B g w ts bs A (ts.length + 8)) : Apart g w.heap.size ts bs := by
  obtain ⟨h1, h2, h3, h4, h5, h6⟩ := h
  rw [Nat.min_eq_right (by omega)] at h2
  refine ⟨h3.lt, fun j hj => ⟨(h5 j (by omega)).1, fun hn => ?_⟩, fun j k hjk hk hn => h6 j k hjk (by omega) hn⟩
  cases ha : (ts.getD j tm0).a with
  | none => exact absurd ha hn
  | some y => exact ((h5 j (by omega)).2 y ha).lt
def back (xs : List Int) (k : Nat) : List Int := xs.take k ++ (List.replicate (xs.length - k) (-99) ++ List.replicate 8 (-77))
theorem back_zero (xs : List Int) : back xs 0 = over (full xs) xs.length := by simp [back, over, full]
theorem back_all (xs : List Int) : back xs xs.length = full xs := by simp [back, full]
theorem back_length (xs : List Int) {k : Nat} (h : k ≤ xs.length) : (back xs k).length = xs.length + 8 := by simp [back]; omega
theorem back_set (xs : List Int) {k : Nat} (h : k < xs.length) : (back xs k).set k (xs.getD k 0) = back xs (k + 1) := by
  unfold back
  rw [List.set_append_right _ _ (by simp; omega)]
  simp only [List.length_take, Nat.min_eq_left (Nat.le_of_lt h), Nat.sub_self]
  rw [show xs.length - k = (xs.length - (k + 1)) + 1 by omega, List.replicate_succ, List.cons_append, List.set_cons_zero]
  have e : xs.take (k + 1) = xs.take k ++ [xs.getD k 0] := by rw [List.take_add_one]; simp [h]
  rw [e, List.append_assoc]
  rfl
theorem full_mt (xs : List Int) : ∀ i, i < xs.length + 8 → (full xs).getD i 0 = if i < xs.length then xs.getD i 0 else -77 := by
  intro i hi
  by_cases h : i < xs.length
  · rw [if_pos h, full_getD h]
  · rw [if_neg h]
    simp only [full, List.getD_eq_getElem?_getD]
    rw [List.getElem?_append_right (by omega), List.getElem?_replicate, if_pos (by omega)]
    rfl
theorem fullL_mt (xs : List Lt) : ∀ i, i < xs.length + 8 → (fullL xs).getD i lt0 = if i < xs.length then xs.getD i lt0 else ltM (-77) := by
  intro i hi
  by_cases h : i < xs.length
  · rw [if_pos h, fullL_getD h]
  · rw [if_neg h]
    simp only [fullL, List.getD_eq_getElem?_getD]
    rw [List.getElem?_append_right (by omega), List.getElem?_replicate, if_pos (by omega)]
    rfl
theorem back_lits (ls : List Lt) : lsCells ls ++ (lsCells (overL (fullL ls) ls.length)).drop (lsCells ls).length = lsCells (fullL ls) := by
  have e : overL (fullL ls) ls.length = List.replicate ls.length (ltM (-99)) ++ List.replicate 8 (ltM (-77)) := by simp [overL, fullL]
  rw [e, lsCells_append, show (lsCells ls).length = (lsCells (List.replicate ls.length (ltM (-99)))).length by rw [lsCells_length, lsCells_length, List.length_replicate], List.drop_left, fullL, lsCells_append]
theorem wpList_copy_zero {P : Program} {w : World} {ops : Array Oper} {rest : List Oper} {o : Oper} {a : Act} {Q : Exit → Act → World → Prop} (hgd : o.guard = none) (d s : Operand) (dT sT : TypeId)
    (ho : o.op = .call { callee := .builtin .copy, args := #[d, s], argTypes := #[dT, sT] }) (elem : TypeId) (size : Nat) (hu : P.underlying dT = some (.slice elem)) (hsz : (P.info? elem).map (·.size) = some size)
    (dCap : Nat) (sp : Option Addr) (sCap : Nat) (hd : a.eval d = .slice none 0 dCap) (hs : a.eval s = .slice sp 0 sCap)
    (h : wpList P ops Q rest (a.put o.dst (goInt 0)) w) : wpList P ops Q (o :: rest) a w := by
  refine wpList_plain hgd fun K hK => ?_
  have hrun : (Builtin.copy_ #[dT, sT] o.type #[.slice none 0 dCap, .slice sp 0 sCap]).run P w = .ok (goInt 0) w := by
    cases hq : P.info? elem with
    | none => simp [hq] at hsz
    | some i =>
      have hl : ∀ (x : Addr), (loadCells x 0).run P w = .ok #[] w := fun x => by simpa using run_loadCells_list (P := P) w x [] (by simp)
      cases sp <;> simp [Builtin.copy_, run_underlying hu, Builtin.lenOf, Builtin.firstCells, sizeOf, typeInfo, hq, hl]
  unfold Oper.wp
  simp [execOp, ho, resolve, invoke, builtin, hd, hs, hrun, Result.andThen]
  exact hK _ _ h
def cOver (cs : List Cl) (bs : List Nat) (i : Nat) : List Value := tabG (cs.length + 8) (fun j => if j < i then .slice none 0 0 else cVal cs bs j)
theorem cOver_length (cs : List Cl) (bs : List Nat) (i : Nat) : (cOver cs bs i).length = cs.length + 8 := tabG_length _ _
theorem cOver_zero (cs : List Cl) (bs : List Nat) : cOver cs bs 0 = cDone cs bs (cs.length + 8) := by
  unfold cOver cDone
  refine tabG_congr (fun t ht => ?_)
  rw [if_neg (by omega), if_pos ht]
theorem cOver_set (cs : List Cl) (bs : List Nat) (i : Nat) : (cOver cs bs i).set i (.slice none 0 0) = cOver cs bs (i + 1) := by
  unfold cOver
  rw [tabG_set]
  refine tabG_congr (fun t _ => ?_)
  by_cases h : t = i
  · subst h; rw [if_pos rfl, if_pos (by omega)]
  · rw [if_neg h]
    by_cases h2 : t < i
    · have h3 : t < i + 1 := by omega
      simp only [h2, h3, if_true]
    · have h3 : ¬ t < i + 1 := by omega
      simp only [h2, h3, if_false]
theorem cOver_get (cs : List Cl) (bs : List Nat) {i : Nat} (h : i < cs.length + 8) : (cOver cs bs i).getD i undef = cVal cs bs i := by
  unfold cOver
  rw [tabG_getD _ _ _ h, if_neg (by omega)]
def CLeft (g : Nat) (w : World) (cs : List Cl) (bs : List Nat) (L : Value) (i : Nat) : Prop :=
  CRow w g (cOver cs bs i) ∧ w.ownsRow (g + 1) 45 1 L cs.length (lDone cs bs cs.length) ∧ (∀ j, i ≤ j → j < cs.length + 8 → cHas cs j → LRow w (bs.getD j 0) (cRowLits cs j))
def ApartC (g N : Nat) (cs : List Cl) (bs : List Nat) : Prop :=
  g < N ∧ (∀ j, j < cs.length + 8 → g < bs.getD j 0 ∧ (cHas cs j → bs.getD j 0 < N)) ∧ (∀ j k, j < k → k < cs.length + 8 → cHas cs j → bs.getD j 0 < bs.getD k 0)
theorem lDone_all (cs : List Cl) (bs : List Nat) : lDone cs bs (cs.length + 8) = lDone cs bs cs.length := by
  unfold lDone
  rw [Nat.min_eq_right (by omega), Nat.min_eq_right (by omega)]
theorem lDone_get (cs : List Cl) (bs : List Nat) {i : Nat} (h : i < cs.length) : (lDone cs bs cs.length)[i]? = some (hLit (cs.getD i cl0) (bs.getD i 0)) := by
  unfold lDone tabG
  rw [Nat.min_eq_right (by omega)]
  simp [h]
theorem CLeft.start {B g : Nat} {w : World} {cs : List Cl} {bs : List Nat} {L : Value} (h : HC B g w cs bs L (cs.length + 8)) : CLeft g w cs bs L 0 := by
  obtain ⟨h1, h2, h3, h4, h5, h6⟩ := h
  rw [lDone_all, Nat.min_eq_right (by omega)] at h4
  exact ⟨by rw [cOver_zero]; exact h3, h4, fun j _ hj hh => (h5 j hj).2 hh⟩
theorem CLeft.up {g : Nat} {w w' : World} {cs : List Cl} {bs : List Nat} {L : Value} {i : Nat} (h : CLeft g w cs bs L i) (hb : Below w.heap.size w w') : CLeft g w' cs bs L i :=
  ⟨h.1.up hb, own_below h.2.1 hb, fun j h1 h2 q => (h.2.2 j h1 h2 q).up hb⟩
theorem HC.apart {B g : Nat} {w : World} {cs : List Cl} {bs : List Nat} {L : Value} (h : HC B g w cs bs L (cs.length + 8)) : ApartC g w.heap.size cs bs := by
  obtain ⟨h1, h2, h3, h4, h5, h6⟩ := h
  exact ⟨h3.lt, fun j hj => ⟨(h5 j hj).1, fun q => ((h5 j hj).2 q).lt⟩, fun j k hjk hk hn => h6 j k hjk hk hn⟩
theorem CLeft.mark {g N : Nat} {w w' : World} {cs : List Cl} {bs : List Nat} {L : Value} {i : Nat} (h : CLeft g w cs bs L i) (hap : ApartC g N cs bs) (hg : w.grownBy w' (some g)) (ht : CRow w' g (cOver cs bs (i + 1))) : CLeft g w' cs bs L (i + 1) :=
  ⟨ht, own_low h.2.1 hg (by omega), fun j h1 h2 q => (h.2.2 j (by omega) h2 q).kept hg (fun e => by injection e with e; have := (hap.2.1 j h2).1; omega)⟩
theorem CLeft.mid {g N : Nat} {w w' : World} {cs : List Cl} {bs : List Nat} {L : Value} {i : Nat} (h : CLeft g w cs bs L i) (hap : ApartC g N cs bs) (hi : i < cs.length) (hy : (cs.getD i cl0).a ≠ none)
    (hg : w.grownBy w' (some (bs.getD i 0))) : CRow w' g (cOver cs bs i) ∧ w'.ownsRow (g + 1) 45 1 L cs.length (lDone cs bs cs.length) ∧ (∀ j, i + 1 ≤ j → j < cs.length + 8 → cHas cs j → LRow w' (bs.getD j 0) (cRowLits cs j)) := by
  have hrow := h.2.2 i (Nat.le_refl _) (by omega) (.inr hy)
  exact ⟨h.1.kept hg (fun e => by injection e with e; have := (hap.2.1 i (by omega)).1; omega), own_kept h.2.1 hg hrow (by decide), fun j h1 h2 q => (h.2.2 j (by omega) h2 q).kept hg (fun e => by injection e with e; have := hap.2.2 i j (by omega) h2 (.inr hy); omega)⟩
theorem CLeft.mark' {g N : Nat} {w w' : World} {cs : List Cl} {bs : List Nat} {L : Value} {i : Nat} (h : CRow w g (cOver cs bs i) ∧ w.ownsRow (g + 1) 45 1 L cs.length (lDone cs bs cs.length) ∧ (∀ j, i + 1 ≤ j → j < cs.length + 8 → cHas cs j → LRow w (bs.getD j 0) (cRowLits cs j)))
    (hap : ApartC g N cs bs) (hg : w.grownBy w' (some g)) (ht : CRow w' g (cOver cs bs (i + 1))) : CLeft g w' cs bs L (i + 1) :=
  ⟨ht, own_low h.2.1 hg (by omega), fun j h1 h2 q => (h.2.2 j h1 h2 q).kept hg (fun e => by injection e with e; have := (hap.2.1 j h2).1; omega)⟩
theorem TLeft.mark' {B g N : Nat} {w w' : World} {ts : List Tm} {bs : List Nat} {A : Value} {i : Nat} (h : TRow w g (tOver ts bs i) ∧ w.ownsRow B 24 1 A ts.length (aDone ts bs ts.length) ∧ (∀ j, i + 1 ≤ j → j < ts.length → ∀ x, (ts.getD j tm0).a = some x → Row w (bs.getD j 0) (full (ts.getD j tm0).args)))
    (hap : Apart g N ts bs) (hg : w.grownBy w' (some g)) (ht : TRow w' g (tOver ts bs (i + 1))) : TLeft B g w' ts bs A (i + 1) :=
  ⟨ht, own_kept h.2.1 hg h.1 (by decide), fun j h1 h2 x hx => (h.2.2 j h1 h2 x hx).kept hg (fun e => by injection e with e; have := (hap.2.1 j h2).1; omega)⟩
end Go.Proofs.Ytiobmhfpnhjmcaa
namespace Go.Proofs.Ytiobmhfpnhjmcaa
open Go.RowKit
theorem allB_congr {n m : Nat} {p q : Nat → Bool} (hn : n = m) (h : ∀ t, t < n → p t = q t) : allB n p = allB m q := by
  subst hn
  rw [Bool.eq_iff_iff, allB_iff, allB_iff]
  exact ⟨fun k t ht => by rw [← h t ht]; exact k t ht, fun k t ht => by rw [h t ht]; exact k t ht⟩
theorem SameT.len {ts ts' : List Tm} (h : SameT ts ts') : ts'.length = ts.length := h.1
theorem SameT.termsB {ts ts' : List Tm} (h : SameT ts ts') : termsB ts' = termsB ts := by
  unfold Go.Proofs.Ytiobmhfpnhjmcaa.termsB
  rw [h.1]
  congr 1
  refine allB_congr rfl (fun t ht => ?_)
  obtain ⟨h1, h2⟩ := h.2 t ht
  unfold termB
  rw [h1, h2]
theorem SameT.must {ts ts' : List Tm} (h : SameT ts ts') (c : List Int) {i j : Nat} (hi : i < ts.length) (hj : j < ts.length) : mustB ts' c i j = mustB ts c i j := by
  obtain ⟨h1, h2⟩ := h.2 i hi
  obtain ⟨h3, h4⟩ := h.2 j hj
  unfold mustB
  rw [h1, h2, h3, h4]
theorem SameT.soundB {ts ts' : List Tm} (h : SameT ts ts') (c : List Int) : soundB ts' c = soundB ts c := by
  unfold Go.Proofs.Ytiobmhfpnhjmcaa.soundB
  rw [h.1]
  refine allB_congr rfl (fun i hi => allB_congr rfl (fun j hj => ?_))
  unfold forcedB
  rw [h.must c hi (by omega)]
theorem SameC.clausesB {cs cs' : List Cl} (h : SameC cs cs') (n : Int) : clausesB n cs' = clausesB n cs := by
  unfold Go.Proofs.Ytiobmhfpnhjmcaa.clausesB
  rw [h.1]
  congr 1
  refine allB_congr rfl (fun t ht => ?_)
  rw [h.2 t ht]
theorem SameC.allHoldB {cs cs' : List Cl} (h : SameC cs cs') (c : List Int) : allHoldB c cs' = allHoldB c cs := by
  unfold Go.Proofs.Ytiobmhfpnhjmcaa.allHoldB
  rw [h.1]
  refine allB_congr rfl (fun t ht => ?_)
  rw [h.2 t ht]
theorem same_refuse {ts ts' : List Tm} {cs cs' : List Cl} (h : SameT ts ts') (k : SameC cs cs') : refuseI ts' cs' = refuseI ts cs := by
  unfold refuseI
  rw [h.termsB, h.1, k.clausesB]
theorem same_trueB {ts ts' : List Tm} {cs cs' : List Cl} (h : SameT ts ts') (k : SameC cs cs') (c : List Int) : trueB ts' cs' c = trueB ts cs c := by
  unfold trueB
  rw [same_refuse h k, h.1, h.soundB, k.allHoldB]
theorem same_trueE {ts ts' : List Tm} {cs cs' : List Cl} (h : SameT ts ts') (k : SameC cs cs') (c : List Int) : trueE ts' cs' c = trueE ts cs c := by
  unfold trueE
  rw [same_refuse h k, h.1]
theorem TermsAt.bare {w : World} {a : Option Addr} {ts : List Tm} (h : TermsAt w a ts) : ∀ i, i < ts.length → (ts.getD i tm0).a = none → (ts.getD i tm0).args = [] := by
  intro i hi hn
  obtain ⟨_, _, _, hc⟩ := h.get hi
  rcases (hc i hi).2.2 with h1 | ⟨_, _, h1, _⟩
  · exact h1
  · rw [hn] at h1; cases h1
theorem ClausesAt.bare {w : World} {a : Option Addr} {cs : List Cl} (h : ClausesAt w a cs) : ∀ i, i < cs.length → (cs.getD i cl0).a = none → (cs.getD i cl0).ls = [] := by
  intro i hi hn
  obtain ⟨_, _, _, hc⟩ := h.get hi
  rcases (hc i hi).2 with h1 | ⟨_, _, h1, _⟩
  · exact h1
  · rw [hn] at h1; cases h1
theorem HandAt.up {H : Nat} {w w' : World} {ta sa : Option Addr} {ts : List Tm} {cs : List Cl} {tsl csl : Value} (h : HandAt H w ta sa ts cs tsl csl) (hb : Below w.heap.size w w') : HandAt H w' ta sa ts cs tsl csl := by
  obtain ⟨T, A, C, L, g, cg, M, bs, cbs, hH, hT, hlow, hM, hC⟩ := h
  refine ⟨T, A, C, L, g, cg, M, bs, cbs, (hb.block _ (Array.getElem?_eq_some_iff.1 hH).1).trans hH, ?_, hlow, hM, ?_⟩
  · rcases hT with h | ⟨h1, h2, h3⟩
    · exact .inl h
    · exact .inr ⟨h1, h2, h3.up hb⟩
  · rcases hC with h | ⟨h1, h2, h3⟩
    · exact .inl h
    · exact .inr ⟨h1, h2, h3.up hb⟩
end Go.Proofs.Ytiobmhfpnhjmcaa
