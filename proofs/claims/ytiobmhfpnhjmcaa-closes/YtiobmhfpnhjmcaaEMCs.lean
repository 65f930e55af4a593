import Derived.Test.YtiobmhfpnhjmcaaEMRf
import Derived.Test.YtiobmhfpnhjmcaaEMMd
import Derived.Deep.RegionHeld3
import Derived.Test.YtiobmhfpnhjmcaaEMLt
import Derived.Maps.AppendAt
namespace Go.Proofs.Ytiobmhfpnhjmcaa
open Go.RowKit
def eachL (ts : List Tm) : Nat → List Int → Int → List (List Int)
  | 0, c, _ => [c]
  | k + 1, c, g => (List.range (g + 2).toNat).flatMap fun (x : Nat) => if soundB (ts.take (c.length + 1)) (c ++ [(x : Int)]) then eachL ts k (c ++ [(x : Int)]) (max g x) else []
theorem eachL_length (ts : List Tm) : ∀ (k : Nat) (c : List Int) (g : Int), ∀ d ∈ eachL ts k c g, d.length = c.length + k
  | 0, c, g, d, h => by simp [eachL] at h; rw [h]; rfl
  | k + 1, c, g, d, h => by
    simp only [eachL, List.mem_flatMap] at h
    obtain ⟨x, _, hx⟩ := h
    split at hx
    · have := eachL_length ts k _ _ d hx
      simp at this
      omega
    · simp at hx
theorem eachL_sound (ts : List Tm) : ∀ (k : Nat) (c : List Int) (g : Int), (c ≠ [] → soundB (ts.take c.length) c = true) → ∀ d ∈ eachL ts k c g, d ≠ [] → soundB (ts.take d.length) d = true
  | 0, c, g, hc, d, h, hd => by simp [eachL] at h; subst h; exact hc hd
  | k + 1, c, g, hc, d, h, hd => by
    simp only [eachL, List.mem_flatMap] at h
    obtain ⟨x, _, hx⟩ := h
    split at hx
    · rename_i hs
      exact eachL_sound ts k _ _ (fun _ => by rw [List.length_append]; exact hs) d hx hd
    · simp at hx
theorem flatMap_len {α β : Type} (f : α → List β) (m : Nat) : ∀ l : List α, (∀ x ∈ l, (f x).length ≤ m) → (l.flatMap f).length ≤ l.length * m
  | [], _ => by simp
  | x :: l, h => by
    have h1 := h x (by simp)
    have h2 := flatMap_len f m l (fun y hy => h y (by simp [hy]))
    simp only [List.flatMap_cons, List.length_append, List.length_cons, Nat.add_mul, Nat.one_mul]
    omega
theorem eachL_count (ts : List Tm) : ∀ (k : Nat) (c : List Int) (g : Int), c.length + k ≤ 9 → g + 1 ≤ (c.length : Int) → (eachL ts k c g).length ≤ 10 ^ k
  | 0, c, g, _, _ => by simp [eachL]
  | k + 1, c, g, h1, h2 => by
    have hm := flatMap_len (fun x : Nat => if soundB (ts.take (c.length + 1)) (c ++ [(x : Int)]) then eachL ts k (c ++ [(x : Int)]) (max g x) else []) (10 ^ k) (List.range (g + 2).toNat) (fun x hx => by
      have hx := List.mem_range.1 hx
      show (if _ then _ else _ : List (List Int)).length ≤ _
      split
      · exact eachL_count ts k _ _ (by simp; omega) (by simp; omega)
      · simp)
    simp only [eachL]
    refine Nat.le_trans hm ?_
    rw [List.length_range, Nat.pow_succ, Nat.mul_comm]
    exact Nat.mul_le_mul_left _ (by omega)
def RgFrom : Int → List Int → Prop
  | _, [] => True
  | g, x :: l => 0 ≤ x ∧ x ≤ g + 1 ∧ RgFrom (max g x) l
theorem eachL_mem (ts : List Tm) : ∀ (l c : List Int) (g : Int), RgFrom g l → (∀ m, m < l.length → soundB (ts.take (c.length + m + 1)) (c ++ l.take (m + 1)) = true) → c ++ l ∈ eachL ts l.length c g
  | [], c, g, _, _ => by simp [eachL]
  | x :: l, c, g, hr, hs => by
    obtain ⟨h0, h1, h2⟩ := hr
    obtain ⟨n, rfl⟩ := Int.eq_ofNat_of_zero_le h0
    simp only [List.length_cons, eachL, List.mem_flatMap]
    refine ⟨n, List.mem_range.2 (by omega), ?_⟩
    have hs0 := hs 0 (by simp)
    simp only [List.take_succ_cons, List.take_zero, Nat.add_zero] at hs0
    rw [if_pos hs0]
    have := eachL_mem ts l (c ++ [(n : Int)]) (max g n) h2 (fun m hm => by
      have := hs (m + 1) (by simpa using hm)
      rw [List.length_append, List.append_assoc]
      rw [show c.length + [(n : Int)].length + m + 1 = c.length + (m + 1) + 1 by simp; omega]
      exact this)
    rw [List.append_assoc] at this
    exact this
theorem rgFrom_of {d : List Int} (h : Rg d) : ∀ k i, i + k = d.length → RgFrom (if i = 0 then -1 else gr d i) (d.drop i)
  | 0, i, hk => by rw [List.drop_of_length_le (by omega)]; trivial
  | k + 1, i, hk => by
    have hi : i < d.length := by omega
    rw [drop_get hi]
    have ih := rgFrom_of h k (i + 1) (by omega)
    rw [if_neg (by omega)] at ih
    have hb := h.2.2 i hi
    refine ⟨hb.1, ?_, ?_⟩
    · by_cases h0 : i = 0
      · subst h0; rw [if_pos rfl, h.2.1 (by omega)]; omega
      · rw [if_neg h0]; exact hb.2 (by omega)
    · have e : max (if i = 0 then (-1 : Int) else gr d i) (d.getD i 0) = gr d (i + 1) := by
        by_cases h0 : i = 0
        · subst h0
          rw [if_pos rfl]
          show _ = max (gr d 0) (d.getD 0 0)
          show _ = max 0 (d.getD 0 0)
          have := hb.1
          omega
        · rw [if_neg h0]; rfl
      rw [e]; exact ih
theorem take_getD {α : Type} (l : List α) (d : α) {m i : Nat} (h : i < m) : (l.take m).getD i d = l.getD i d := by
  simp [h]
theorem sound_take {ts : List Tm} {d : List Int} (hts : termsB ts = true) (hs : soundB ts d = true) {m : Nat} (hm : m ≤ ts.length) : soundB (ts.take m) (d.take m) = true := by
  refine soundB_yes (fun i j hj hi => ?_)
  simp only [List.length_take] at hi
  have hi' : i < m := by omega
  have hall := soundB_iff.1 hs i j hj (by omega)
  have key : ∀ a, a < m → ∀ k, k < (ts.getD a tm0).args.length → 0 ≤ (ts.getD a tm0).args.getD k 0 ∧ (ts.getD a tm0).args.getD k 0 < (a : Int) := by
    intro a ha k hk
    simp only [termsB, Bool.and_eq_true] at hts
    have h1 := allB_iff.1 hts.2 a (by omega)
    simp only [termB, Bool.and_eq_true] at h1
    exact belowB_iff.1 (allB_iff.1 h1.2 k hk)
  unfold forcedB mustB at *
  rw [take_getD d 0 hi', take_getD d 0 (show j < m by omega), take_getD ts tm0 hi', take_getD ts tm0 (show j < m by omega)]
  cases hal : alikeB (ts.getD i tm0).sym (ts.getD j tm0).sym (ts.getD i tm0).args.length (ts.getD j tm0).args.length
  · simp
  · rw [hal] at hall
    have hll : (ts.getD i tm0).args.length = (ts.getD j tm0).args.length := by simp [alikeB] at hal; exact hal.2
    have e : argsEq (d.take m) (ts.getD i tm0).args (ts.getD j tm0).args = argsEq d (ts.getD i tm0).args (ts.getD j tm0).args := by
      unfold argsEq
      rw [Bool.eq_iff_iff, allB_iff, allB_iff]
      have h2 : ∀ t, t < (ts.getD i tm0).args.length → eqB (d.take m) ((ts.getD i tm0).args.getD t 0) ((ts.getD j tm0).args.getD t 0) = eqB d ((ts.getD i tm0).args.getD t 0) ((ts.getD j tm0).args.getD t 0) := by
        intro t ht
        have k1 := key i hi' t ht
        have k2 := key j (by omega) t (by omega)
        unfold eqB cls
        rw [take_getD d 0 (by omega), take_getD d 0 (by omega)]
      exact ⟨fun k t ht => by rw [← h2 t ht]; exact k t ht, fun k t ht => by rw [h2 t ht]; exact k t ht⟩
    rw [e]; exact hall
theorem eachL_all {ts : List Tm} (hts : termsB ts = true) {d : List Int} (hl : d.length = ts.length) (hr : Rg d) (hs : soundB ts d = true) : d ∈ eachL ts ts.length [] (-1) := by
  have h := eachL_mem ts d [] (-1) (by have := rgFrom_of hr d.length 0 (by omega); simpa using this) (fun m hm => by
    simp only [List.length_nil, Nat.zero_add, List.nil_append]
    exact sound_take hts hs (by omega))
  rw [hl] at h
  simpa using h
theorem eachL_only {ts : List Tm} (hts : termsB ts = true) {d : List Int} (h : d ∈ eachL ts ts.length [] (-1)) : d.length = ts.length ∧ soundB ts d = true := by
  have hl := eachL_length ts _ _ _ d h
  simp only [List.length_nil, Nat.zero_add] at hl
  have := eachL_sound ts ts.length [] (-1) (fun q => absurd rfl q) d h (by intro e; rw [e] at hl; have := (len_of hts).1; simp at hl; omega)
  rw [hl, List.take_length] at this
  exact ⟨hl, this⟩
end Go.Proofs.Ytiobmhfpnhjmcaa
namespace Go.Proofs.Ytiobmhfpnhjmcaa
open Go.RowKit
theorem below_new (w : World) (o : Obj) : Below w.heap.size w (w.alloc o) := (Below.refl _ _).alloc (Nat.le_refl _) _
structure Fr (w w' : World) (bx : Nat) (v : Value) : Prop where
  os : w'.os = w.os
  tape : w'.tape = w.tape
  output : w'.output = w.output
  size : w.heap.size ≤ w'.heap.size
  block : ∀ k, k < w.heap.size → k ≠ bx → some k ≠ v.ownBlock → w'.heap[k]? = w.heap[k]?
def NX (w : World) (v v' : Value) : Prop := v'.ownBlock = v.ownBlock ∨ ∃ k, v'.ownBlock = some k ∧ w.heap.size ≤ k
theorem NX.refl (w : World) (v : Value) : NX w v v := .inl rfl
theorem NX.trans {w w1 : World} {v v1 v2 : Value} (h : NX w v v1) (hs : w.heap.size ≤ w1.heap.size) (h' : NX w1 v1 v2) : NX w v v2 := by
  rcases h' with e | ⟨k, e, hk⟩
  · rcases h with e1 | ⟨k, e1, hk⟩
    · exact .inl (e.trans e1)
    · exact .inr ⟨k, e.trans e1, hk⟩
  · exact .inr ⟨k, e, by omega⟩
theorem Fr.refl (w : World) (bx : Nat) (v : Value) : Fr w w bx v := ⟨rfl, rfl, rfl, Nat.le_refl _, fun _ _ _ _ => rfl⟩
theorem Fr.trans {w w1 w2 : World} {bx : Nat} {v v1 : Value} (h : Fr w w1 bx v) (hn : NX w v v1) (h' : Fr w1 w2 bx v1) : Fr w w2 bx v := by
  refine ⟨h'.os.trans h.os, h'.tape.trans h.tape, h'.output.trans h.output, Nat.le_trans h.size h'.size, fun k hk hb hv => ?_⟩
  rw [← h.block k hk hb hv]
  refine h'.block k (Nat.lt_of_lt_of_le hk h.size) hb (fun e => ?_)
  rcases hn with e1 | ⟨j, e1, hj⟩
  · exact hv (e.trans e1)
  · rw [e1] at e; injection e with e; omega
theorem Fr.below {w w' : World} (h : Below w.heap.size w w') (bx : Nat) (v : Value) : Fr w w' bx v := ⟨h.os, h.tape, h.output, h.size, fun k hk _ _ => h.block k hk⟩
theorem Fr.grown {w w' : World} {v : Value} (h : w.grownBy w' v.ownBlock) (bx : Nat) : Fr w w' bx v := ⟨h.os, h.tape, h.output, h.size, fun k hk _ hv => h.block k hk hv⟩
theorem Fr.store (w : World) (bx o : Nat) (x v : Value) : Fr w (w.setCell ⟨bx, o, none⟩ x) bx v := ⟨rfl, rfl, rfl, by simp, fun k _ hb _ => Below.heap_setCell w ⟨bx, o, none⟩ x k hb⟩
theorem Fr.low {w0 w w' : World} {bx BB : Nat} {v : Value} {n : Nat} {xs : List Value} {e : TypeId} {size : Nat} (h : Fr w w' bx v) (hb : Below w0.heap.size w0 w) (h0 : w0.heap.size ≤ bx) (hbx : bx < BB) (ho : w.ownsRow BB e size v n xs) : Below w0.heap.size w0 w' := by
  refine hb.trans ⟨h.os, h.tape, h.output, h.size, fun k hk => h.block k (Nat.lt_of_lt_of_le hk hb.size) (by omega) (fun e => ?_)⟩
  have := (ho.lt k e.symm).1
  omega
theorem Fr.own {w w' : World} {bx BB : Nat} {v vv : Value} {n m : Nat} {xs ys : List Value} (h : Fr w w' bx v) (hbx : bx < BB) (ho : w.ownsRow BB 24 1 v n xs) (hi : w.ownsRow BB 3 1 vv m ys) : w'.ownsRow BB 3 1 vv m ys := by
  refine ⟨hi.1, ?_⟩
  rcases hi.2 with h2 | ⟨g, cap, cur, hv, hg, hh, r⟩
  · exact .inl h2
  · refine .inr ⟨g, cap, cur, hv, hg, ?_, r⟩
    rw [h.block g (Array.getElem?_eq_some_iff.1 hh).1 (by omega) (fun e => ?_)]
    · exact hh
    · obtain ⟨cur', e', h1, h2⟩ := own_type ho (show 24 ≠ 3 by decide) g e.symm
      rw [hh] at h1
      injection h1 with h1
      injection h1 with _ h1
      exact h2 h1.symm
theorem own_cells' {w : World} {base : Nat} {a : Option Addr} {n cap : Nat} {xs : List Value} {e : TypeId} {size : Nat} (h : w.ownsRow base e size (.slice a n cap) n xs) : ∀ b, a = some b → ∀ j u, xs[j]? = some u → w.cell? (b.add j) = some u := by
  intro b hb j u hj
  obtain ⟨h1, h2 | ⟨g, cap', cur, hv, hb', hg, hn, hm, hc, hx⟩⟩ := h
  · have := h2.1; rw [hb] at this; cases this
  · injection hv with hv
    rw [hb] at hv
    injection hv with hv
    subst hv
    rw [← hx] at hj
    simp only [List.getElem?_take] at hj
    split at hj
    · rw [show ((⟨g, 0, none⟩ : Addr).add j) = ⟨g, 0 + j, none⟩ from by simp [Addr.add]; exact Eq.symm, Nat.zero_add, cell_of_row w g _ cur e (0, 0) hg]; simpa using hj
    · cases hj
theorem alloc_old' {w : World} {o : Obj} {b i : Nat} {v : Value} (h : w.cell? ⟨b, i, none⟩ = some v) : (w.alloc o).cell? ⟨b, i, none⟩ = some v := cell_below (below_new w o) h
theorem grown_frozen' {w w' : World} {row : Option Nat} (hg : w.grownBy w' row) {b o : Nat} (hl : b < w.heap.size) (hne : some b ≠ row) (h : w.frozen? ⟨b, o, none⟩ = false) : w'.frozen? ⟨b, o, none⟩ = false := by
  rw [← h]; exact World.frozen?_of_block (w := w) (hg.block b hl hne)
def EachHolds (w0 : World) (ta : Option Addr) (tc : Nat) (ts : List Tm) (k : Nat) : Prop :=
  ∀ (c : List Int) (ca : Option Addr) (cc : Nat) (g : Int) (bx BB : Nat) (v : Value) (ys : List Wy) (w : World), c.length + k = ts.length → -1 ≤ g → g + 1 ≤ c.length → ys.length + 10 ^ k ≤ 1000000000 →
    Below w0.heap.size w0 w → w0.heap.size ≤ bx → bx < BB → BB ≤ w.heap.size → w.heap[bx]? = some (.cells #[v] 48 (0, 0)) → YsOwn BB w v ys → w.ownsRow BB 3 1 (.slice ca c.length cc) c.length (intCells c) → (c = [] → ca = none ∧ cc = 0) →
    Calls Try.prog 51 #[.slice ta ts.length tc, .slice ca c.length cc, .int .i64 g, .pointer (some ⟨bx, 0, none⟩)] w fun e w' => ∃ r v' ys', e = .returned r ∧ w'.heap[bx]? = some (.cells #[v'] 48 (0, 0)) ∧ YsOwn BB w' v' ys' ∧
      ys'.map Wy.xs = ys.map Wy.xs ++ eachL ts k c g ∧ Fr w w' bx v ∧ NX w v v'
set_option maxRecDepth 100000 in
set_option maxHeartbeats 1000000 in
theorem each_zero (w0 : World) (ta : Option Addr) (tc : Nat) (ts : List Tm) (h1 : 1 ≤ ts.length) (h9 : ts.length ≤ 9) : EachHolds w0 ta tc ts 0 := by
  intro c ca cc g bx BB v ys w hlen hg1 hg2 hcnt hb0 hbx0 hbx hBB hbox hys hown hnil
  obtain ⟨i1, hi1, hy0, hy1, hy2⟩ := info_parts info_int
  obtain ⟨i2, hi2, hx0, hx1, hx2⟩ := info_parts info_ints
  have hlen' : c.length = ts.length := by omega
  have hcb : (c.length == ts.length) = true := by simp [hlen']
  have hcn := own_cells' hown
  obtain ⟨cg, cc', hcv⟩ : ∃ cg cc', (Value.slice ca c.length cc) = .slice (some ⟨cg, 0, none⟩) c.length cc' := by
    rcases hown.2 with h | ⟨g', cap', cur, hv, _⟩
    · have := h.2; omega
    · exact ⟨g', cap', hv⟩
  injection hcv with hca _ hcc
  subst hca
  subst hcc
  obtain ⟨va, vc, rfl⟩ := own_val hys.1
  have hcell : w.cell? ⟨bx, 0, none⟩ = some (.slice va ys.length vc) := by rw [cell_of_row _ _ _ _ _ _ hbox]; rfl
  have hfz : w.frozen? ⟨bx, 0, none⟩ = false := frozen_of_row _ _ _ _ _ hbox
  have hcnt' : ys.length + 1 ≤ 1000000000 := by simpa using hcnt
  have Hlen := hide hlen'
  clear hlen' hlen
  go_enter Try.func51, Try.ntmps51
  go_upto_region 4 with (at_builtin; refine wpList_append_own _ rfl (.tmp 19) (.tmp 20) 24 rfl BB 3 i1 (.int .i64 0) 1 8 Try.underlying24 hi1 hy0 hy1 hy2 rfl (by decide) (.slice none 0 0) 0 [] rfl (World.ownsRow_nil _ _ _ _) ⟨cg, 0, none⟩ c.length cc (intCells c) rfl (by simp [intCells]) (hcn _ rfl) (intCells_one _) (by have := Hlen.out; unfold maxLen; omega) (by have := Hlen.out; omega) hBB ?_; intro dv w1 hown1 hgr1 hz1; clear hz1; obtain ⟨da, dc, hdv⟩ := own_val hown1; subst hdv)
  have hb1 : Below w.heap.size w w1 := (Below.refl _ _).grown hgr1 (Nat.le_refl _) (fun q hq => by cases hq)
  have hys1 := hys.below hb1
  have hbx1 : bx < w.heap.size := by omega
  have hbox1 : w1.heap[bx]? = some (.cells #[.slice va ys.length vc] 48 (0, 0)) := by rw [hb1.block bx hbx1]; exact hbox
  have q0 := cell_below hb1 hcell
  have qf := frozen_below hb1 hbx1 hfz
  have hs1 := hb1.size
  have hdo : w1.ownsRow BB 3 1 (.slice da c.length dc) c.length (intCells c) := by simpa using hown1
  have z1 : bx < w1.heap.size := by omega
  clear hcell hfz hown1 hgr1 hcn
  go_wp2_with (at_builtin; refine wpList_append_own_at _ rfl (.tmp 25) (.tmp 27) 48 rfl BB 24 i2 (.slice none 0 0) 1 24 Try.underlying48 hi2 hx0 hx1 hx2 rfl (by decide) (.slice va ys.length vc) ys.length (ys.map wyVal) rfl (hys1.1.alloc _) ⟨w1.heap.size, 0, none⟩ 1 1 [.slice da c.length dc] rfl rfl (new_one _ _ _) (fun u hu => by simp at hu; subst hu; rfl) (by unfold maxLen; omega) (by omega) (by simp; omega) ?_; intro ov w3 hown3 hgr3 hz3 hat3; clear hz3; obtain ⟨oa, oc, hov⟩ := own_val hown3; subst hov; have k0 : w3.cell? ⟨bx, 0, none⟩ = some (.slice va ys.length vc) := hgr3.cell (alloc_old' q0) (fun e => by have := (hys1.1.lt bx e.symm).1; omega); have kf : w3.frozen? ⟨bx, 0, none⟩ = false := grown_frozen' hgr3 (by simp; omega) (fun e => by have := (hys1.1.lt bx e.symm).1; omega) (frozen_below (below_new _ _) z1 qf))
  have hys3 : YsOwn BB w3 (.slice oa (ys.length + 1) oc) (ys ++ [⟨da, dc, c⟩]) := YsOwn.snoc hys1 (below_new w1 _) (hdo.alloc _) hown3 hgr3
  have hbox3 : w3.heap[bx]? = some (.cells #[.slice va ys.length vc] 48 (0, 0)) := by
    rw [hgr3.block bx (by simp; omega) (fun e => by have := (hys1.1.lt bx e.symm).1; omega), (below_new w1 _).block bx z1]
    exact hbox1
  have hfr : Fr w w3 bx (.slice va ys.length vc) := ((Fr.below (hb1.trans ((below_new w1 _).mono hs1)) bx _)).trans (NX.refl _ _) (Fr.grown hgr3 bx)
  refine bodyPost_ret (v := .tuple #[]) (by simp [results, Try.results51, go_sem]) rfl ⟨⟨_, rfl⟩, .slice oa (ys.length + 1) oc, by rw [heap_setCell_same _ _ _ _ _ _ hbox3]; rfl, ys ++ [⟨da, dc, c⟩], ?_, ?_, ?_, ?_⟩
  · exact ⟨own_setCell hys3.1 (by show bx < BB; omega) _, fun i hi => own_setCell (hys3.2 i hi) (by show bx < BB; omega) _⟩
  · simp [eachL]
  · exact hfr.trans (NX.refl _ _) (Fr.store _ _ _ _ _)
  · rcases hat3 with e | e
    · exact .inl e
    · exact .inr ⟨_, e, by simp; omega⟩
end Go.Proofs.Ytiobmhfpnhjmcaa
