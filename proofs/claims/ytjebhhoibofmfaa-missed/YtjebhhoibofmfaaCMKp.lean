import Derived.Test.YtjebhhoibofmfaaCMEq
import Derived.Deep.RegionLaw
import Derived.Deep.OwnRows
import Derived.Deep.CutBlock
namespace Go.Proofs.Ytjebhhoibofmfaa
open Go.RowKit
theorem mod_nat (x n : Int) (hn : 1 ≤ n) : ∃ r : Nat, (r : Int) < n ∧ x % n = r := by
  have h1 := Int.emod_nonneg x (show n ≠ 0 by omega)
  have h2 := Int.emod_lt_of_pos x (show 0 < n by omega)
  exact ⟨(x % n).toNat, by omega, by omega⟩
set_option maxHeartbeats 400000 in
theorem pick_any (c n : Int) (w : World) (h1 : -9223372036854775808 ≤ c) (h2 : c ≤ 9223372036854775807) (hn : 1 ≤ n) (hn2 : n ≤ 1152921504606846976) :
    Calls Try.prog 19 #[.int .i64 c, .int .i64 n] w fun e w' => ∃ r : Nat, (r : Int) < n ∧ e = .returned (.int .i64 r) ∧ w' = w := by
  have hz : (n == 0) = false := by rw [beq_eq_false_iff_ne]; omega
  by_cases h : c < 0
  · go_enter Try.func19, Try.ntmps19
    go_wp2_with fail
    go_ret
    obtain ⟨r, hr, e⟩ := mod_nat (-(c + 1)) n hn
    exact ⟨r, hr, ret_int (by rw [← e, ← Int.neg_tmod, Int.tmod_eq_emod_of_nonneg (by omega)]), rfl⟩
  · go_enter Try.func19, Try.ntmps19
    go_wp2_with fail
    go_ret
    obtain ⟨r, hr, e⟩ := mod_nat c n hn
    exact ⟨r, hr, ret_int e, rfl⟩
def IntsRow (w : World) (a : Option Addr) (xs : List Int) : Prop :=
  xs = [] ∨ ∃ b cur, a = some ⟨b, 0, none⟩ ∧ w.heap[b]? = some (.cells cur 3 (0, 0)) ∧ ∀ i, i < xs.length → cur[i]? = some (.int .i64 (xs.getD i 0))
theorem IntsRow.at {w : World} {a : Option Addr} {xs : List Int} (h : IntsRow w a xs) : IntsAt w a xs := by
  rcases h with h | ⟨b, cur, rfl, hb, h⟩
  · exact .inl h
  · refine .inr ⟨b, 0, rfl, fun i hi => ?_⟩
    rw [Nat.zero_add, cell_of_row w b i cur 3 (0, 0) hb]
    exact h i hi
theorem IntsRow.grown {w w' : World} {row : Option Nat} {a : Option Addr} {xs : List Int} (h : IntsRow w a xs) (hg : w.grownBy w' row)
    (hr : ∀ g, row = some g → ∃ cur e, w.heap[g]? = some (.cells cur e (0, 0)) ∧ e ≠ 3) : IntsRow w' a xs := by
  rcases h with h | ⟨b, cur, rfl, hb, h⟩
  · exact .inl h
  · refine .inr ⟨b, cur, rfl, ?_, h⟩
    rw [hg.block b (Array.getElem?_eq_some_iff.1 hb).1 (fun e => ?_)]
    · exact hb
    · obtain ⟨cur', e', h1, h2⟩ := hr b e.symm
      rw [hb] at h1
      injection h1 with h1
      injection h1 with _ h1
      exact h2 h1.symm
def tmCells (t : Tm) : List Value := [.int .i64 t.sym, .slice t.a t.args.length t.cap]
def tsCells (ts : List Tm) : List Value := ts.flatMap tmCells
theorem tsCells_length (ts : List Tm) : (tsCells ts).length = ts.length * 2 := by
  induction ts with
  | nil => rfl
  | cons t ts ih => simp only [tsCells, List.flatMap_cons, List.length_append, tmCells, List.length_cons, List.length_nil] at *; omega
theorem tsCells_get (ts : List Tm) : ∀ i, i < ts.length → (tsCells ts)[i * 2]? = some (.int .i64 (ts.getD i tm0).sym) ∧
    (tsCells ts)[i * 2 + 1]? = some (.slice (ts.getD i tm0).a (ts.getD i tm0).args.length (ts.getD i tm0).cap) := by
  induction ts with
  | nil => intro i hi; simp at hi
  | cons t ts ih =>
    intro i hi
    cases i with
    | zero => exact ⟨rfl, rfl⟩
    | succ i =>
      have := ih i (by simpa using hi)
      have e1 : (i + 1) * 2 = i * 2 + 2 := by omega
      have hc : tsCells (t :: ts) = .int .i64 t.sym :: .slice t.a t.args.length t.cap :: tsCells ts := rfl
      rw [e1, hc]
      simpa using this
theorem termsAt_of_own {w : World} {base : Nat} {v : Value} {ts : List Tm} (h : w.ownsRow base 77 2 v ts.length (tsCells ts)) (ha : ∀ i, i < ts.length → IntsAt w (ts.getD i tm0).a (ts.getD i tm0).args) :
    ∃ a cap, v = .slice a ts.length cap ∧ TermsAt w a ts := by
  rcases h.2 with ⟨rfl, hn⟩ | ⟨g, cap, cur, rfl, hb, hg, h1, h2, h3, h4⟩
  · exact ⟨none, 0, by rw [hn], .inl (List.length_eq_zero_iff.1 hn)⟩
  · refine ⟨_, cap, rfl, .inr ⟨g, 0, rfl, fun i hi => ?_⟩⟩
    have hc := tsCells_get ts i hi
    rw [← h4, List.getElem?_take, List.getElem?_take] at hc
    rw [if_pos (by omega), if_pos (by omega)] at hc
    refine ⟨?_, ?_, ha i hi⟩
    · rw [Nat.zero_add, cell_of_row w g _ cur 77 (0, 0) hg]; simpa using hc.1
    · rw [Nat.zero_add, cell_of_row w g _ cur 77 (0, 0) hg]; simpa using hc.2
theorem tsCells_snoc (ts : List Tm) (t : Tm) : tsCells (ts ++ [t]) = tsCells ts ++ tmCells t := by simp [tsCells]
end Go.Proofs.Ytjebhhoibofmfaa
namespace Go.Proofs.Ytjebhhoibofmfaa
open Go.RowKit
theorem info_term : (Try.prog.info? 77).map (fun i => (i.zero, i.size, i.bytes)) = some (some (.agg #[.int .i64 0, .slice none 0 0]), 2, 32) := by kernel_rfl
def First4 (ts : List Tm) : Prop := 4 ≤ ts.length ∧ ((ts.getD 0 tm0).sym = 0 ∧ (ts.getD 0 tm0).args = []) ∧ ((ts.getD 1 tm0).sym = 1 ∧ (ts.getD 1 tm0).args = []) ∧
  ((ts.getD 2 tm0).sym = 2 ∧ (ts.getD 2 tm0).args = [0]) ∧ (ts.getD 3 tm0).sym = 2 ∧ (ts.getD 3 tm0).args = [1]
def KT (w wr : World) (v : Value) (ts : List Tm) : Prop :=
  wr.ownsRow w.heap.size 77 2 v ts.length (tsCells ts) ∧ (∀ i, i < ts.length → IntsRow wr (ts.getD i tm0).a (ts.getD i tm0).args) ∧ termsB ts = true ∧ First4 ts ∧ Below w.heap.size w wr
theorem getD_snoc_lt {α : Type} (ts : List α) (t d : α) {i : Nat} (h : i < ts.length) : (ts ++ [t]).getD i d = ts.getD i d := by
  simp [List.getElem?_append_left h]
theorem getD_snoc_eq {α : Type} (ts : List α) (t d : α) : (ts ++ [t]).getD ts.length d = t := by simp
theorem termsB_snoc {ts : List Tm} {t : Tm} (h : termsB ts = true) (h8 : ts.length ≤ 8) (ht : termB ts.length t = true) : termsB (ts ++ [t]) = true := by
  have h1 := len_of h
  refine termsB_yes (by simp) (by simp; omega) ?_
  intro k hk
  simp only [List.length_append, List.length_cons, List.length_nil] at hk
  by_cases hkl : k < ts.length
  · rw [getD_snoc_lt _ _ _ hkl]
    simp only [termsB, Bool.and_eq_true] at h
    exact allB_iff.1 h.2 k hkl
  · have : k = ts.length := by omega
    subst this
    rw [getD_snoc_eq]
    exact ht
theorem First4.snoc {ts : List Tm} {t : Tm} (h : First4 ts) : First4 (ts ++ [t]) := by
  obtain ⟨h0, h1⟩ := h
  refine ⟨by simp; omega, ?_⟩
  rw [getD_snoc_lt _ _ _ (by omega), getD_snoc_lt _ _ _ (by omega), getD_snoc_lt _ _ _ (by omega), getD_snoc_lt _ _ _ (by omega)]
  exact h1
theorem KT.step {w wr w1 w' : World} {v v' : Value} {ts : List Tm} {t : Tm} (h : KT w wr v ts) (hb : Below wr.heap.size wr w1) (h8 : ts.length ≤ 8) (ht : termB ts.length t = true) (hr : IntsRow w1 t.a t.args)
    (hown : w'.ownsRow w.heap.size 77 2 v' (ts.length + 1) (tsCells ts ++ tmCells t)) (hg : w1.grownBy w' v.ownBlock) : KT w w' v' (ts ++ [t]) := by
  obtain ⟨h1, h2, h3, h4, h5⟩ := h
  have hrow : ∀ g, v.ownBlock = some g → ∃ cur e, w1.heap[g]? = some (.cells cur e (0, 0)) ∧ e ≠ 3 := by
    intro g hg'
    rcases h1.2 with ⟨rfl, _⟩ | ⟨g', cap, cur, rfl, hb', hgg, _⟩
    · simp [Value.ownBlock] at hg'
    · simp [Value.ownBlock] at hg'
      subst hg'
      exact ⟨cur, _, by rw [hb.block _ (Array.getElem?_eq_some_iff.1 hgg).1]; exact hgg, by decide⟩
  have hup : ∀ {a xs}, IntsRow wr a xs → IntsRow w1 a xs := by
    intro a xs hx
    rcases hx with hx | ⟨b, cur, rfl, hbb, hx⟩
    · exact .inl hx
    · exact .inr ⟨b, cur, rfl, by rw [hb.block _ (Array.getElem?_eq_some_iff.1 hbb).1]; exact hbb, hx⟩
  refine ⟨by rw [tsCells_snoc]; simpa using hown, ?_, termsB_snoc h3 h8 ht, h4.snoc, ?_⟩
  · intro i hi
    simp only [List.length_append, List.length_cons, List.length_nil] at hi
    by_cases hil : i < ts.length
    · rw [getD_snoc_lt _ _ _ hil]
      exact (hup (h2 i hil)).grown hg hrow
    · have : i = ts.length := by omega
      subst this
      rw [getD_snoc_eq]
      exact hr.grown hg hrow
  · refine (h5.trans (hb.mono h5.size)).grown hg (Nat.le_trans h5.size hb.size) ?_
    intro k hk
    exact (h1.lt k hk).1
theorem heap_at_new (w : World) (o : Obj) (n : Nat) (h : n = w.heap.size) : (w.alloc o).heap[n]? = some o := by
  subst h
  show (w.heap.push o)[w.heap.size]? = _
  simp
theorem heap_at_old (w : World) (o : Obj) {n : Nat} {x : Obj} (h : w.heap[n]? = some x) : (w.alloc o).heap[n]? = some x := by
  have := (Array.getElem?_eq_some_iff.1 h).1
  show (w.heap.push o)[n]? = _
  rw [Array.getElem?_push, if_neg (by omega)]
  exact h
theorem KT.start (w : World) : KT w (((w.alloc (.cells #[.int .i64 0] 3)).alloc (.cells #[.int .i64 1] 3)).alloc
    (.cells #[.int .i64 0, .slice none 0 0, .int .i64 1, .slice none 0 0, .int .i64 2, .slice (some ⟨w.heap.size, 0, none⟩) 1 1, .int .i64 2, .slice (some ⟨w.heap.size + 1, 0, none⟩) 1 1] 77))
    (.slice (some ⟨w.heap.size + 1 + 1, 0, none⟩) 4 4)
    [⟨0, none, 0, []⟩, ⟨1, none, 0, []⟩, ⟨2, some ⟨w.heap.size, 0, none⟩, 1, [0]⟩, ⟨2, some ⟨w.heap.size + 1, 0, none⟩, 1, [1]⟩] := by
  refine ⟨⟨rfl, .inr ⟨w.heap.size + 1 + 1, 4, _, rfl, by omega, heap_at_new _ _ _ (by simp), (by show 4 ≤ 4; omega), (by show 4 ≤ 9223372036854775807; omega), rfl, rfl⟩⟩, ?_, rfl, ⟨(by show 4 ≤ 4; omega), ⟨rfl, rfl⟩, ⟨rfl, rfl⟩, ⟨rfl, rfl⟩, rfl, rfl⟩, ?_⟩
  · intro i hi
    match i, hi with
    | 0, _ => exact .inl rfl
    | 1, _ => exact .inl rfl
    | 2, _ => exact .inr ⟨w.heap.size, #[.int .i64 0], rfl, heap_at_old _ _ (heap_at_old _ _ (heap_at_new _ _ _ rfl)), fun i hi => by simp at hi; subst hi; rfl⟩
    | 3, _ => exact .inr ⟨w.heap.size + 1, #[.int .i64 1], rfl, heap_at_old _ _ (heap_at_new _ _ _ (by simp)), fun i hi => by simp at hi; subst hi; rfl⟩
    | n + 4, hi => exact absurd hi (by simp)
  · exact (((Below.refl _ _).alloc (Nat.le_refl _) _).alloc (by simp) _).alloc (by simp; omega) _
theorem termB_nil {n s : Int} {a : Option Addr} {cap : Nat} (h0 : 0 ≤ s) (h1 : s < 10) : termB n ⟨s, a, cap, []⟩ = true :=
  termB_yes (belowB_iff.2 ⟨h0, h1⟩) (by simp) (fun k hk => by simp at hk)
theorem termB_one {n s x : Int} {a : Option Addr} {cap : Nat} (h0 : 0 ≤ s) (h1 : s < 10) (hx : 0 ≤ x) (hx' : x < n) : termB n ⟨s, a, cap, [x]⟩ = true :=
  termB_yes (belowB_iff.2 ⟨h0, h1⟩) (by simp) (fun k hk => by simp at hk; subst hk; exact belowB_iff.2 ⟨hx, hx'⟩)
theorem termB_two {n s x y : Int} {a : Option Addr} {cap : Nat} (h0 : 0 ≤ s) (h1 : s < 10) (hx : 0 ≤ x) (hx' : x < n) (hy : 0 ≤ y) (hy' : y < n) : termB n ⟨s, a, cap, [x, y]⟩ = true :=
  termB_yes (belowB_iff.2 ⟨h0, h1⟩) (by simp) (fun k hk => by
    match k, hk with
    | 0, _ => exact belowB_iff.2 ⟨hx, hx'⟩
    | 1, _ => exact belowB_iff.2 ⟨hy, hy'⟩
    | k + 2, hk => exact absurd hk (by simp))
theorem KT.val {w wr : World} {v : Value} {ts : List Tm} (h : KT w wr v ts) : ∃ a cap, v = .slice a ts.length cap := by
  rcases h.1.2 with ⟨rfl, h2⟩ | ⟨g, cap, cur, rfl, _⟩
  · exact ⟨none, 0, by rw [h2]⟩
  · exact ⟨_, _, rfl⟩
theorem KT.below {w wr : World} {v : Value} {ts : List Tm} (h : KT w wr v ts) : Below w.heap.size w wr := h.2.2.2.2
theorem KT.done {w wr : World} {v : Value} {ts : List Tm} (h : KT w wr v ts) (h7 : ts.length ≤ 7) :
    ∃ a cap ts, Ending.returned v = .returned (.slice a ts.length cap) ∧ TermsAt wr a ts ∧ termsB ts = true ∧ First4 ts ∧ ts.length ≤ 7 ∧ Below w.heap.size w wr := by
  obtain ⟨h1, h2, h3, h4, h5⟩ := h
  obtain ⟨a, cap, rfl, ht⟩ := termsAt_of_own h1 (fun i hi => (h2 i hi).at)
  exact ⟨a, cap, ts, rfl, ht, h3, h4, h7, h5⟩
set_option maxRecDepth 100000 in
set_option maxHeartbeats 400000 in
theorem kterms_any (ra : Option Addr) (rc : Nat) (rs : List Int) (w : World) (hr : IntsAt w ra rs) (hwf : ∀ i, i < rs.length → -9223372036854775808 ≤ rs.getD i 0 ∧ rs.getD i 0 ≤ 9223372036854775807) :
    Calls Try.prog 18 #[.slice ra rs.length rc] w fun e w' => ∃ a cap ts, e = .returned (.slice a ts.length cap) ∧ TermsAt w' a ts ∧ termsB ts = true ∧ First4 ts ∧ ts.length ≤ 7 ∧ Below w.heap.size w w' := by
  obtain ⟨i0, hi0, hz0, hz1, hz2⟩ := info_parts info_term
  go_enter Try.func18, Try.ntmps18
  go_wp2_with fail
  go_loopg [3, 4] 3 (fun g v s wr => ∃ (i : Nat) (ts : List Tm), g = 3 - i ∧ i ≤ 3 ∧ s = .int .i64 i ∧ ts.length = 4 + i ∧ KT w wr v ts)
  case atStart => exact ⟨0, _, rfl, by omega, rfl, rfl, KT.start w⟩
  case round =>
    obtain ⟨i, ts, rfl, hi, rfl, hn, hK⟩ := hrel
    have Hn := hide hn
    clear hn
    by_cases hlt : i < rs.length ∧ i < 3
    · obtain ⟨hlt, hi3⟩ := hlt
      obtain ⟨rb, ro, rfl, rcell⟩ := (hr.below hK.below).get hlt
      have r1 := rcell i hlt
      obtain ⟨w1, w2⟩ := hwf i hlt
      generalize rs.getD i 0 = x at *
      clear rcell
      obtain ⟨va, vc, rfl⟩ := hK.val
      have hn4 : 4 ≤ ts.length := by have := Hn.out; omega
      have hn7 : ts.length ≤ 6 := by have := Hn.out; omega
      go_wp2_with fail
      refine (pick_any x 1099511627776 _ w1 w2 (by omega) (by omega)).mono ?_
      rintro e w' ⟨r, hr1, rfl, rfl⟩
      obtain ⟨A, hA, eA⟩ := mod_nat ((r : Int) / 8) ts.length (by omega)
      obtain ⟨B, hB, eB⟩ := mod_nat ((r : Int) / 128) ts.length (by omega)
      obtain ⟨m, hm, em⟩ := mod_nat (r : Int) 5 (by omega)
      have hnz : ((ts.length : Int) == 0) = false := by rw [beq_eq_false_iff_ne]; omega
      go_upto_region 9 with fail
      rw [eA, eB, em]
      clear eA eB em hr1
      have hown := hK.1
      rcases (show m = 0 ∨ m = 1 ∨ m = 2 ∨ m = 3 ∨ m = 4 by omega) with rfl | rfl | rfl | rfl | rfl
      · go_wp2_with (at_builtin; refine wpList_append_own _ rfl _ _ 22 rfl w.heap.size 77 i0 (.agg #[.int .i64 0, .slice none 0 0]) 2 32 Try.underlying22 hi0 hz0 hz1 hz2 rfl (by decide) _ _ _ rfl (hown.alloc _) ⟨w'.heap.size, 0, none⟩ 1 1 (tmCells ⟨3 + i, none, 0, []⟩) rfl rfl ?c1 ?c2 ?c3 ?c4 ?c5 ?_)
        case c1 =>
          intro j u hj
          match j, hj with
          | 0, hj => simp [tmCells] at hj; subst hj; simp [Addr.add]
          | 1, hj => simp [tmCells] at hj; subst hj; simp [Addr.add]
          | j + 2, hj => simp [tmCells] at hj
        case c2 => intro u hu; simp [tmCells] at hu; rcases hu with rfl | rfl <;> rfl
        case c3 => unfold maxLen; omega
        case c4 => omega
        case c5 => have := hK.below.size; simp; omega
        intro v' w2 hown' hgrow _
        go_wp2_with fail
        go_roundg (3 - (i + 1))
        case measure => omega
        case rel => exact ⟨i + 1, ts ++ [⟨3 + i, none, 0, []⟩], rfl, by omega, by go_num, by have := Hn.out; simp; omega, hK.step ((Below.refl _ _).alloc (Nat.le_refl _) _) (by omega) (termB_nil (by omega) (by omega)) (.inl rfl) hown' hgrow⟩
      · go_wp2_with (at_builtin; refine wpList_append_own _ rfl _ _ 22 rfl w.heap.size 77 i0 (.agg #[.int .i64 0, .slice none 0 0]) 2 32 Try.underlying22 hi0 hz0 hz1 hz2 rfl (by decide) _ _ _ rfl ((hown.alloc _).alloc _) ⟨w'.heap.size + 1, 0, none⟩ 1 1 (tmCells ⟨2, some ⟨w'.heap.size, 0, none⟩, 1, [(A : Int)]⟩) rfl rfl ?c1 ?c2 ?c3 ?c4 ?c5 ?_)
        case c1 =>
          intro j u hj
          match j, hj with
          | 0, hj => simp [tmCells] at hj; subst hj; simp [Addr.add]
          | 1, hj => simp [tmCells] at hj; subst hj; simp [Addr.add]
          | j + 2, hj => simp [tmCells] at hj
        case c2 => intro u hu; simp [tmCells] at hu; rcases hu with rfl | rfl <;> rfl
        case c3 => unfold maxLen; omega
        case c4 => omega
        case c5 => have := hK.below.size; simp; omega
        intro v' w2 hown' hgrow _
        go_wp2_with fail
        go_roundg (3 - (i + 1))
        case measure => omega
        case rel => exact ⟨i + 1, ts ++ [⟨2, some ⟨w'.heap.size, 0, none⟩, 1, [(A : Int)]⟩], rfl, by omega, by go_num, by have := Hn.out; simp; omega, hK.step (((Below.refl _ _).alloc (Nat.le_refl _) _).alloc (by simp) _) (by omega) (termB_one (by omega) (by omega) (by omega) (by omega)) (.inr ⟨w'.heap.size, #[.int .i64 A], rfl, heap_at_old _ _ (heap_at_new _ _ _ rfl), fun i hi => by simp at hi; subst hi; rfl⟩) hown' hgrow⟩
      · go_wp2_with (at_builtin; refine wpList_append_own _ rfl _ _ 22 rfl w.heap.size 77 i0 (.agg #[.int .i64 0, .slice none 0 0]) 2 32 Try.underlying22 hi0 hz0 hz1 hz2 rfl (by decide) _ _ _ rfl ((hown.alloc _).alloc _) ⟨w'.heap.size + 1, 0, none⟩ 1 1 (tmCells ⟨2, some ⟨w'.heap.size, 0, none⟩, 1, [(A : Int)]⟩) rfl rfl ?c1 ?c2 ?c3 ?c4 ?c5 ?_)
        case c1 =>
          intro j u hj
          match j, hj with
          | 0, hj => simp [tmCells] at hj; subst hj; simp [Addr.add]
          | 1, hj => simp [tmCells] at hj; subst hj; simp [Addr.add]
          | j + 2, hj => simp [tmCells] at hj
        case c2 => intro u hu; simp [tmCells] at hu; rcases hu with rfl | rfl <;> rfl
        case c3 => unfold maxLen; omega
        case c4 => omega
        case c5 => have := hK.below.size; simp; omega
        intro v' w2 hown' hgrow _
        go_wp2_with fail
        go_roundg (3 - (i + 1))
        case measure => omega
        case rel => exact ⟨i + 1, ts ++ [⟨2, some ⟨w'.heap.size, 0, none⟩, 1, [(A : Int)]⟩], rfl, by omega, by go_num, by have := Hn.out; simp; omega, hK.step (((Below.refl _ _).alloc (Nat.le_refl _) _).alloc (by simp) _) (by omega) (termB_one (by omega) (by omega) (by omega) (by omega)) (.inr ⟨w'.heap.size, #[.int .i64 A], rfl, heap_at_old _ _ (heap_at_new _ _ _ rfl), fun i hi => by simp at hi; subst hi; rfl⟩) hown' hgrow⟩
      · go_wp2_with (at_builtin; refine wpList_append_own _ rfl _ _ 22 rfl w.heap.size 77 i0 (.agg #[.int .i64 0, .slice none 0 0]) 2 32 Try.underlying22 hi0 hz0 hz1 hz2 rfl (by decide) _ _ _ rfl ((hown.alloc _).alloc _) ⟨w'.heap.size + 1, 0, none⟩ 1 1 (tmCells ⟨2, some ⟨w'.heap.size, 0, none⟩, 2, [(A : Int), (B : Int)]⟩) rfl rfl ?c1 ?c2 ?c3 ?c4 ?c5 ?_)
        case c1 =>
          intro j u hj
          match j, hj with
          | 0, hj => simp [tmCells] at hj; subst hj; simp [Addr.add]
          | 1, hj => simp [tmCells] at hj; subst hj; simp [Addr.add]
          | j + 2, hj => simp [tmCells] at hj
        case c2 => intro u hu; simp [tmCells] at hu; rcases hu with rfl | rfl <;> rfl
        case c3 => unfold maxLen; omega
        case c4 => omega
        case c5 => have := hK.below.size; simp; omega
        intro v' w2 hown' hgrow _
        go_wp2_with fail
        go_roundg (3 - (i + 1))
        case measure => omega
        case rel => exact ⟨i + 1, ts ++ [⟨2, some ⟨w'.heap.size, 0, none⟩, 2, [(A : Int), (B : Int)]⟩], rfl, by omega, by go_num, by have := Hn.out; simp; omega, hK.step (((Below.refl _ _).alloc (Nat.le_refl _) _).alloc (by simp) _) (by omega) (termB_two (by omega) (by omega) (by omega) (by omega) (by omega) (by omega)) (.inr ⟨w'.heap.size, #[.int .i64 A, .int .i64 B], rfl, heap_at_old _ _ (heap_at_new _ _ _ rfl), fun i hi => by rcases (show i = 0 ∨ i = 1 by simp at hi; omega) with rfl | rfl <;> rfl⟩) hown' hgrow⟩
      · go_wp2_with (at_builtin; refine wpList_append_own _ rfl _ _ 22 rfl w.heap.size 77 i0 (.agg #[.int .i64 0, .slice none 0 0]) 2 32 Try.underlying22 hi0 hz0 hz1 hz2 rfl (by decide) _ _ _ rfl ((hown.alloc _).alloc _) ⟨w'.heap.size + 1, 0, none⟩ 1 1 (tmCells ⟨7, some ⟨w'.heap.size, 0, none⟩, 2, [(A : Int), (B : Int)]⟩) rfl rfl ?c1 ?c2 ?c3 ?c4 ?c5 ?_)
        case c1 =>
          intro j u hj
          match j, hj with
          | 0, hj => simp [tmCells] at hj; subst hj; simp [Addr.add]
          | 1, hj => simp [tmCells] at hj; subst hj; simp [Addr.add]
          | j + 2, hj => simp [tmCells] at hj
        case c2 => intro u hu; simp [tmCells] at hu; rcases hu with rfl | rfl <;> rfl
        case c3 => unfold maxLen; omega
        case c4 => omega
        case c5 => have := hK.below.size; simp; omega
        intro v' w2 hown' hgrow _
        go_wp2_with fail
        go_roundg (3 - (i + 1))
        case measure => omega
        case rel => exact ⟨i + 1, ts ++ [⟨7, some ⟨w'.heap.size, 0, none⟩, 2, [(A : Int), (B : Int)]⟩], rfl, by omega, by go_num, by have := Hn.out; simp; omega, hK.step (((Below.refl _ _).alloc (Nat.le_refl _) _).alloc (by simp) _) (by omega) (termB_two (by omega) (by omega) (by omega) (by omega) (by omega) (by omega)) (.inr ⟨w'.heap.size, #[.int .i64 A, .int .i64 B], rfl, heap_at_old _ _ (heap_at_new _ _ _ rfl), fun i hi => by rcases (show i = 0 ∨ i = 1 by simp at hi; omega) with rfl | rfl <;> rfl⟩) hown' hgrow⟩
    · have Hlt := hide hlt
      clear hlt
      by_cases hlt : i < rs.length
      · have h3 : ¬ i < 3 := fun h => Hlt.out ⟨hlt, h⟩
        go_wp2_with fail
        go_ret
        exact KT.done hK (by have := Hn.out; omega)
      · go_wp2_with fail
        go_ret
        exact KT.done hK (by have := Hn.out; omega)
end Go.Proofs.Ytjebhhoibofmfaa
namespace Go.Proofs.Ytjebhhoibofmfaa
open Go.RowKit
theorem step_append_own {P : Program} {ops : Array Oper} {o : Oper} {a : Act} {w : World} {K : Act → World → Prop} {Q : Exit → Act → World → Prop} {E : Prop}
    (hgd : o.guard = none) (s x : Operand) (t : TypeId) (ho : o.op = .call { callee := .builtin .append, args := #[s, x], argTypes := #[t, t] })
    (base : Nat) (e : TypeId) (i : TypeInfo) (z : Value) (size bytes : Nat) (ht : P.underlying t = some (.slice e)) (hi : P.info? e = some i) (hz : i.zero = some z)
    (hsize : i.size = size) (hby : i.bytes = bytes) (hzs : z.cells.size = size) (hsz : 0 < size)
    (v : Value) (n : Nat) (xs : List Value) (hs : a.eval s = v) (hown : w.ownsRow base e size v n xs)
    (ad : Addr) (m c : Nat) (news : List Value) (hx : a.eval x = .slice (some ad) m c) (hl : news.length = m * size) (hnews : ∀ j u, news[j]? = some u → w.cell? (ad.add j) = some u) (h1 : ∀ u ∈ news, u.oneCell' = true)
    (h63 : n + m ≤ maxLen) (hbytes : (n + m) * bytes ≤ 140737488355328) (hbase : base ≤ w.heap.size)
    (h : ∀ v' w', w'.ownsRow base e size v' (n + m) (xs ++ news) → w.grownBy w' v.ownBlock → K (a.put o.dst v') w') :
    if Region.wanted o (yielded ops a.tmps) = true then Oper.wp P o a w K Q else E := by
  have hw : Region.wanted o (yielded ops a.tmps) = true := by simp [Region.wanted, hgd]
  rw [if_pos hw]
  obtain ⟨v', w', hrun, r1, r2, _⟩ := run_append_own (P := P) w base t o.type e i z size bytes ht hi hz hsize hby hzs hsz v n xs hown ad m c news hl hnews h1 h63 hbytes hbase
  unfold Oper.wp
  simp [execOp, ho, resolve, invoke, builtin, hs, hx, hrun, Result.andThen]
  exact h v' w' r1 r2
theorem own_apart {w w' : World} {base : Nat} {e : TypeId} {size : Nat} {v : Value} {n : Nat} {xs : List Value} {row : Option Nat} (h : w.ownsRow base e size v n xs) (hg : w.grownBy w' row)
    (hr : ∀ g, row = some g → ∃ cur e', w.heap[g]? = some (.cells cur e' (0, 0)) ∧ e' ≠ e) : w'.ownsRow base e size v n xs := by
  refine h.kept hg ?_
  rcases h.2 with ⟨rfl, _⟩ | ⟨g, cap, cur, rfl, hb, hgg, _⟩
  · exact .inl rfl
  · refine .inr (fun e1 => ?_)
    obtain ⟨cur', e', h1, h2⟩ := hr g e1.symm
    rw [hgg] at h1
    injection h1 with h1
    injection h1 with _ h1
    exact h2 h1.symm
theorem own_type {w : World} {base : Nat} {e : TypeId} {size : Nat} {v : Value} {n : Nat} {xs : List Value} (h : w.ownsRow base e size v n xs) {e0 : TypeId} (hne : e ≠ e0) :
    ∀ g, v.ownBlock = some g → ∃ cur e', w.heap[g]? = some (.cells cur e' (0, 0)) ∧ e' ≠ e0 := by
  intro g hg
  rcases h.2 with ⟨rfl, _⟩ | ⟨g', cap, cur, rfl, hb, hgg, _⟩
  · simp [Value.ownBlock] at hg
  · simp [Value.ownBlock] at hg
    subst hg
    exact ⟨cur, e, hgg, hne⟩
theorem own_below {w w' : World} {base : Nat} {e : TypeId} {size : Nat} {v : Value} {n : Nat} {xs : List Value} (h : w.ownsRow base e size v n xs) (hb : Below w.heap.size w w') : w'.ownsRow base e size v n xs := by
  refine ⟨h.1, ?_⟩
  rcases h.2 with h2 | ⟨g, cap, cur, hv, hg, hh, r⟩
  · exact Or.inl h2
  · exact Or.inr ⟨g, cap, cur, hv, hg, by rw [hb.block _ (Array.getElem?_eq_some_iff.1 hh).1]; exact hh, r⟩
theorem own_val {w : World} {base : Nat} {e : TypeId} {size : Nat} {v : Value} {n : Nat} {xs : List Value} (h : w.ownsRow base e size v n xs) : ∃ a cap, v = .slice a n cap := by
  rcases h.2 with ⟨rfl, h2⟩ | ⟨g, cap, cur, rfl, _⟩
  · exact ⟨none, 0, by rw [h2]⟩
  · exact ⟨_, _, rfl⟩
theorem own_setCell {w : World} {base : Nat} {e : TypeId} {size : Nat} {v : Value} {n : Nat} {xs : List Value} (h : w.ownsRow base e size v n xs) {p : Addr} (hp : p.block < base) (u : Value) : (w.setCell p u).ownsRow base e size v n xs :=
  ownsRow_setCell_below h hp u
def ltCells (l : Lt) : List Value := [.int .i64 l.x, .int .i64 l.y, .bool l.n]
def lsCells (ls : List Lt) : List Value := ls.flatMap ltCells
def clVal (q : Cl) : Value := .slice q.a q.ls.length q.cap
def csCells (cs : List Cl) : List Value := cs.map clVal
theorem lsCells_snoc (ls : List Lt) (l : Lt) : lsCells (ls ++ [l]) = lsCells ls ++ ltCells l := by simp [lsCells]
theorem csCells_snoc (cs : List Cl) (q : Cl) : csCells (cs ++ [q]) = csCells cs ++ [clVal q] := by simp [csCells]
theorem lsCells_length (ls : List Lt) : (lsCells ls).length = ls.length * 3 := by
  induction ls with
  | nil => rfl
  | cons t ts ih => simp only [lsCells, List.flatMap_cons, List.length_append, ltCells, List.length_cons, List.length_nil] at *; omega
theorem lsCells_get (ls : List Lt) : ∀ i, i < ls.length → (lsCells ls)[i * 3]? = some (.int .i64 (ls.getD i lt0).x) ∧ (lsCells ls)[i * 3 + 1]? = some (.int .i64 (ls.getD i lt0).y) ∧ (lsCells ls)[i * 3 + 2]? = some (.bool (ls.getD i lt0).n) := by
  induction ls with
  | nil => intro i hi; simp at hi
  | cons t ts ih =>
    intro i hi
    cases i with
    | zero => exact ⟨rfl, rfl, rfl⟩
    | succ i =>
      have := ih i (by simpa using hi)
      have e1 : (i + 1) * 3 = i * 3 + 3 := by omega
      have hc : lsCells (t :: ts) = .int .i64 t.x :: .int .i64 t.y :: .bool t.n :: lsCells ts := rfl
      rw [e1, hc]
      simpa using this
theorem litsAt_of_own {w : World} {base : Nat} {a : Option Addr} {cap : Nat} {ls : List Lt} (h : w.ownsRow base 50 3 (.slice a ls.length cap) ls.length (lsCells ls)) : LitsAt w a ls := by
  rcases h.2 with ⟨_, hn⟩ | ⟨g, cap, cur, hv, hb, hg, h1, h2, h3, h4⟩
  · exact .inl (List.length_eq_zero_iff.1 hn)
  · injection hv with hv _ _
    subst hv
    refine .inr ⟨g, 0, rfl, fun i hi => ?_⟩
    have hc := lsCells_get ls i hi
    rw [← h4, List.getElem?_take, List.getElem?_take, List.getElem?_take] at hc
    rw [if_pos (by omega), if_pos (by omega), if_pos (by omega)] at hc
    refine ⟨?_, ?_, ?_⟩
    · rw [Nat.zero_add, cell_of_row w g _ cur 50 (0, 0) hg]; simpa using hc.1
    · rw [Nat.zero_add, cell_of_row w g _ cur 50 (0, 0) hg]; simpa using hc.2.1
    · rw [Nat.zero_add, cell_of_row w g _ cur 50 (0, 0) hg]; simpa using hc.2.2
theorem clausesAt_of_own {w : World} {base : Nat} {a : Option Addr} {cap : Nat} {cs : List Cl} (h : w.ownsRow base 43 1 (.slice a cs.length cap) cs.length (csCells cs))
    (hl : ∀ i, i < cs.length → LitsAt w (cs.getD i cl0).a (cs.getD i cl0).ls) : ClausesAt w a cs := by
  rcases h.2 with ⟨_, hn⟩ | ⟨g, cap, cur, hv, hb, hg, h1, h2, h3, h4⟩
  · exact .inl (List.length_eq_zero_iff.1 hn)
  · injection hv with hv _ _
    subst hv
    refine .inr ⟨g, 0, rfl, fun i hi => ⟨?_, hl i hi⟩⟩
    have hc : (csCells cs)[i]? = some (clVal (cs.getD i cl0)) := by simp [csCells, hi]
    rw [← h4, List.getElem?_take, if_pos (by omega)] at hc
    rw [Nat.zero_add, cell_of_row w g _ cur 43 (0, 0) hg]
    simpa [clVal] using hc
end Go.Proofs.Ytjebhhoibofmfaa
namespace Go.Proofs.Ytjebhhoibofmfaa
open Go.RowKit
theorem info_lit : (Try.prog.info? 50).map (fun i => (i.zero, i.size, i.bytes)) = some (some (.agg #[.int .i64 0, .int .i64 0, .bool false]), 3, 24) := by kernel_rfl
theorem info_lits : (Try.prog.info? 43).map (fun i => (i.zero, i.size, i.bytes)) = some (some (.slice none 0 0), 1, 24) := by kernel_rfl
def small50 (r : Nat) : Prop := (r : Int) < 1125899906842624
theorem new_lt (w : World) (l : Lt) (t : TypeId) : ∀ j u, (ltCells l)[j]? = some u → (w.alloc (.cells #[.int .i64 l.x, .int .i64 l.y, .bool l.n] t)).cell? ((⟨w.heap.size, 0, none⟩ : Addr).add j) = some u := by
  intro j u hj
  match j, hj with
  | 0, hj => simp [ltCells] at hj; subst hj; simp [Addr.add]
  | 1, hj => simp [ltCells] at hj; subst hj; simp [Addr.add]
  | 2, hj => simp [ltCells] at hj; subst hj; simp [Addr.add]
  | j + 3, hj => simp [ltCells] at hj
theorem new_one (w : World) (v : Value) (t : TypeId) : ∀ j u, [v][j]? = some u → (w.alloc (.cells #[v] t)).cell? ((⟨w.heap.size, 0, none⟩ : Addr).add j) = some u := by
  intro j u hj
  match j, hj with
  | 0, hj => simp at hj; subst hj; simp [Addr.add]
  | j + 1, hj => simp at hj
theorem ltCells_one (l : Lt) : ∀ u ∈ ltCells l, u.oneCell' = true := by
  intro u hu
  simp [ltCells] at hu
  rcases hu with rfl | rfl | rfl <;> rfl
def litOf (q n : Nat) : Lt := ⟨(IntKind.i64.wrap ((q : Int) / 8)).tmod n, (IntKind.i64.wrap ((q : Int) / 64)).tmod n, (IntKind.i64.wrap ((q : Int) / 512)).tmod 2 == 1⟩
def CsOwn (B : Nat) (wr : World) (v : Value) (cs : List Cl) : Prop :=
  wr.ownsRow B 43 1 v cs.length (csCells cs) ∧ ∀ i, i < cs.length → wr.ownsRow B 50 3 (clVal (cs.getD i cl0)) (cs.getD i cl0).ls.length (lsCells (cs.getD i cl0).ls)
theorem CsOwn.at {B : Nat} {w : World} {v : Value} {cs : List Cl} (h : CsOwn B w v cs) : ∃ a cap, v = .slice a cs.length cap ∧ ClausesAt w a cs := by
  obtain ⟨a, cap, rfl⟩ := own_val h.1
  exact ⟨a, cap, rfl, clausesAt_of_own h.1 (fun i hi => litsAt_of_own (h.2 i hi))⟩
theorem CsOwn.below {B : Nat} {w w' : World} {v : Value} {cs : List Cl} (h : CsOwn B w v cs) (hb : Below w.heap.size w w') : CsOwn B w' v cs := ⟨own_below h.1 hb, fun i hi => own_below (h.2 i hi) hb⟩
theorem own_base {w : World} {base base' : Nat} {e : TypeId} {size : Nat} {v : Value} {n : Nat} {xs : List Value} (h : w.ownsRow base e size v n xs) (hb : base' ≤ base) : w.ownsRow base' e size v n xs := by
  refine ⟨h.1, ?_⟩
  rcases h.2 with h2 | ⟨g, cap, cur, hv, hg, r⟩
  · exact Or.inl h2
  · exact Or.inr ⟨g, cap, cur, hv, by omega, r⟩
def PR (n : Nat) (w wr : World) (tsl pv : Value) (cs : List Cl) : Prop :=
  wr.heap[w.heap.size]? = some (.cells #[.slice none 0 0, .slice none 0 0] 33 (0, 0)) ∧ wr.heap[w.heap.size + 1]? = some (.cells #[tsl, pv] 33 (0, 0)) ∧
  CsOwn (w.heap.size + 2) wr pv cs ∧ clausesB n cs = true ∧ Below w.heap.size w wr
theorem clausesB_snoc {n : Int} {cs : List Cl} {q : Cl} (h : clausesB n cs = true) (h8 : cs.length ≤ 15) (hq : clauseB n q.ls = true) : clausesB n (cs ++ [q]) = true := by
  refine clausesB_yes (by simp; omega) ?_
  intro k hk
  simp only [List.length_append, List.length_cons, List.length_nil] at hk
  by_cases hkl : k < cs.length
  · rw [getD_snoc_lt _ _ _ hkl]
    simp only [clausesB, Bool.and_eq_true] at h
    exact allB_iff.1 h.2 k hkl
  · have : k = cs.length := by omega
    subst this
    rw [getD_snoc_eq]
    exact hq
theorem PR.step {n : Nat} {w wr w1 w2 : World} {tsl pv pv' : Value} {cs : List Cl} {a : Option Addr} {cap : Nat} {ls : List Lt} {o : Obj} (h : PR n w wr tsl pv cs) (hb : Below wr.heap.size wr w1)
    (hl : w1.ownsRow wr.heap.size 50 3 (.slice a ls.length cap) ls.length (lsCells ls)) (hq : clauseB n ls = true) (h8 : cs.length ≤ 15)
    (hown : w2.ownsRow (w.heap.size + 2) 43 1 pv' (cs.length + 1) (csCells cs ++ [.slice a ls.length cap])) (hg : (w1.alloc o).grownBy w2 pv.ownBlock) :
    PR n w (w2.setCell ⟨w.heap.size + 1, 1, none⟩ pv') tsl pv' (cs ++ [⟨a, cap, ls⟩]) := by
  obtain ⟨h1, h2, h3, h4, h5⟩ := h
  have hs2 : w.heap.size + 2 ≤ wr.heap.size := by have := (Array.getElem?_eq_some_iff.1 h2).1; omega
  have hb1 : Below wr.heap.size wr (w1.alloc o) := hb.alloc hb.size _
  have hrow : ∀ k, pv.ownBlock = some k → w.heap.size + 2 ≤ k ∧ k < wr.heap.size := fun k hk => h3.1.lt k hk
  have hold : ∀ k, k < w.heap.size + 2 → (w2.heap[k]? = wr.heap[k]?) := by
    intro k hk
    rw [hg.block k (by have := hb1.size; omega) (fun e => by have := (hrow k e.symm).1; omega)]
    exact hb1.block k (by omega)
  have e1 := (hold w.heap.size (by omega)).trans h1
  have e2 := (hold (w.heap.size + 1) (by omega)).trans h2
  have hcs : CsOwn (w.heap.size + 2) w2 pv' (cs ++ [⟨a, cap, ls⟩]) := by
    refine ⟨by rw [csCells_snoc]; simpa [clVal] using hown, ?_⟩
    intro i hi
    have ht : ∀ g, pv.ownBlock = some g → ∃ cur e', (w1.alloc o).heap[g]? = some (.cells cur e' (0, 0)) ∧ e' ≠ 50 := own_type (own_below h3.1 hb1) (by decide)
    simp only [List.length_append, List.length_cons, List.length_nil] at hi
    by_cases hil : i < cs.length
    · rw [getD_snoc_lt _ _ _ hil]
      exact own_apart (own_below (h3.2 i hil) hb1) hg ht
    · have : i = cs.length := by omega
      subst this
      rw [getD_snoc_eq]
      exact own_apart (own_base (hl.alloc o) hs2) hg ht
  refine ⟨?_, ?_, ⟨own_setCell hcs.1 (by show w.heap.size + 1 < _; omega) _, fun i hi => own_setCell (hcs.2 i hi) (by show w.heap.size + 1 < _; omega) _⟩, clausesB_snoc h4 h8 hq, ?_⟩
  · rw [heap_setCell_other _ _ _ _ (by show w.heap.size ≠ w.heap.size + 1; omega)]; exact e1
  · rw [heap_setCell_same _ _ _ _ _ _ e2]; rfl
  · refine Below.setCell ((h5.trans (hb1.mono h5.size)).grown hg (Nat.le_trans h5.size hb1.size) (fun k hk => by have := (hrow k hk).1; omega)) (by show w.heap.size ≤ w.heap.size + 1; omega) _
theorem PR.kept {n : Nat} {w wr w1 w2 : World} {tsl pv : Value} {cs : List Cl} {o : Obj} (h : PR n w wr tsl pv cs) (hb : Below wr.heap.size wr w1) (hg : (w1.alloc o).grownBy w2 pv.ownBlock) :
    w2.heap[w.heap.size + 1]? = some (.cells #[tsl, pv] 33 (0, 0)) := by
  obtain ⟨h1, h2, h3, h4, h5⟩ := h
  have hs2 := (Array.getElem?_eq_some_iff.1 h2).1
  have hb1 : Below wr.heap.size wr (w1.alloc o) := hb.alloc hb.size _
  rw [hg.block _ (by have := hb1.size; omega) (fun e => by have := (h3.1.lt _ e.symm).1; omega), hb1.block _ hs2]
  exact h2
theorem wrap_small {x : Int} (h0 : 0 ≤ x) (h1 : x < 9223372036854775808) : IntKind.i64.wrap x = x := by rw [IntKind.wrap_i64]; omega
theorem wrap64_small {x : Int} (h0 : 0 ≤ x) (h1 : x < 9223372036854775808) : wrap64 x = x := by unfold wrap64; omega
theorem made_bound {q n : Nat} {d : Int} (hq : small50 q) (hn : 1 ≤ n) (hd : 1 ≤ d) : belowB ((IntKind.i64.wrap ((q : Int) / d)).tmod n) n = true := by
  unfold small50 at hq
  have h0 : 0 ≤ (q : Int) / d := Int.ediv_nonneg (by omega) (by omega)
  have h1 : (q : Int) / d ≤ q := Int.ediv_le_self _ (by omega)
  rw [wrap_small h0 (by omega), Int.tmod_eq_emod_of_nonneg h0]
  exact belowB_iff.2 ⟨Int.emod_nonneg _ (by omega), Int.emod_lt_of_pos _ (by omega)⟩
theorem next_small {q : Nat} (hq : small50 q) : small50 (q / 1024) ∧ wrap64 ((q : Int) / 1024) = ((q / 1024 : Nat) : Int) := by
  unfold small50 at *
  exact ⟨by omega, by rw [wrap64_small (by omega) (by omega)]; omega⟩
theorem litsOk_snoc {n : Int} {ls : List Lt} {l : Lt} (h : ∀ t, t < ls.length → litOk n (ls.getD t lt0) = true) (hl : litOk n l = true) : ∀ t, t < (ls ++ [l]).length → litOk n ((ls ++ [l]).getD t lt0) = true := by
  intro t ht
  simp only [List.length_append, List.length_cons, List.length_nil] at ht
  by_cases hil : t < ls.length
  · rw [getD_snoc_lt _ _ _ hil]; exact h t hil
  · have : t = ls.length := by omega
    subst this
    rw [getD_snoc_eq]; exact hl
theorem PR.start (n : Nat) (w : World) (tsl : Value) : PR n w ((w.alloc (.cells #[.slice none 0 0, .slice none 0 0] 33)).alloc (.cells #[tsl, .slice none 0 0] 33)) tsl (.slice none 0 0) [] :=
  ⟨heap_at_old _ _ (heap_at_new _ _ _ rfl), heap_at_new _ _ _ (by simp), ⟨World.ownsRow_nil _ _ _ _, fun i hi => by simp at hi⟩, rfl, ((Below.refl _ _).alloc (Nat.le_refl _) _).alloc (by simp) _⟩
theorem PR.done {n : Nat} {w wr : World} {tsl pv x y : Value} {cs : List Cl} (h : PR n w wr tsl pv cs) (h8 : cs.length ≤ 8) :
    ∃ v cs, Ending.returned (.agg #[tsl, pv]) = .returned (.agg #[tsl, v]) ∧ CsOwn (w.heap.size + 2) ((wr.setCell ⟨w.heap.size, 0, none⟩ x).setCell ⟨w.heap.size, 1, none⟩ y) v cs ∧ clausesB n cs = true ∧ cs.length ≤ 8 ∧
      Below w.heap.size w ((wr.setCell ⟨w.heap.size, 0, none⟩ x).setCell ⟨w.heap.size, 1, none⟩ y) := by
  obtain ⟨h1, h2, h3, h4, h5⟩ := h
  have hlt : w.heap.size < w.heap.size + 2 := by omega
  exact ⟨pv, cs, rfl, ⟨own_setCell (own_setCell h3.1 hlt _) hlt _, fun i hi => own_setCell (own_setCell (h3.2 i hi) hlt _) hlt _⟩, h4, h8, (h5.setCell (Nat.le_refl _) _).setCell (Nat.le_refl _) _⟩
set_option maxRecDepth 100000 in
set_option maxHeartbeats 400000 in
theorem kproblem_any (ta ra : Option Addr) (tc rc : Nat) (n : Nat) (rs : List Int) (w : World) (hn4 : 1 ≤ n) (hn7 : n ≤ 9) (hr : IntsAt w ra rs) (hwf : ∀ i, i < rs.length → -9223372036854775808 ≤ rs.getD i 0 ∧ rs.getD i 0 ≤ 9223372036854775807) :
    Calls Try.prog 23 #[.slice ta n tc, .slice ra rs.length rc] w fun e w' => ∃ v cs, e = .returned (.agg #[.slice ta n tc, v]) ∧ CsOwn (w.heap.size + 2) w' v cs ∧ clausesB n cs = true ∧ cs.length ≤ 8 ∧ Below w.heap.size w w' := by
  obtain ⟨i1, hi1, hy0, hy1, hy2⟩ := info_parts info_lit
  obtain ⟨i2, hi2, hx0, hx1, hx2⟩ := info_parts info_lits
  go_enter Try.func23, Try.ntmps23
  go_wp2_with fail
  go_loopg [6] 8 (fun g s wr => ∃ (i : Nat) (pv : Value) (cs : List Cl), g = 8 - i ∧ i ≤ 8 ∧ s = .int .i64 i ∧ cs.length = i ∧ PR n w wr (.slice ta n tc) pv cs)
  case atStart => exact ⟨0, _, [], rfl, by omega, rfl, rfl, PR.start n w _⟩
  case round =>
    obtain ⟨i, pv, cs, rfl, hi, rfl, hn, hP⟩ := hrel
    have Hn := hide hn
    clear hn
    obtain ⟨pa, pc, rfl⟩ := own_val hP.2.2.1.1
    have p0 : wr.cell? ⟨w.heap.size + 1, 0, none⟩ = some (.slice ta n tc) := by rw [cell_of_row _ _ _ _ _ _ hP.2.1]; rfl
    have p1 : wr.cell? ⟨w.heap.size + 1, 1, none⟩ = some (.slice pa cs.length pc) := by rw [cell_of_row _ _ _ _ _ _ hP.2.1]; rfl
    by_cases hlt : i < rs.length ∧ i < 8
    · obtain ⟨hlt, hi3⟩ := hlt
      obtain ⟨rb, ro, rfl, rcell⟩ := (hr.below hP.2.2.2.2).get hlt
      have r1 := rcell i hlt
      obtain ⟨w1, w2⟩ := hwf i hlt
      generalize rs.getD i 0 = x at *
      clear rcell
      go_wp2_with fail
      refine (pick_any x 1125899906842624 _ w1 w2 (by omega) (by omega)).mono ?_
      rintro e w' ⟨r, hr1, rfl, rfl⟩
      go_wp2_with fail
      have hs2 : w.heap.size + 2 ≤ w'.heap.size := by have := (Array.getElem?_eq_some_iff.1 hP.2.1).1; omega
      obtain ⟨m, hm, em⟩ := mod_nat (r : Int) 3 (by omega)
      rw [em]
      clear em
      have Hr1 : Hid (small50 r) := hr1
      have Hwf := hide hwf
      clear hr1 w1 w2 hwf
      go_loopg [7, 8, 9] (m + 1) (fun g s7 s8 s9 wi => ∃ (r : Nat) (j : Int) (ls : List Lt), s7 = .int .i64 r ∧ Hid (small50 r) ∧ s9 = .int .i64 j ∧ Hid (j = (g : Int) - 1) ∧ ls.length + g ≤ 3 ∧
        wi.ownsRow w'.heap.size 50 3 s8 ls.length (lsCells ls) ∧ Hid (∀ t, t < ls.length → litOk n (ls.getD t lt0) = true) ∧ Below w'.heap.size w' wi)
      case atStart => exact ⟨r, m, [], rfl, Hr1, rfl, (by show (m : Int) = ((m + 1 : Nat) : Int) - 1; omega), by simp; omega, World.ownsRow_nil _ _ _ _, (fun t ht => by simp at ht), Below.refl _ _⟩
      case round =>
        obtain ⟨q, j, ls, rfl, Hq, rfl, Hj, hls, hown, Hok, hbi⟩ := hrel
        by_cases hk : 0 ≤ j
        · have hj3 : j ≤ 2 := by have := Hj.out; omega
          go_upto_region 10 with fail
          have hn0 : ¬ n = 0 := by omega
          have hwb : (w'.heap.size : Nat) ≤ wr.heap.size := hbi.size
          go_region_law (refine step_append_own rfl (.tmp 33) (.tmp 49) 43 rfl w'.heap.size 50 i1 (.agg #[.int .i64 0, .int .i64 0, .bool false]) 3 24 Try.underlying43 hi1 hy0 hy1 hy2 rfl (by decide) u8 ls.length (lsCells ls) (by simp [Act.eval]) (hown.alloc _) ⟨wr.heap.size, 0, none⟩ 1 1 (ltCells ⟨(IntKind.i64.wrap ((q : Int) / 8)).tmod n, (IntKind.i64.wrap ((q : Int) / 64)).tmod n, (IntKind.i64.wrap ((q : Int) / 512)).tmod 2 == 1⟩) (by simp [Act.eval]) rfl (new_lt wr ⟨_, _, _⟩ _) (ltCells_one _) (by unfold maxLen; omega) (by omega) (by simp; omega) ?_; intro v2 w2 hown2 hgrow2)
          go_wp2_with fail
          obtain ⟨hq2, eq2⟩ := next_small Hq.out
          have hown3 : w2.ownsRow w'.heap.size 50 3 v2 (ls ++ [litOf q n]).length (lsCells (ls ++ [litOf q n])) := by rw [lsCells_snoc, List.length_append]; exact hown2
          have hbel : Below w'.heap.size w' w2 := (hbi.alloc hbi.size _).drew.grown hgrow2 (by simp; omega) (fun k hk => (hown.lt k hk).1)
          go_roundg (gk - 1)
          case measure => have := Hj.out; omega
          case rel =>
            refine ⟨q / 1024, j - 1, ls ++ [litOf q n], by rw [← eq2], hq2, by go_num, (by have := Hj.out; show j - 1 = ((gk - 1 : Nat) : Int) - 1; omega), (by have := Hj.out; simp; omega), hown3, litsOk_snoc Hok.out ?_, hbel⟩
            unfold litOk litOf
            rw [made_bound Hq.out hn4 (by omega), made_bound Hq.out hn4 (by omega)]
            rfl
        · have g0 : gk = 0 := by have := Hj.out; omega
          obtain ⟨ua, uc, rfl⟩ := own_val hown
          have p1' : wr.cell? ⟨w.heap.size + 1, 1, none⟩ = some (.slice pa cs.length pc) := cell_below hbi p1
          have hPo := own_below hP.2.2.1.1 hbi
          have hwb : (w'.heap.size : Nat) ≤ wr.heap.size := hbi.size
          have Hcl : Hid (clauseB n ls = true) := clauseB_yes (by omega) Hok.out
          have h8 : cs.length ≤ 8 := by have := Hn.out; omega
          go_wp2_with (at_builtin; refine wpList_append_own _ rfl _ _ 31 rfl (w.heap.size + 2) 43 i2 (.slice none 0 0) 1 24 Try.underlying31 hi2 hx0 hx1 hx2 rfl (by decide) _ _ _ rfl (hPo.alloc _) ⟨wr.heap.size, 0, none⟩ 1 1 [.slice ua ls.length uc] rfl rfl (new_one _ _ _) (fun u hu => by simp at hu; subst hu; rfl) (by unfold maxLen; omega) (by omega) (by simp; omega) ?_)
          intro v' w2 hown' hgrow _
          have e2 := hP.kept hbi hgrow
          have k1 : w2.cell? ⟨w.heap.size + 1, 1, none⟩ = some (.slice pa cs.length pc) := by rw [cell_of_row _ _ _ _ _ _ e2]; rfl
          have k2 : w2.frozen? ⟨w.heap.size + 1, 1, none⟩ = false := frozen_of_row _ _ _ _ _ e2
          obtain ⟨va, vc, rfl⟩ := own_val hown'
          go_wp2_with fail
          go_roundg (8 - (i + 1))
          case measure => omega
          case rel => exact ⟨i + 1, _, cs ++ [⟨ua, uc, ls⟩], rfl, by omega, by go_num, by have := Hn.out; simp; omega, hP.step hbi hown Hcl.out (by omega) hown' hgrow⟩
    · have q0 : wr.cell? ⟨w.heap.size, 0, none⟩ = some (.slice none 0 0) := by rw [cell_of_row _ _ _ _ _ _ hP.1]; rfl
      have q1 : wr.cell? ⟨w.heap.size, 1, none⟩ = some (.slice none 0 0) := by rw [cell_of_row _ _ _ _ _ _ hP.1]; rfl
      have z0 : wr.frozen? ⟨w.heap.size, 0, none⟩ = false := frozen_of_row _ _ _ _ _ hP.1
      have z1 : wr.frozen? ⟨w.heap.size, 1, none⟩ = false := frozen_of_row _ _ _ _ _ hP.1
      have Hlt := hide hlt
      clear hlt
      by_cases hlt : i < rs.length
      · have h3 : ¬ i < 8 := fun h => Hlt.out ⟨hlt, h⟩
        go_wp2_with fail
        exact bodyPost_ret (v := .agg #[.slice ta n tc, .slice pa cs.length pc]) (by simp [results, Try.results23, go_sem, q0, q1]) rfl (hP.done (by have := Hn.out; omega))
      · go_wp2_with fail
        exact bodyPost_ret (v := .agg #[.slice ta n tc, .slice pa cs.length pc]) (by simp [results, Try.results23, go_sem, q0, q1]) rfl (hP.done (by have := Hn.out; omega))
end Go.Proofs.Ytjebhhoibofmfaa
namespace Go.Proofs.Ytjebhhoibofmfaa
open Go.RowKit
def tab (n : Nat) (f : Nat → Int) : List Int := (List.range n).map f
theorem tab_length (n : Nat) (f : Nat → Int) : (tab n f).length = n := by simp [tab]
theorem tab_getD (n : Nat) (f : Nat → Int) {t : Nat} (h : t < n) : (tab n f).getD t 0 = f t := by simp [tab, h]
theorem tab_congr {n : Nat} {f g : Nat → Int} (h : ∀ t, t < n → f t = g t) : tab n f = tab n g := by
  unfold tab
  exact List.map_congr_left (fun t ht => h t (by simpa using ht))
theorem list_ext {a b : List Int} (hl : a.length = b.length) (h : ∀ t, t < a.length → a.getD t 0 = b.getD t 0) : a = b := by
  apply List.ext_getElem hl
  intro t h1 h2
  have := h t h1
  simpa [h1, h2] using this
theorem tab_self (c : List Int) : tab c.length (fun t => c.getD t 0) = c :=
  list_ext (tab_length _ _) (fun t ht => by rw [tab_length] at ht; rw [tab_getD _ _ ht])
theorem tab_set (n : Nat) (f : Nat → Int) (k : Nat) (v : Int) : (tab n f).set k v = tab n (fun t => if t = k then v else f t) := by
  refine list_ext (by simp [tab]) (fun t ht => ?_)
  have ht' : t < n := by simpa [tab] using ht
  rw [tab_getD _ _ ht']
  by_cases h : t = k
  · subst h; simp [tab, ht']
  · rw [if_neg h]
    simp [tab, ht', Ne.symm h]
def Row (w : World) (g : Nat) (c : List Int) : Prop := w.heap[g]? = some (.cells (c.map (Value.int .i64)).toArray 3 (0, 0))
theorem Row.cell {w : World} {g : Nat} {c : List Int} (h : Row w g c) {k : Nat} (hk : k < c.length) : w.cell? ⟨g, k, none⟩ = some (.int .i64 (c.getD k 0)) := by
  rw [cell_of_row _ _ _ _ _ _ h]
  simp [hk]
theorem Row.frozen {w : World} {g : Nat} {c : List Int} (h : Row w g c) (k : Nat) : w.frozen? ⟨g, k, none⟩ = false := frozen_of_row _ _ _ _ _ h
theorem Row.at {w : World} {g : Nat} {c : List Int} (h : Row w g c) : IntsAt w (some ⟨g, 0, none⟩) c := .inr ⟨g, 0, rfl, fun i hi => by rw [Nat.zero_add]; exact h.cell hi⟩
theorem Row.lt {w : World} {g : Nat} {c : List Int} (h : Row w g c) : g < w.heap.size := (Array.getElem?_eq_some_iff.1 h).1
theorem Row.set {w : World} {g : Nat} {c : List Int} (h : Row w g c) (k : Nat) (v : Int) : Row (w.setCell ⟨g, k, none⟩ (.int .i64 v)) g (c.set k v) := by
  unfold Row
  rw [heap_setCell_same _ _ _ _ _ _ h]
  simp [List.map_set]
theorem Row.below {w w' : World} {g : Nat} {c : List Int} (h : Row w g c) {B : Nat} (hb : Below B w w') (hB : g < B) : Row w' g c := by
  unfold Row
  rw [hb.block g hB]; exact h
theorem Row.kept {w w' : World} {g : Nat} {c : List Int} {row : Option Nat} (h : Row w g c) (hg : w.grownBy w' row) (hne : some g ≠ row) : Row w' g c := by
  unfold Row
  rw [hg.block g h.lt hne]; exact h
theorem grown_set {w w' : World} {g k : Nat} {v : Value} (h : w.grownBy w' (some g)) : w.grownBy (w'.setCell ⟨g, k, none⟩ v) (some g) :=
  ⟨h.os, h.tape, h.output, by simpa using h.size, fun j hj hne => by rw [heap_setCell_other _ _ _ _ (by intro e; exact hne (by rw [e]))]; exact h.block j hj hne⟩
def gr (c : List Int) : Nat → Int
  | 0 => 0
  | i + 1 => max (gr c i) (c.getD i 0)
def NoBump (c : List Int) : Prop := ∀ j, 0 < j → j < c.length → gr c j < c.getD j 0
end Go.Proofs.Ytjebhhoibofmfaa
namespace Go.Proofs.Ytjebhhoibofmfaa
open Go.RowKit
end Go.Proofs.Ytjebhhoibofmfaa
namespace Go.Proofs.Ytjebhhoibofmfaa
open Go.RowKit
end Go.Proofs.Ytjebhhoibofmfaa
namespace Go.Proofs.Ytjebhhoibofmfaa
open Go.RowKit
def Rg (c : List Int) : Prop := c.length ≤ 9 ∧ (0 < c.length → c.getD 0 0 = 0) ∧ ∀ i, i < c.length → 0 ≤ c.getD i 0 ∧ (1 ≤ i → c.getD i 0 ≤ gr c i + 1)
theorem rgs_from {c : List Int} (h : Rg c) : ∀ d k, k + d = c.length → rgs (if k = 0 then 0 else gr c k + 1) (c.drop k) = true := by
  intro d
  induction d with
  | zero => intro k hk; rw [List.drop_of_length_le (by omega)]; rfl
  | succ d ih =>
    intro k hk
    have hlt : k < c.length := by omega
    obtain ⟨h0, h1⟩ := h.2.2 k hlt
    have hz := h.2.1 (by omega)
    have hr := ih (k + 1) (by omega)
    rw [if_neg (by omega)] at hr
    rw [drop_get hlt, rgs, Bool.and_eq_true]
    have e : gr c (k + 1) = max (gr c k) (c.getD k 0) := rfl
    by_cases hk0 : k = 0
    · subst hk0
      rw [hz] at e ⊢
      refine ⟨by rfl, ?_⟩
      have : (if (0 : Int) = (if (0 : Nat) = 0 then 0 else gr c 0 + 1) then (if (0 : Nat) = 0 then 0 else gr c 0 + 1) + 1 else if (0 : Nat) = 0 then 0 else gr c 0 + 1) = gr c (0 + 1) + 1 := by rw [e]; rfl
      rw [this]; exact hr
    · rw [if_neg hk0]
      have hle := h1 (by omega)
      refine ⟨belowB_iff.2 ⟨h0, by omega⟩, ?_⟩
      by_cases he : c.getD k 0 = gr c k + 1
      · rw [if_pos he]
        rw [show gr c (k + 1) = gr c k + 1 by omega] at hr
        exact hr
      · rw [if_neg he]
        rw [show gr c (k + 1) = gr c k by omega] at hr
        exact hr
theorem rgs_of {c : List Int} (h : Rg c) : rgs 0 c = true := by simpa using rgs_from h c.length 0 (by omega)
theorem gr_le {c : List Int} (h : Rg c) : ∀ i, 1 ≤ i → i ≤ c.length → gr c i ≤ (i : Int) - 1 := by
  intro i
  induction i with
  | zero => intro h1; omega
  | succ i ih =>
    intro _ h2
    have e : gr c (i + 1) = max (gr c i) (c.getD i 0) := rfl
    by_cases hi : i = 0
    · subst hi
      rw [e, h.2.1 (by omega)]
      simp [gr]
    · have h3 := ih (by omega) (by omega)
      have h4 := (h.2.2 i (by omega)).2 (by omega)
      omega
theorem Rg.le {c : List Int} (h : Rg c) {i : Nat} (hi : i < c.length) : 0 ≤ c.getD i 0 ∧ c.getD i 0 ≤ (i : Int) := by
  refine ⟨(h.2.2 i hi).1, ?_⟩
  by_cases h0 : i = 0
  · subst h0; rw [h.2.1 hi]; simp
  · have h1 := (h.2.2 i hi).2 (by omega)
    have h2 := gr_le h i (by omega) (by omega)
    omega
def zeros (n : Nat) : List Int := tab n (fun _ => 0)
theorem zeros_length (n : Nat) : (zeros n).length = n := tab_length _ _
theorem made_zeros (n : Nat) : madeCells #[.int .i64 0] n = ((zeros n).map (Value.int .i64)).toArray := by
  unfold madeCells zeros tab
  apply Array.ext
  · simp
  · intro i h1 h2
    simp [Nat.mod_one]
def apart (n : Nat) : List Int := tab n (fun t => (t : Int))
theorem apart_length (n : Nat) : (apart n).length = n := tab_length _ _
theorem gr_apart {n : Nat} : ∀ i, i ≤ n → gr (apart n) (i + 1) = i ∨ n ≤ i
  | 0, h => by
    by_cases hn : n = 0
    · exact .inr (by omega)
    · refine .inl ?_
      unfold gr apart gr
      rw [tab_getD _ _ (by omega)]; simp
  | i + 1, h => by
    by_cases hn : n ≤ i + 1
    · exact .inr hn
    · refine .inl ?_
      have e : gr (apart n) (i + 1 + 1) = max (gr (apart n) (i + 1)) ((apart n).getD (i + 1) 0) := rfl
      rw [e]
      rcases gr_apart (n := n) i (by omega) with h1 | h1
      · rw [h1]; unfold apart; rw [tab_getD _ _ (by omega)]; omega
      · omega
theorem Rg.apart {n : Nat} (h : n ≤ 9) : Rg (apart n) := by
  refine ⟨by rw [apart_length]; exact h, fun h0 => ?_, fun t ht => ?_⟩
  · rw [apart_length] at h0; exact tab_getD _ _ h0
  · rw [apart_length] at ht
    have e : (Go.Proofs.Ytjebhhoibofmfaa.apart n).getD t 0 = t := tab_getD _ _ ht
    rw [e]
    refine ⟨by omega, fun h1 => ?_⟩
    obtain ⟨p, rfl⟩ : ∃ p, t = p + 1 := ⟨t - 1, by omega⟩
    rcases gr_apart (n := n) p (by omega) with h2 | h2
    · rw [h2]; omega
    · omega
end Go.Proofs.Ytjebhhoibofmfaa
namespace Go.Proofs.Ytjebhhoibofmfaa
open Go.RowKit
theorem info_int : (Try.prog.info? 3).map (fun i => (i.zero, i.size, i.bytes)) = some (some (.int .i64 0), 1, 8) := by kernel_rfl
def upto (n i : Nat) : List Int := tab n (fun t => if t < i then (t : Int) else 0)
theorem upto_zero (n : Nat) : upto n 0 = zeros n := tab_congr (fun t _ => by rw [if_neg (by omega)])
theorem upto_all (n : Nat) : upto n n = apart n := tab_congr (fun t h => by rw [if_pos h])
theorem upto_set (n i : Nat) : (upto n i).set i (i : Int) = upto n (i + 1) := by
  unfold upto
  rw [tab_set]
  refine tab_congr (fun t _ => ?_)
  by_cases h : t = i
  · subst h; rw [if_pos rfl, if_pos (by omega)]
  · rw [if_neg h]
    by_cases h2 : t < i
    · rw [if_pos h2, if_pos (by omega)]
    · rw [if_neg h2, if_neg (by omega)]
end Go.Proofs.Ytjebhhoibofmfaa
