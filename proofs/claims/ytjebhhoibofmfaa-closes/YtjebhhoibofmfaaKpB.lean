import Derived.Test.YtjebhhoibofmfaaKpA
namespace Go.Proofs.Ytjebhhoibofmfaa
open Go.RowKit

theorem info_term : (Try.prog.info? 77).map (fun i => (i.zero, i.size, i.bytes)) = some (some (.agg #[.int .i64 0, .slice none 0 0]), 2, 32) := by kernel_rfl

/-- The first four: a, b, f(a), f(b). -/
def First4 (ts : List Tm) : Prop := 4 ≤ ts.length ∧ ((ts.getD 0 tm0).sym = 0 ∧ (ts.getD 0 tm0).args = []) ∧ ((ts.getD 1 tm0).sym = 1 ∧ (ts.getD 1 tm0).args = []) ∧
  ((ts.getD 2 tm0).sym = 2 ∧ (ts.getD 2 tm0).args = [0]) ∧ (ts.getD 3 tm0).sym = 2 ∧ (ts.getD 3 tm0).args = [1]

def KT (w wr : World) (v : Value) (ts : List Tm) : Prop :=
  wr.ownsRow w.heap.size 77 2 v ts.length (tsCells ts) ∧ (∀ i, i < ts.length → IntsRow wr (ts.getD i tm0).a (ts.getD i tm0).args) ∧ termsB ts = true ∧ First4 ts ∧ Below w.heap.size w wr

theorem getD_snoc_lt {α : Type} (ts : List α) (t d : α) {i : Nat} (h : i < ts.length) : (ts ++ [t]).getD i d = ts.getD i d := by
  simp [List.getElem?_append_left h]
theorem getD_snoc_eq {α : Type} (ts : List α) (t d : α) : (ts ++ [t]).getD ts.length d = t := by simp

theorem termsB_snoc {ts : List Tm} {t : Tm} (h : termsB ts = true) (h8 : ts.length ≤ 8) (ht : termB ts.length t = true) : termsB (ts ++ [t]) = true := by
  have h1 := len_of h
  refine termsB_yes (by simp) (by simp; omega) ?_
  intro k hk
  simp only [List.length_append, List.length_cons, List.length_nil] at hk
  by_cases hkl : k < ts.length
  · rw [getD_snoc_lt _ _ _ hkl]
    simp only [termsB, Bool.and_eq_true] at h
    exact allB_iff.1 h.2 k hkl
  · have : k = ts.length := by omega
    subst this
    rw [getD_snoc_eq]
    exact ht

theorem First4.snoc {ts : List Tm} {t : Tm} (h : First4 ts) : First4 (ts ++ [t]) := by
  obtain ⟨h0, h1⟩ := h
  refine ⟨by simp; omega, ?_⟩
  rw [getD_snoc_lt _ _ _ (by omega), getD_snoc_lt _ _ _ (by omega), getD_snoc_lt _ _ _ (by omega), getD_snoc_lt _ _ _ (by omega)]
  exact h1

theorem KT.step {w wr w1 w' : World} {v v' : Value} {ts : List Tm} {t : Tm} (h : KT w wr v ts) (hb : Below wr.heap.size wr w1) (h8 : ts.length ≤ 8) (ht : termB ts.length t = true) (hr : IntsRow w1 t.a t.args)
    (hown : w'.ownsRow w.heap.size 77 2 v' (ts.length + 1) (tsCells ts ++ tmCells t)) (hg : w1.grownBy w' v.ownBlock) : KT w w' v' (ts ++ [t]) := by
  obtain ⟨h1, h2, h3, h4, h5⟩ := h
  have hrow : ∀ g, v.ownBlock = some g → ∃ cur e, w1.heap[g]? = some (.cells cur e (0, 0)) ∧ e ≠ 3 := by
    intro g hg'
    rcases h1.2 with ⟨rfl, _⟩ | ⟨g', cap, cur, rfl, hb', hgg, _⟩
    · simp [Value.ownBlock] at hg'
    · simp [Value.ownBlock] at hg'
      subst hg'
      exact ⟨cur, _, by rw [hb.block _ (Array.getElem?_eq_some_iff.1 hgg).1]; exact hgg, by decide⟩
  have hup : ∀ {a xs}, IntsRow wr a xs → IntsRow w1 a xs := by
    intro a xs hx
    rcases hx with hx | ⟨b, cur, rfl, hbb, hx⟩
    · exact .inl hx
    · exact .inr ⟨b, cur, rfl, by rw [hb.block _ (Array.getElem?_eq_some_iff.1 hbb).1]; exact hbb, hx⟩
  refine ⟨by rw [tsCells_snoc]; simpa using hown, ?_, termsB_snoc h3 h8 ht, h4.snoc, ?_⟩
  · intro i hi
    simp only [List.length_append, List.length_cons, List.length_nil] at hi
    by_cases hil : i < ts.length
    · rw [getD_snoc_lt _ _ _ hil]
      exact (hup (h2 i hil)).grown hg hrow
    · have : i = ts.length := by omega
      subst this
      rw [getD_snoc_eq]
      exact hr.grown hg hrow
  · refine (h5.trans (hb.mono h5.size)).grown hg (Nat.le_trans h5.size hb.size) ?_
    intro k hk
    exact (h1.lt k hk).1

theorem heap_at_new (w : World) (o : Obj) (n : Nat) (h : n = w.heap.size) : (w.alloc o).heap[n]? = some o := by
  subst h
  show (w.heap.push o)[w.heap.size]? = _
  simp
theorem heap_at_old (w : World) (o : Obj) {n : Nat} {x : Obj} (h : w.heap[n]? = some x) : (w.alloc o).heap[n]? = some x := by
  have := (Array.getElem?_eq_some_iff.1 h).1
  show (w.heap.push o)[n]? = _
  rw [Array.getElem?_push, if_neg (by omega)]
  exact h

theorem KT.start (w : World) : KT w (((w.alloc (.cells #[.int .i64 0] 3)).alloc (.cells #[.int .i64 1] 3)).alloc
    (.cells #[.int .i64 0, .slice none 0 0, .int .i64 1, .slice none 0 0, .int .i64 2, .slice (some ⟨w.heap.size, 0, none⟩) 1 1, .int .i64 2, .slice (some ⟨w.heap.size + 1, 0, none⟩) 1 1] 77))
    (.slice (some ⟨w.heap.size + 1 + 1, 0, none⟩) 4 4)
    [⟨0, none, 0, []⟩, ⟨1, none, 0, []⟩, ⟨2, some ⟨w.heap.size, 0, none⟩, 1, [0]⟩, ⟨2, some ⟨w.heap.size + 1, 0, none⟩, 1, [1]⟩] := by
  refine ⟨⟨rfl, .inr ⟨w.heap.size + 1 + 1, 4, _, rfl, by omega, heap_at_new _ _ _ (by simp), (by show 4 ≤ 4; omega), (by show 4 ≤ 9223372036854775807; omega), rfl, rfl⟩⟩, ?_, rfl, ⟨(by show 4 ≤ 4; omega), ⟨rfl, rfl⟩, ⟨rfl, rfl⟩, ⟨rfl, rfl⟩, rfl, rfl⟩, ?_⟩
  · intro i hi
    match i, hi with
    | 0, _ => exact .inl rfl
    | 1, _ => exact .inl rfl
    | 2, _ => exact .inr ⟨w.heap.size, #[.int .i64 0], rfl, heap_at_old _ _ (heap_at_old _ _ (heap_at_new _ _ _ rfl)), fun i hi => by simp at hi; subst hi; rfl⟩
    | 3, _ => exact .inr ⟨w.heap.size + 1, #[.int .i64 1], rfl, heap_at_old _ _ (heap_at_new _ _ _ (by simp)), fun i hi => by simp at hi; subst hi; rfl⟩
    | n + 4, hi => exact absurd hi (by simp)
  · exact (((Below.refl _ _).alloc (Nat.le_refl _) _).alloc (by simp) _).alloc (by simp; omega) _

theorem termB_nil {n s : Int} {a : Option Addr} {cap : Nat} (h0 : 0 ≤ s) (h1 : s < 10) : termB n ⟨s, a, cap, []⟩ = true :=
  termB_yes (belowB_iff.2 ⟨h0, h1⟩) (by simp) (fun k hk => by simp at hk)
theorem termB_one {n s x : Int} {a : Option Addr} {cap : Nat} (h0 : 0 ≤ s) (h1 : s < 10) (hx : 0 ≤ x) (hx' : x < n) : termB n ⟨s, a, cap, [x]⟩ = true :=
  termB_yes (belowB_iff.2 ⟨h0, h1⟩) (by simp) (fun k hk => by simp at hk; subst hk; exact belowB_iff.2 ⟨hx, hx'⟩)
theorem termB_two {n s x y : Int} {a : Option Addr} {cap : Nat} (h0 : 0 ≤ s) (h1 : s < 10) (hx : 0 ≤ x) (hx' : x < n) (hy : 0 ≤ y) (hy' : y < n) : termB n ⟨s, a, cap, [x, y]⟩ = true :=
  termB_yes (belowB_iff.2 ⟨h0, h1⟩) (by simp) (fun k hk => by
    match k, hk with
    | 0, _ => exact belowB_iff.2 ⟨hx, hx'⟩
    | 1, _ => exact belowB_iff.2 ⟨hy, hy'⟩
    | k + 2, hk => exact absurd hk (by simp))

theorem KT.val {w wr : World} {v : Value} {ts : List Tm} (h : KT w wr v ts) : ∃ a cap, v = .slice a ts.length cap := by
  rcases h.1.2 with ⟨rfl, h2⟩ | ⟨g, cap, cur, rfl, _⟩
  · exact ⟨none, 0, by rw [h2]⟩
  · exact ⟨_, _, rfl⟩

theorem KT.below {w wr : World} {v : Value} {ts : List Tm} (h : KT w wr v ts) : Below w.heap.size w wr := h.2.2.2.2

theorem KT.done {w wr : World} {v : Value} {ts : List Tm} (h : KT w wr v ts) (h7 : ts.length ≤ 7) :
    ∃ a cap ts, Ending.returned v = .returned (.slice a ts.length cap) ∧ TermsAt wr a ts ∧ termsB ts = true ∧ First4 ts ∧ ts.length ≤ 7 ∧ Below w.heap.size w wr := by
  obtain ⟨h1, h2, h3, h4, h5⟩ := h
  obtain ⟨a, cap, rfl, ht⟩ := termsAt_of_own h1 (fun i hi => (h2 i hi).at)
  exact ⟨a, cap, ts, rfl, ht, h3, h4, h7, h5⟩

set_option maxRecDepth 100000 in
set_option maxHeartbeats 400000 in
theorem kterms_any (ra : Option Addr) (rc : Nat) (rs : List Int) (w : World) (hr : IntsAt w ra rs) (hwf : ∀ i, i < rs.length → -9223372036854775808 ≤ rs.getD i 0 ∧ rs.getD i 0 ≤ 9223372036854775807) :
    Calls Try.prog 18 #[.slice ra rs.length rc] w fun e w' => ∃ a cap ts, e = .returned (.slice a ts.length cap) ∧ TermsAt w' a ts ∧ termsB ts = true ∧ First4 ts ∧ ts.length ≤ 7 ∧ Below w.heap.size w w' := by
  obtain ⟨i0, hi0, hz0, hz1, hz2⟩ := info_parts info_term
  go_enter Try.func18, Try.ntmps18
  go_wp2_with fail
  go_loopg [3, 4] 3 (fun g v s wr => ∃ (i : Nat) (ts : List Tm), g = 3 - i ∧ i ≤ 3 ∧ s = .int .i64 i ∧ ts.length = 4 + i ∧ KT w wr v ts)
  case atStart => exact ⟨0, _, rfl, by omega, rfl, rfl, KT.start w⟩
  case round =>
    obtain ⟨i, ts, rfl, hi, rfl, hn, hK⟩ := hrel
    have Hn := hide hn
    clear hn
    by_cases hlt : i < rs.length ∧ i < 3
    · obtain ⟨hlt, hi3⟩ := hlt
      obtain ⟨rb, ro, rfl, rcell⟩ := (hr.below hK.below).get hlt
      have r1 := rcell i hlt
      obtain ⟨w1, w2⟩ := hwf i hlt
      generalize rs.getD i 0 = x at *
      clear rcell
      obtain ⟨va, vc, rfl⟩ := hK.val
      have hn4 : 4 ≤ ts.length := by have := Hn.out; omega
      have hn7 : ts.length ≤ 6 := by have := Hn.out; omega
      go_wp2_with fail
      refine (pick_any x 1099511627776 _ w1 w2 (by omega) (by omega)).mono ?_
      rintro e w' ⟨r, hr1, rfl, rfl⟩
      obtain ⟨A, hA, eA⟩ := mod_nat ((r : Int) / 8) ts.length (by omega)
      obtain ⟨B, hB, eB⟩ := mod_nat ((r : Int) / 128) ts.length (by omega)
      obtain ⟨m, hm, em⟩ := mod_nat (r : Int) 5 (by omega)
      have hnz : ((ts.length : Int) == 0) = false := by rw [beq_eq_false_iff_ne]; omega
      go_upto_region 9 with fail
      rw [eA, eB, em]
      clear eA eB em hr1
      have hown := hK.1
      rcases (show m = 0 ∨ m = 1 ∨ m = 2 ∨ m = 3 ∨ m = 4 by omega) with rfl | rfl | rfl | rfl | rfl
      · go_wp2_with (at_builtin; refine wpList_append_own _ rfl _ _ 22 rfl w.heap.size 77 i0 (.agg #[.int .i64 0, .slice none 0 0]) 2 32 Try.underlying22 hi0 hz0 hz1 hz2 rfl (by decide) _ _ _ rfl (hown.alloc _) ⟨w'.heap.size, 0, none⟩ 1 1 (tmCells ⟨3 + i, none, 0, []⟩) rfl rfl ?c1 ?c2 ?c3 ?c4 ?c5 ?_)
        case c1 =>
          intro j u hj
          match j, hj with
          | 0, hj => simp [tmCells] at hj; subst hj; simp [Addr.add]
          | 1, hj => simp [tmCells] at hj; subst hj; simp [Addr.add]
          | j + 2, hj => simp [tmCells] at hj
        case c2 => intro u hu; simp [tmCells] at hu; rcases hu with rfl | rfl <;> rfl
        case c3 => unfold maxLen; omega
        case c4 => omega
        case c5 => have := hK.below.size; simp; omega
        intro v' w2 hown' hgrow _
        go_wp2_with fail
        go_roundg (3 - (i + 1))
        case measure => omega
        case rel => exact ⟨i + 1, ts ++ [⟨3 + i, none, 0, []⟩], rfl, by omega, by go_num, by have := Hn.out; simp; omega, hK.step ((Below.refl _ _).alloc (Nat.le_refl _) _) (by omega) (termB_nil (by omega) (by omega)) (.inl rfl) hown' hgrow⟩
      · go_wp2_with (at_builtin; refine wpList_append_own _ rfl _ _ 22 rfl w.heap.size 77 i0 (.agg #[.int .i64 0, .slice none 0 0]) 2 32 Try.underlying22 hi0 hz0 hz1 hz2 rfl (by decide) _ _ _ rfl ((hown.alloc _).alloc _) ⟨w'.heap.size + 1, 0, none⟩ 1 1 (tmCells ⟨2, some ⟨w'.heap.size, 0, none⟩, 1, [(A : Int)]⟩) rfl rfl ?c1 ?c2 ?c3 ?c4 ?c5 ?_)
        case c1 =>
          intro j u hj
          match j, hj with
          | 0, hj => simp [tmCells] at hj; subst hj; simp [Addr.add]
          | 1, hj => simp [tmCells] at hj; subst hj; simp [Addr.add]
          | j + 2, hj => simp [tmCells] at hj
        case c2 => intro u hu; simp [tmCells] at hu; rcases hu with rfl | rfl <;> rfl
        case c3 => unfold maxLen; omega
        case c4 => omega
        case c5 => have := hK.below.size; simp; omega
        intro v' w2 hown' hgrow _
        go_wp2_with fail
        go_roundg (3 - (i + 1))
        case measure => omega
        case rel => exact ⟨i + 1, ts ++ [⟨2, some ⟨w'.heap.size, 0, none⟩, 1, [(A : Int)]⟩], rfl, by omega, by go_num, by have := Hn.out; simp; omega, hK.step (((Below.refl _ _).alloc (Nat.le_refl _) _).alloc (by simp) _) (by omega) (termB_one (by omega) (by omega) (by omega) (by omega)) (.inr ⟨w'.heap.size, #[.int .i64 A], rfl, heap_at_old _ _ (heap_at_new _ _ _ rfl), fun i hi => by simp at hi; subst hi; rfl⟩) hown' hgrow⟩
      · go_wp2_with (at_builtin; refine wpList_append_own _ rfl _ _ 22 rfl w.heap.size 77 i0 (.agg #[.int .i64 0, .slice none 0 0]) 2 32 Try.underlying22 hi0 hz0 hz1 hz2 rfl (by decide) _ _ _ rfl ((hown.alloc _).alloc _) ⟨w'.heap.size + 1, 0, none⟩ 1 1 (tmCells ⟨2, some ⟨w'.heap.size, 0, none⟩, 1, [(A : Int)]⟩) rfl rfl ?c1 ?c2 ?c3 ?c4 ?c5 ?_)
        case c1 =>
          intro j u hj
          match j, hj with
          | 0, hj => simp [tmCells] at hj; subst hj; simp [Addr.add]
          | 1, hj => simp [tmCells] at hj; subst hj; simp [Addr.add]
          | j + 2, hj => simp [tmCells] at hj
        case c2 => intro u hu; simp [tmCells] at hu; rcases hu with rfl | rfl <;> rfl
        case c3 => unfold maxLen; omega
        case c4 => omega
        case c5 => have := hK.below.size; simp; omega
        intro v' w2 hown' hgrow _
        go_wp2_with fail
        go_roundg (3 - (i + 1))
        case measure => omega
        case rel => exact ⟨i + 1, ts ++ [⟨2, some ⟨w'.heap.size, 0, none⟩, 1, [(A : Int)]⟩], rfl, by omega, by go_num, by have := Hn.out; simp; omega, hK.step (((Below.refl _ _).alloc (Nat.le_refl _) _).alloc (by simp) _) (by omega) (termB_one (by omega) (by omega) (by omega) (by omega)) (.inr ⟨w'.heap.size, #[.int .i64 A], rfl, heap_at_old _ _ (heap_at_new _ _ _ rfl), fun i hi => by simp at hi; subst hi; rfl⟩) hown' hgrow⟩
      · go_wp2_with (at_builtin; refine wpList_append_own _ rfl _ _ 22 rfl w.heap.size 77 i0 (.agg #[.int .i64 0, .slice none 0 0]) 2 32 Try.underlying22 hi0 hz0 hz1 hz2 rfl (by decide) _ _ _ rfl ((hown.alloc _).alloc _) ⟨w'.heap.size + 1, 0, none⟩ 1 1 (tmCells ⟨2, some ⟨w'.heap.size, 0, none⟩, 2, [(A : Int), (B : Int)]⟩) rfl rfl ?c1 ?c2 ?c3 ?c4 ?c5 ?_)
        case c1 =>
          intro j u hj
          match j, hj with
          | 0, hj => simp [tmCells] at hj; subst hj; simp [Addr.add]
          | 1, hj => simp [tmCells] at hj; subst hj; simp [Addr.add]
          | j + 2, hj => simp [tmCells] at hj
        case c2 => intro u hu; simp [tmCells] at hu; rcases hu with rfl | rfl <;> rfl
        case c3 => unfold maxLen; omega
        case c4 => omega
        case c5 => have := hK.below.size; simp; omega
        intro v' w2 hown' hgrow _
        go_wp2_with fail
        go_roundg (3 - (i + 1))
        case measure => omega
        case rel => exact ⟨i + 1, ts ++ [⟨2, some ⟨w'.heap.size, 0, none⟩, 2, [(A : Int), (B : Int)]⟩], rfl, by omega, by go_num, by have := Hn.out; simp; omega, hK.step (((Below.refl _ _).alloc (Nat.le_refl _) _).alloc (by simp) _) (by omega) (termB_two (by omega) (by omega) (by omega) (by omega) (by omega) (by omega)) (.inr ⟨w'.heap.size, #[.int .i64 A, .int .i64 B], rfl, heap_at_old _ _ (heap_at_new _ _ _ rfl), fun i hi => by rcases (show i = 0 ∨ i = 1 by simp at hi; omega) with rfl | rfl <;> rfl⟩) hown' hgrow⟩
      · go_wp2_with (at_builtin; refine wpList_append_own _ rfl _ _ 22 rfl w.heap.size 77 i0 (.agg #[.int .i64 0, .slice none 0 0]) 2 32 Try.underlying22 hi0 hz0 hz1 hz2 rfl (by decide) _ _ _ rfl ((hown.alloc _).alloc _) ⟨w'.heap.size + 1, 0, none⟩ 1 1 (tmCells ⟨7, some ⟨w'.heap.size, 0, none⟩, 2, [(A : Int), (B : Int)]⟩) rfl rfl ?c1 ?c2 ?c3 ?c4 ?c5 ?_)
        case c1 =>
          intro j u hj
          match j, hj with
          | 0, hj => simp [tmCells] at hj; subst hj; simp [Addr.add]
          | 1, hj => simp [tmCells] at hj; subst hj; simp [Addr.add]
          | j + 2, hj => simp [tmCells] at hj
        case c2 => intro u hu; simp [tmCells] at hu; rcases hu with rfl | rfl <;> rfl
        case c3 => unfold maxLen; omega
        case c4 => omega
        case c5 => have := hK.below.size; simp; omega
        intro v' w2 hown' hgrow _
        go_wp2_with fail
        go_roundg (3 - (i + 1))
        case measure => omega
        case rel => exact ⟨i + 1, ts ++ [⟨7, some ⟨w'.heap.size, 0, none⟩, 2, [(A : Int), (B : Int)]⟩], rfl, by omega, by go_num, by have := Hn.out; simp; omega, hK.step (((Below.refl _ _).alloc (Nat.le_refl _) _).alloc (by simp) _) (by omega) (termB_two (by omega) (by omega) (by omega) (by omega) (by omega) (by omega)) (.inr ⟨w'.heap.size, #[.int .i64 A, .int .i64 B], rfl, heap_at_old _ _ (heap_at_new _ _ _ rfl), fun i hi => by rcases (show i = 0 ∨ i = 1 by simp at hi; omega) with rfl | rfl <;> rfl⟩) hown' hgrow⟩
    · have Hlt := hide hlt
      clear hlt
      by_cases hlt : i < rs.length
      · have h3 : ¬ i < 3 := fun h => Hlt.out ⟨hlt, h⟩
        go_wp2_with fail
        go_ret
        exact KT.done hK (by have := Hn.out; omega)
      · go_wp2_with fail
        go_ret
        exact KT.done hK (by have := Hn.out; omega)
end Go.Proofs.Ytjebhhoibofmfaa
