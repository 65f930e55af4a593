import Derived.Test.YtmampmbnjdncjaaDMLt
import Derived.Test.YtmampmbnjdncjaaDXLtK
import Derived.Test.YtmampmbnjdncjaaDMKp
namespace Go.Proofs.Ytmampmbnjdncjaa
open Go.RowKit
def CutHolds : Prop := ∀ (n : Int) (sa : Option Addr) (sc : Nat) (ss : List (Nat × Nat)) (s : St) (w : World), n ≤ 9 → SetsAt w sa ss → (∀ p ∈ ss, p.1 < 18446744073709551616 ∧ p.2 < 18446744073709551616) →
    Calls Try.prog 83 #[.int .i64 n, .slice sa ss.length sc, .agg #[.int .i64 s.r, .int .i64 s.a, .int .i64 s.b, .int .i64 s.c, .int .i64 s.d]] w fun e w' =>
      e = .returned (.tuple #[.agg #[.int .u64 (yes (setX ss s) (okX n ss s)).1, .int .u64 (yes (setX ss s) (okX n ss s)).2], .bool (okX n ss s)]) ∧ Below w.heap.size w w'
def nextB (ts : List Tm) (cs : List Cl) (ss : List (Nat × Nat)) (s : St) : Bool :=
  if s.r = 0 then okG (cs.length : Nat) s else if s.r = 1 then okR (ts.length : Nat) s else if s.r = 2 then okT (ts.length : Nat) s else if s.r = 3 then okC ts s else if s.r = 4 then okX (ts.length : Nat) ss s else false
def nextS (ts : List Tm) (cs : List Cl) (ss : List (Nat × Nat)) (s : St) : Nat × Nat :=
  if s.r = 0 then setG cs s else if s.r = 1 then setR s else if s.r = 2 then setT s else if s.r = 3 then setC ts s else setX ss s
theorem clow_of {ts : List Tm} {cs : List Cl} (hts : termsB ts = true) (h : clausesB ts.length cs = true) : ∀ i, i < cs.length → (cs.getD i cl0).ls.length ≤ 6 ∧ ∀ t ∈ (cs.getD i cl0).ls, LowL 9 t := by
  intro i hi
  have h1 := (clausesIn_of h).2 i hi
  have h9 := (len_of hts).2
  refine ⟨h1.1, fun t ht => ?_⟩
  obtain ⟨k, hk, e⟩ := List.getElem_of_mem ht
  have h2 := h1.2 k hk
  rw [List.getD_eq_getElem?_getD, List.getElem?_eq_getElem hk, Option.getD_some, e] at h2
  exact ⟨h2.1.1, by have := h2.1.2; omega, h2.2.1, by have := h2.2.2; omega⟩
set_option maxRecDepth 100000 in
set_option maxHeartbeats 1000000 in
theorem next_step (hX : CutHolds) (ta sa va : Option Addr) (tc sc vc : Nat) (ts : List Tm) (cs : List Cl) (ss : List (Nat × Nat)) (s : St) (w : World) (ht : TermsAt w ta ts) (hcs : ClausesAt w sa cs) (hss : SetsAt w va ss)
    (h64 : ∀ p ∈ ss, p.1 < 18446744073709551616 ∧ p.2 < 18446744073709551616) (hts : termsB ts = true) (hcl : clausesB ts.length cs = true) :
    Calls Try.prog 74 #[.agg #[.slice ta ts.length tc, .slice sa cs.length sc], .slice va ss.length vc, .agg #[.int .i64 s.r, .int .i64 s.a, .int .i64 s.b, .int .i64 s.c, .int .i64 s.d]] w fun e w' =>
      e = .returned (.tuple #[.agg #[.int .u64 (yes (nextS ts cs ss s) (nextB ts cs ss s)).1, .int .u64 (yes (nextS ts cs ss s) (nextB ts cs ss s)).2], .bool (nextB ts cs ss s)]) ∧ Below w.heap.size w w' := by
  have h9 := (len_of hts).2
  have hcw := clow_of hts hcl
  obtain ⟨W2, hW2⟩ : ∃ W2, W2 = (w.alloc (.cells #[.slice ta ts.length tc, .slice sa cs.length sc] 33)).alloc (.cells #[.int .i64 s.r, .int .i64 s.a, .int .i64 s.b, .int .i64 s.c, .int .i64 s.d] 62) := ⟨_, rfl⟩
  have hs2 : W2.heap.size = w.heap.size + 1 + 1 := by rw [hW2]; simp
  have p0 : W2.cell? ⟨w.heap.size, 0, none⟩ = some (.slice ta ts.length tc) := by rw [hW2]; simp
  have p1 : W2.cell? ⟨w.heap.size, 1, none⟩ = some (.slice sa cs.length sc) := by rw [hW2]; simp
  have c0 : W2.cell? ⟨w.heap.size + 1, 0, none⟩ = some (.int .i64 s.r) := by rw [hW2]; simp
  have c1 : W2.cell? ⟨w.heap.size + 1, 1, none⟩ = some (.int .i64 s.a) := by rw [hW2]; simp
  have c2 : W2.cell? ⟨w.heap.size + 1, 2, none⟩ = some (.int .i64 s.b) := by rw [hW2]; simp
  have c3 : W2.cell? ⟨w.heap.size + 1, 3, none⟩ = some (.int .i64 s.c) := by rw [hW2]; simp
  have c4 : W2.cell? ⟨w.heap.size + 1, 4, none⟩ = some (.int .i64 s.d) := by rw [hW2]; simp
  have hb2 : Below w.heap.size w W2 := by rw [hW2]; exact ((Below.refl _ _).alloc (Nat.le_refl _) _).alloc (by simp) _
  obtain ⟨W, hW⟩ : ∃ W, W = W2.alloc (.cells #[.int .u64 0, .int .u64 0] 80) := ⟨_, rfl⟩
  have hbW : Below W2.heap.size W2 W := by rw [hW]; exact below_alloc _ _
  replace p0 := cell_below hbW p0
  replace p1 := cell_below hbW p1
  replace c0 := cell_below hbW c0
  replace c1 := cell_below hbW c1
  replace c2 := cell_below hbW c2
  replace c3 := cell_below hbW c3
  replace c4 := cell_below hbW c4
  have r0 : W.cell? ⟨w.heap.size + 1 + 1, 0, none⟩ = some (.int .u64 0) := by rw [hW, ← hs2]; simp
  have r1 : W.cell? ⟨w.heap.size + 1 + 1, 1, none⟩ = some (.int .u64 0) := by rw [hW, ← hs2]; simp
  have f0 : W.frozen? ⟨w.heap.size + 1 + 1, 0, none⟩ = false := by rw [hW, ← hs2]; simp
  have f1 : W.frozen? ⟨w.heap.size + 1 + 1, 1, none⟩ = false := by rw [hW, ← hs2]; simp
  have hsW : w.heap.size + 1 + 1 < W.heap.size := by rw [hW, ← hs2]; simp
  have hb0 : Below w.heap.size w W := hb2.trans (hbW.mono (by omega))
  have hw3 : W = ((w.alloc (.cells #[.slice ta ts.length tc, .slice sa cs.length sc] 33)).alloc (.cells #[.int .i64 s.r, .int .i64 s.a, .int .i64 s.b, .int .i64 s.c, .int .i64 s.d] 62)).alloc (.cells #[.int .u64 0, .int .u64 0] 80) := by rw [hW, hW2]
  replace ht := ht.below hb0
  replace hcs := hcs.below hb0
  replace hss := hss.below hb0
  have HS : Hid (∀ b : Nat × Nat, ∀ k : Bool, ∀ e, e = Ending.returned (.tuple #[.agg #[.int .u64 (yes b k).1, .int .u64 (yes b k).2], .bool k]) → b = nextS ts cs ss s → k = nextB ts cs ss s → e = .returned (.tuple #[.agg #[.int .u64 (yes (nextS ts cs ss s) (nextB ts cs ss s)).1, .int .u64 (yes (nextS ts cs ss s) (nextB ts cs ss s)).2], .bool (nextB ts cs ss s)])) := by
    intro b k e he h1 h2; rw [he, h1, h2]
  clear hW hW2 hbW hb2 hs2
  by_cases h0 : s.r = 0
  · have Hb : Hid (okG (cs.length : Nat) s = nextB ts cs ss s) := by show _ = _; simp [nextB, h0]
    have Hs : Hid (setG cs s = nextS ts cs ss s) := by show _ = _; simp [nextS, h0]
    have c0' := c0
    rw [h0] at c0'
    have hcon := given_step sa sc cs s W hcs hcw
    rw [h0] at hcon
    have Hcon := hide hcon
    have Hr := hide h0
    clear hcon h0
    go_enter Try.func74, Try.ntmps74
    go_upto_region 1 with fail
    rw [← hw3]
    clear hw3 c0
    go_wp2_with fail
    refine Hcon.out.mono ?_
    rintro e w' ⟨rfl, hb⟩
    replace r0 := cell_below hb r0
    replace r1 := cell_below hb r1
    replace f0 := frozen_below hb hsW f0
    replace f1 := frozen_below hb hsW f1
    have hb3 : Below w.heap.size w w' := hb0.trans (hb.mono (by omega))
    rw [Hb.out, Hs.out]
    clear p0 p1 c0' c1 c2 c3 c4 hb hb0 Hcon HS
    clear Hb Hs
    generalize hbb : nextB ts cs ss s = bb
    generalize hq : yes (nextS ts cs ss s) bb = q
    obtain ⟨q1, q2⟩ := q
    have Hbb := hide hbb
    have Hq := hide hq
    clear hbb hq
    go_wp2_with fail
    exact bodyPost_ret (v := .tuple #[.agg #[.int .u64 q1, .int .u64 q2], .bool bb]) (by simp [results, Try.results74, go_sem, set_same r0, set_other, r1]) rfl ⟨by rw [Hbb.out, Hq.out], (hb3.setCell (p := ⟨w.heap.size + 1 + 1, 0, none⟩) (by show _ ≤ _ + 1 + 1; omega) _).setCell (p := ⟨w.heap.size + 1 + 1, 1, none⟩) (by show _ ≤ _ + 1 + 1; omega) _⟩
  by_cases h1 : s.r = 1
  · have Hb : Hid (okR (ts.length : Nat) s = nextB ts cs ss s) := by show _ = _; simp [nextB, h1]
    have Hs : Hid (setR s = nextS ts cs ss s) := by show _ = _; simp [nextS, h1]
    have c0' := c0
    rw [h1] at c0'
    have hcon := refl_any (ts.length : Nat) s W (by omega)
    rw [h1] at hcon
    have Hcon := hide hcon
    have Hr := hide h1
    clear hcon h1 h0
    go_enter Try.func74, Try.ntmps74
    go_upto_region 1 with fail
    rw [← hw3]
    clear hw3 c0
    go_wp2_with fail
    refine Hcon.out.mono ?_
    rintro e w' ⟨rfl, hb⟩
    replace r0 := cell_below hb r0
    replace r1 := cell_below hb r1
    replace f0 := frozen_below hb hsW f0
    replace f1 := frozen_below hb hsW f1
    have hb3 : Below w.heap.size w w' := hb0.trans (hb.mono (by omega))
    rw [Hb.out, Hs.out]
    clear p0 p1 c0' c1 c2 c3 c4 hb hb0 Hcon HS
    clear Hb Hs
    generalize hbb : nextB ts cs ss s = bb
    generalize hq : yes (nextS ts cs ss s) bb = q
    obtain ⟨q1, q2⟩ := q
    have Hbb := hide hbb
    have Hq := hide hq
    clear hbb hq
    go_wp2_with fail
    exact bodyPost_ret (v := .tuple #[.agg #[.int .u64 q1, .int .u64 q2], .bool bb]) (by simp [results, Try.results74, go_sem, set_same r0, set_other, r1]) rfl ⟨by rw [Hbb.out, Hq.out], (hb3.setCell (p := ⟨w.heap.size + 1 + 1, 0, none⟩) (by show _ ≤ _ + 1 + 1; omega) _).setCell (p := ⟨w.heap.size + 1 + 1, 1, none⟩) (by show _ ≤ _ + 1 + 1; omega) _⟩
  by_cases h2 : s.r = 2
  · have Hb : Hid (okT (ts.length : Nat) s = nextB ts cs ss s) := by show _ = _; simp [nextB, h2]
    have Hs : Hid (setT s = nextS ts cs ss s) := by show _ = _; simp [nextS, h2]
    have c0' := c0
    rw [h2] at c0'
    have hcon := trans_any (ts.length : Nat) s W (by omega)
    rw [h2] at hcon
    have Hcon := hide hcon
    have Hr := hide h2
    clear hcon h2 h0 h1
    go_enter Try.func74, Try.ntmps74
    go_upto_region 1 with fail
    rw [← hw3]
    clear hw3 c0
    go_wp2_with fail
    refine Hcon.out.mono ?_
    rintro e w' ⟨rfl, hb⟩
    replace r0 := cell_below hb r0
    replace r1 := cell_below hb r1
    replace f0 := frozen_below hb hsW f0
    replace f1 := frozen_below hb hsW f1
    have hb3 : Below w.heap.size w w' := hb0.trans (hb.mono (by omega))
    rw [Hb.out, Hs.out]
    clear p0 p1 c0' c1 c2 c3 c4 hb hb0 Hcon HS
    clear Hb Hs
    generalize hbb : nextB ts cs ss s = bb
    generalize hq : yes (nextS ts cs ss s) bb = q
    obtain ⟨q1, q2⟩ := q
    have Hbb := hide hbb
    have Hq := hide hq
    clear hbb hq
    go_wp2_with fail
    exact bodyPost_ret (v := .tuple #[.agg #[.int .u64 q1, .int .u64 q2], .bool bb]) (by simp [results, Try.results74, go_sem, set_same r0, set_other, r1]) rfl ⟨by rw [Hbb.out, Hq.out], (hb3.setCell (p := ⟨w.heap.size + 1 + 1, 0, none⟩) (by show _ ≤ _ + 1 + 1; omega) _).setCell (p := ⟨w.heap.size + 1 + 1, 1, none⟩) (by show _ ≤ _ + 1 + 1; omega) _⟩
  by_cases h3 : s.r = 3
  · have Hb : Hid (okC ts s = nextB ts cs ss s) := by show _ = _; simp [nextB, h3]
    have Hs : Hid (setC ts s = nextS ts cs ss s) := by show _ = _; simp [nextS, h3]
    have c0' := c0
    rw [h3] at c0'
    have hcon := cong_any ta tc ts s W ht hts
    rw [h3] at hcon
    have Hcon := hide hcon
    have Hr := hide h3
    clear hcon h3 h0 h1 h2
    go_enter Try.func74, Try.ntmps74
    go_upto_region 1 with fail
    rw [← hw3]
    clear hw3 c0
    go_wp2_with fail
    refine Hcon.out.mono ?_
    rintro e w' ⟨rfl, hb⟩
    replace r0 := cell_below hb r0
    replace r1 := cell_below hb r1
    replace f0 := frozen_below hb hsW f0
    replace f1 := frozen_below hb hsW f1
    have hb3 : Below w.heap.size w w' := hb0.trans (hb.mono (by omega))
    rw [Hb.out, Hs.out]
    clear p0 p1 c0' c1 c2 c3 c4 hb hb0 Hcon HS
    clear Hb Hs
    generalize hbb : nextB ts cs ss s = bb
    generalize hq : yes (nextS ts cs ss s) bb = q
    obtain ⟨q1, q2⟩ := q
    have Hbb := hide hbb
    have Hq := hide hq
    clear hbb hq
    go_wp2_with fail
    exact bodyPost_ret (v := .tuple #[.agg #[.int .u64 q1, .int .u64 q2], .bool bb]) (by simp [results, Try.results74, go_sem, set_same r0, set_other, r1]) rfl ⟨by rw [Hbb.out, Hq.out], (hb3.setCell (p := ⟨w.heap.size + 1 + 1, 0, none⟩) (by show _ ≤ _ + 1 + 1; omega) _).setCell (p := ⟨w.heap.size + 1 + 1, 1, none⟩) (by show _ ≤ _ + 1 + 1; omega) _⟩
  by_cases h4 : s.r = 4
  · have Hb : Hid (okX (ts.length : Nat) ss s = nextB ts cs ss s) := by show _ = _; simp [nextB, h4]
    have Hs : Hid (setX ss s = nextS ts cs ss s) := by show _ = _; simp [nextS, h4]
    have c0' := c0
    rw [h4] at c0'
    have hcon := hX (ts.length : Nat) va vc ss s W (by omega) hss h64
    rw [h4] at hcon
    have Hcon := hide hcon
    have Hr := hide h4
    clear hcon h4 h0 h1 h2 h3
    go_enter Try.func74, Try.ntmps74
    go_upto_region 1 with fail
    rw [← hw3]
    clear hw3 c0
    go_wp2_with fail
    refine Hcon.out.mono ?_
    rintro e w' ⟨rfl, hb⟩
    replace r0 := cell_below hb r0
    replace r1 := cell_below hb r1
    replace f0 := frozen_below hb hsW f0
    replace f1 := frozen_below hb hsW f1
    have hb3 : Below w.heap.size w w' := hb0.trans (hb.mono (by omega))
    rw [Hb.out, Hs.out]
    clear p0 p1 c0' c1 c2 c3 c4 hb hb0 Hcon HS
    clear Hb Hs
    generalize hbb : nextB ts cs ss s = bb
    generalize hq : yes (nextS ts cs ss s) bb = q
    obtain ⟨q1, q2⟩ := q
    have Hbb := hide hbb
    have Hq := hide hq
    clear hbb hq
    go_wp2_with fail
    exact bodyPost_ret (v := .tuple #[.agg #[.int .u64 q1, .int .u64 q2], .bool bb]) (by simp [results, Try.results74, go_sem, set_same r0, set_other, r1]) rfl ⟨by rw [Hbb.out, Hq.out], (hb3.setCell (p := ⟨w.heap.size + 1 + 1, 0, none⟩) (by show _ ≤ _ + 1 + 1; omega) _).setCell (p := ⟨w.heap.size + 1 + 1, 1, none⟩) (by show _ ≤ _ + 1 + 1; omega) _⟩
  have Hb : Hid (false = nextB ts cs ss s) := by show _ = _; simp [nextB, h0, h1, h2, h3, h4]
  have n0 : (s.r == 0) = false := by simp [h0]
  have n1 : (s.r == 1) = false := by simp [h1]
  have n2 : (s.r == 2) = false := by simp [h2]
  have n3 : (s.r == 3) = false := by simp [h3]
  have n4 : (s.r == 4) = false := by simp [h4]
  clear h0 h1 h2 h3 h4
  go_enter Try.func74, Try.ntmps74
  go_upto_region 1 with fail
  rw [← hw3]
  clear hw3
  go_wp2_with fail
  exact bodyPost_ret (v := .tuple #[.agg #[.int .u64 0, .int .u64 0], .bool false]) (by simp [results, Try.results74, go_sem, r0, r1]) rfl ⟨by rw [← Hb.out, yes_no]; rfl, (hb0.setCell (p := ⟨w.heap.size + 1 + 1, 0, none⟩) (by show _ ≤ _ + 1 + 1; omega) _).setCell (p := ⟨w.heap.size + 1 + 1, 1, none⟩) (by show _ ≤ _ + 1 + 1; omega) _⟩
end Go.Proofs.Ytmampmbnjdncjaa
namespace Go.Proofs.Ytmampmbnjdncjaa
open Go.RowKit
theorem info_set : (Try.prog.info? 80).map (fun i => (i.zero, i.size, i.bytes)) = some (some (.agg #[.int .u64 0, .int .u64 0]), 2, 16) := by kernel_rfl
def seCells (p : Nat × Nat) : List Value := [.int .u64 p.1, .int .u64 p.2]
def ssCells (ss : List (Nat × Nat)) : List Value := ss.flatMap seCells
theorem ssCells_snoc (ss : List (Nat × Nat)) (p : Nat × Nat) : ssCells (ss ++ [p]) = ssCells ss ++ seCells p := by simp [ssCells]
theorem ssCells_get (ss : List (Nat × Nat)) : ∀ i, i < ss.length → (ssCells ss)[i * 2]? = some (.int .u64 (ss.getD i (0, 0)).1) ∧ (ssCells ss)[i * 2 + 1]? = some (.int .u64 (ss.getD i (0, 0)).2) := by
  induction ss with
  | nil => intro i hi; simp at hi
  | cons t ts ih =>
    intro i hi
    cases i with
    | zero => exact ⟨rfl, rfl⟩
    | succ i =>
      have h := ih i (by simpa using hi)
      have hc : ssCells (t :: ts) = .int .u64 t.1 :: .int .u64 t.2 :: ssCells ts := rfl
      rw [hc, show (i + 1) * 2 = i * 2 + 1 + 1 by omega]
      simpa using h
theorem setsAt_of_own {w : World} {base : Nat} {a : Option Addr} {cap : Nat} {ss : List (Nat × Nat)} (h : w.ownsRow base 80 2 (.slice a ss.length cap) ss.length (ssCells ss)) : SetsAt w a ss := by
  obtain ⟨h1, h2 | ⟨g, cap', cur, hv, hb, hg, hn, hm, hc, hx⟩⟩ := h
  · exact .inl (List.eq_nil_of_length_eq_zero h2.2)
  · injection hv with hv
    refine .inr ⟨g, 0, hv, fun i hi => ?_⟩
    have hc := ssCells_get ss i hi
    rw [← hx] at hc
    simp only [List.getElem?_take] at hc
    rw [if_pos (by omega), if_pos (by omega)] at hc
    refine ⟨?_, ?_⟩
    · rw [Nat.zero_add, cell_of_row w g _ cur 80 (0, 0) hg]; simpa using hc.1
    · rw [Nat.zero_add, cell_of_row w g _ cur 80 (0, 0) hg]; simpa using hc.2
theorem new_se (w : World) (p : Nat × Nat) (t : TypeId) : ∀ j u, (seCells p)[j]? = some u → (w.alloc (.cells #[.int .u64 p.1, .int .u64 p.2] t)).cell? ((⟨w.heap.size, 0, none⟩ : Addr).add j) = some u := by
  intro j u hj
  match j, hj with
  | 0, hj => simp [seCells] at hj; subst hj; simp [Addr.add]
  | 1, hj => simp [seCells] at hj; subst hj; simp [Addr.add]
  | j + 2, hj => simp [seCells] at hj
theorem seCells_one (p : Nat × Nat) : ∀ u ∈ seCells p, u.oneCell' = true := by
  intro u hu
  simp [seCells] at hu
  rcases hu with rfl | rfl <;> rfl
def lastS (ss : List (Nat × Nat)) : Nat × Nat := ss.getLastD (0, 0)
theorem lastS_snoc (ss : List (Nat × Nat)) (p : Nat × Nat) : lastS (ss ++ [p]) = p := by simp [lastS, List.getLastD_eq_getLast?]
def followL (ts : List Tm) (cs : List Cl) : List St → List (Nat × Nat) → List (Nat × Nat)
  | [], ss => ss
  | s :: l, ss => if nextB ts cs ss s then followL ts cs l (ss ++ [nextS ts cs ss s]) else ss
def st0 : St := ⟨0, 0, 0, 0, 0⟩
def StepsAt (w : World) (a : Option Addr) (sts : List St) : Prop :=
  sts = [] ∨ ∃ b o, a = some ⟨b, o, none⟩ ∧ ∀ i, i < sts.length → w.cell? ⟨b, o + i * 5, none⟩ = some (.int .i64 (sts.getD i st0).r) ∧ w.cell? ⟨b, o + i * 5 + 1, none⟩ = some (.int .i64 (sts.getD i st0).a) ∧
    w.cell? ⟨b, o + i * 5 + 2, none⟩ = some (.int .i64 (sts.getD i st0).b) ∧ w.cell? ⟨b, o + i * 5 + 3, none⟩ = some (.int .i64 (sts.getD i st0).c) ∧ w.cell? ⟨b, o + i * 5 + 4, none⟩ = some (.int .i64 (sts.getD i st0).d)
theorem StepsAt.below {w w' : World} {a : Option Addr} {sts : List St} (h : StepsAt w a sts) (hb : Below w.heap.size w w') : StepsAt w' a sts := by
  rcases h with h | ⟨b, o, rfl, h⟩
  · exact .inl h
  · exact .inr ⟨b, o, rfl, fun i hi => ⟨cell_below hb (h i hi).1, cell_below hb (h i hi).2.1, cell_below hb (h i hi).2.2.1, cell_below hb (h i hi).2.2.2.1, cell_below hb (h i hi).2.2.2.2⟩⟩
theorem StepsAt.get {w : World} {a : Option Addr} {sts : List St} (h : StepsAt w a sts) {i : Nat} (hi : i < sts.length) :
    ∃ b o, a = some ⟨b, o, none⟩ ∧ ∀ i, i < sts.length → w.cell? ⟨b, o + i * 5, none⟩ = some (.int .i64 (sts.getD i st0).r) ∧ w.cell? ⟨b, o + i * 5 + 1, none⟩ = some (.int .i64 (sts.getD i st0).a) ∧
    w.cell? ⟨b, o + i * 5 + 2, none⟩ = some (.int .i64 (sts.getD i st0).b) ∧ w.cell? ⟨b, o + i * 5 + 3, none⟩ = some (.int .i64 (sts.getD i st0).c) ∧ w.cell? ⟨b, o + i * 5 + 4, none⟩ = some (.int .i64 (sts.getD i st0).d) := by
  rcases h with h | h
  · subst h; simp at hi
  · exact h
def FW (w : World) (B : Nat) (p0 p1 v : Value) (ss : List (Nat × Nat)) (q : Nat × Nat) (W : World) : Prop :=
  W.cell? ⟨B, 0, none⟩ = some p0 ∧ W.cell? ⟨B, 1, none⟩ = some p1 ∧ W.cell? ⟨B + 1, 0, none⟩ = some (.int .u64 0) ∧ W.cell? ⟨B + 1, 1, none⟩ = some (.int .u64 0) ∧ W.frozen? ⟨B + 1, 0, none⟩ = false ∧ W.frozen? ⟨B + 1, 1, none⟩ = false ∧
  W.cell? ⟨B + 1 + 1, 0, none⟩ = some (.int .u64 q.1) ∧ W.cell? ⟨B + 1 + 1, 1, none⟩ = some (.int .u64 q.2) ∧ W.frozen? ⟨B + 1 + 1, 0, none⟩ = false ∧ W.frozen? ⟨B + 1 + 1, 1, none⟩ = false ∧
  W.ownsRow (B + 1 + 1 + 1) 80 2 v ss.length (ssCells ss) ∧ B + 1 + 1 + 1 ≤ W.heap.size ∧ Below B w W
theorem FW.below {w W W' : World} {B : Nat} {p0 p1 v : Value} {ss : List (Nat × Nat)} {q : Nat × Nat} (h : FW w B p0 p1 v ss q W) (hb : Below W.heap.size W W') : FW w B p0 p1 v ss q W' := by
  obtain ⟨h0, h1, h2, h3, h4, h5, h6, h7, h8, h9, h10, h11, h12⟩ := h
  exact ⟨cell_below hb h0, cell_below hb h1, cell_below hb h2, cell_below hb h3, frozen_below hb (by omega) h4, frozen_below hb (by omega) h5, cell_below hb h6, cell_below hb h7, frozen_below hb (by omega) h8, frozen_below hb (by omega) h9,
    own_below h10 hb, by have := hb.size; omega, h12.trans (hb.mono (by omega))⟩
theorem grown_frozen {w w' : World} {row : Option Nat} (hg : w.grownBy w' row) {b o : Nat} (hl : b < w.heap.size) (hne : some b ≠ row) (h : w.frozen? ⟨b, o, none⟩ = false) : w'.frozen? ⟨b, o, none⟩ = false := by
  rw [← h]; exact World.frozen?_of_block (w := w) (hg.block b hl hne)
theorem FW.append {w W W' : World} {B : Nat} {p0 p1 v v' : Value} {ss : List (Nat × Nat)} {q p : Nat × Nat} (h : FW w B p0 p1 v ss q W) (hg : W.grownBy W' v.ownBlock)
    (ho : W'.ownsRow (B + 1 + 1 + 1) 80 2 v' (ss.length + 1) (ssCells ss ++ seCells p)) : FW w B p0 p1 v' (ss ++ [p]) q W' := by
  obtain ⟨h0, h1, h2, h3, h4, h5, h6, h7, h8, h9, h10, h11, h12⟩ := h
  have hv : ∀ k, k < B + 1 + 1 + 1 → some k ≠ v.ownBlock := fun k hk e => by have := (h10.lt k e.symm).1; omega
  refine ⟨hg.cell h0 (hv B (by omega)), hg.cell h1 (hv B (by omega)), hg.cell h2 (hv (B + 1) (by omega)), hg.cell h3 (hv (B + 1) (by omega)), grown_frozen hg (by omega) (hv _ (by omega)) h4, grown_frozen hg (by omega) (hv _ (by omega)) h5,
    hg.cell h6 (hv (B + 1 + 1) (by omega)), hg.cell h7 (hv (B + 1 + 1) (by omega)), grown_frozen hg (by omega) (hv _ (by omega)) h8, grown_frozen hg (by omega) (hv _ (by omega)) h9, ?_, ?_, ?_⟩
  · rw [ssCells_snoc]; simpa using ho
  · have := hg.size; omega
  · exact h12.grown hg (by omega) (fun k hk => by have := (h10.lt k hk).1; omega)
theorem FW.store {w W : World} {B : Nat} {p0 p1 v : Value} {ss : List (Nat × Nat)} {q p : Nat × Nat} (h : FW w B p0 p1 v ss q W) :
    FW w B p0 p1 v ss p ((W.setCell ⟨B + 1 + 1, 0, none⟩ (.int .u64 p.1)).setCell ⟨B + 1 + 1, 1, none⟩ (.int .u64 p.2)) := by
  obtain ⟨h0, h1, h2, h3, h4, h5, h6, h7, h8, h9, h10, h11, h12⟩ := h
  exact ⟨set_other (by omega) (set_other (by omega) h0), set_other (by omega) (set_other (by omega) h1), set_other (by omega) (set_other (by omega) h2), set_other (by omega) (set_other (by omega) h3), set_frozen (set_frozen h4), set_frozen (set_frozen h5),
    set_other (by omega) (set_same h6), set_same (set_other (by omega) h7), set_frozen (set_frozen h8), set_frozen (set_frozen h9),
    own_setCell (own_setCell h10 (by show B + 1 + 1 < _; omega) _) (by show B + 1 + 1 < _; omega) _, by simpa using h11, (h12.setCell (p := ⟨B + 1 + 1, 0, none⟩) (by show B ≤ B + 1 + 1; omega) _).setCell (p := ⟨B + 1 + 1, 1, none⟩) (by show B ≤ B + 1 + 1; omega) _⟩
theorem lowL_of {n x y : Int} {b : Bool} (hn : n ≤ 9) (hx : belowB x n = true) (hy : belowB y n = true) : LowL 9 ⟨x, y, b⟩ := by
  simp [belowB] at hx hy
  exact ⟨hx.1, by show x < 9; omega, hy.1, by show y < 9; omega⟩
theorem congL_low {a b : Int} {xs ys : List Int} {k : Nat} (h : LowL 9 ⟨a, b, false⟩) (hx : ∀ i, i < k → 0 ≤ xs.getD i 0 ∧ xs.getD i 0 < 9) (hy : ∀ i, i < k → 0 ≤ ys.getD i 0 ∧ ys.getD i 0 < 9) : ∀ t ∈ congL a b xs ys k, LowL 9 t := by
  intro t ht
  simp only [congL, List.mem_cons, List.mem_map, List.mem_range] at ht
  rcases ht with rfl | ⟨i, hi, rfl⟩
  · exact h
  · exact ⟨(hx i hi).1, (hx i hi).2, (hy i hi).1, (hy i hi).2⟩
theorem next_lt {ts : List Tm} {cs : List Cl} {ss : List (Nat × Nat)} {s : St} (hts : termsB ts = true) (hcl : clausesB ts.length cs = true) (h64 : ∀ p ∈ ss, p.1 < 18446744073709551616 ∧ p.2 < 18446744073709551616) (h : nextB ts cs ss s = true) :
    (nextS ts cs ss s).1 < 18446744073709551616 ∧ (nextS ts cs ss s).2 < 18446744073709551616 := by
  have h9 : (ts.length : Int) ≤ 9 := by have := (len_of hts).2; omega
  unfold nextB at h
  unfold nextS
  split at h
  · rename_i h0
    rw [if_pos h0]
    simp only [okG, Bool.and_eq_true] at h
    have ha := allB_iff.1 h.1 0 (by simp)
    have ha' : belowB s.a (cs.length : Nat) = true := ha
    simp [belowB] at ha'
    exact ofL_lt _ _ (clow_of hts hcl s.a.toNat (by omega)).2 (by decide) (by decide)
  · rename_i h0
    rw [if_neg h0]
    split at h
    · rename_i h1
      rw [if_pos h1]
      simp only [okR, Bool.and_eq_true] at h
      have ha : belowB s.a (ts.length : Nat) = true := allB_iff.1 h.1 0 (by simp)
      exact ofL_lt _ _ (by intro t ht; simp at ht; rw [ht]; exact lowL_of h9 ha ha) (by decide) (by decide)
    · rename_i h1
      rw [if_neg h1]
      split at h
      · rename_i h2
        rw [if_pos h2]
        simp only [okT, Bool.and_eq_true] at h
        have ha : belowB s.a (ts.length : Nat) = true := allB_iff.1 h.1 0 (by simp)
        have hb : belowB s.b (ts.length : Nat) = true := allB_iff.1 h.1 1 (by simp)
        have hc : belowB s.c (ts.length : Nat) = true := allB_iff.1 h.1 2 (by simp)
        refine ofL_lt _ _ ?_ (by decide) (by decide)
        intro t ht
        simp at ht
        rcases ht with rfl | rfl | rfl
        · exact lowL_of h9 ha hb
        · exact lowL_of h9 hb hc
        · exact lowL_of h9 ha hc
      · rename_i h2
        rw [if_neg h2]
        split at h
        · rename_i h3
          rw [if_pos h3]
          simp only [okC, Bool.and_eq_true] at h
          have ha : belowB s.a (ts.length : Nat) = true := allB_iff.1 h.1.1 0 (by simp)
          have hb : belowB s.b (ts.length : Nat) = true := allB_iff.1 h.1.1 1 (by simp)
          have hal := h.2
          simp only [alikeB, Bool.and_eq_true, decide_eq_true_eq] at hal
          have ha' := ha
          have hb' := hb
          simp [belowB] at ha' hb'
          have ai := argsIn_of hts (Nat.le_refl _) s.a.toNat (by omega)
          have aj := argsIn_of hts (Nat.le_refl _) s.b.toNat (by omega)
          refine ofL_lt _ _ (congL_low (lowL_of h9 ha hb) (fun i hi => ?_) (fun i hi => ?_)) (by decide) (by decide)
          · have := ai.2 i hi; omega
          · have := aj.2 i (by rw [← hal.2]; exact hi); omega
        · rename_i h3
          rw [if_neg h3]
          split at h
          · simp only [okX, Bool.and_eq_true] at h
            have ha : belowB s.a (ss.length : Nat) = true := allB_iff.1 h.1.1.1 0 (by simp)
            have hb : belowB s.b (ss.length : Nat) = true := allB_iff.1 h.1.1.1 1 (by simp)
            simp [belowB] at ha hb
            have x := h64 _ (getD_memS (ls := ss) (k := s.a.toNat) (by omega))
            have y := h64 _ (getD_memS (ls := ss) (k := s.b.toNat) (by omega))
            have x' := wout_lt x.1 x.2 (t := ⟨s.c, s.d, false⟩)
            have y' := wout_lt y.1 y.2 (t := ⟨s.c, s.d, true⟩)
            exact ⟨Nat.or_lt_two_pow (n := 64) x'.1 y'.1, Nat.or_lt_two_pow (n := 64) x'.2 y'.2⟩
          · cases h
end Go.Proofs.Ytmampmbnjdncjaa
namespace Go.Proofs.Ytmampmbnjdncjaa
open Go.RowKit
theorem FW.new {w W2 W W' : World} {p0 p1 v : Value} (hb2 : Below w.heap.size w W2) (hs2 : W2.heap.size = w.heap.size + 1 + 1) (h0 : W2.cell? ⟨w.heap.size, 0, none⟩ = some p0) (h1 : W2.cell? ⟨w.heap.size, 1, none⟩ = some p1)
    (r0 : W2.cell? ⟨w.heap.size + 1, 0, none⟩ = some (.int .u64 0)) (r1 : W2.cell? ⟨w.heap.size + 1, 1, none⟩ = some (.int .u64 0)) (f0 : W2.frozen? ⟨w.heap.size + 1, 0, none⟩ = false) (f1 : W2.frozen? ⟨w.heap.size + 1, 1, none⟩ = false)
    (hW : W = W2.alloc (.cells #[.int .u64 0, .int .u64 0] 80)) (ho : W'.ownsRow (w.heap.size + 1 + 1 + 1) 80 2 v 0 []) (hg : W.grownBy W' none) : FW w w.heap.size p0 p1 v [] (0, 0) W' := by
  have hbW : Below W2.heap.size W2 W := by rw [hW]; exact below_alloc _ _
  have hsW : W.heap.size = w.heap.size + 1 + 1 + 1 := by rw [hW]; simp [hs2]
  have q0 : W.cell? ⟨w.heap.size + 1 + 1, 0, none⟩ = some (.int .u64 0) := by rw [hW, ← hs2]; simp
  have q1 : W.cell? ⟨w.heap.size + 1 + 1, 1, none⟩ = some (.int .u64 0) := by rw [hW, ← hs2]; simp
  have g0 : W.frozen? ⟨w.heap.size + 1 + 1, 0, none⟩ = false := by rw [hW, ← hs2]; simp
  have g1 : W.frozen? ⟨w.heap.size + 1 + 1, 1, none⟩ = false := by rw [hW, ← hs2]; simp
  have hbg : Below W.heap.size W W' := (Below.refl _ _).grown hg (Nat.le_refl _) (fun k hk => by cases hk)
  have hb3 := hbW.trans (hbg.mono hbW.size)
  exact ⟨cell_below hb3 h0, cell_below hb3 h1, cell_below hb3 r0, cell_below hb3 r1, frozen_below hb3 (by omega) f0, frozen_below hb3 (by omega) f1, cell_below hbg q0, cell_below hbg q1, frozen_below hbg (by omega) g0, frozen_below hbg (by omega) g1,
    ho, by have := hbg.size; omega, (hb2.trans (hbW.mono (by omega))).trans (hbg.mono (by omega))⟩
theorem take_drop_one {sts : List St} {k : Nat} (h : k < sts.length) : sts.drop k = sts.getD k st0 :: sts.drop (k + 1) := by
  rw [List.getD_eq_getElem?_getD, List.getElem?_eq_getElem h, Option.getD_some]; exact List.drop_eq_getElem_cons h
set_option maxRecDepth 100000 in
set_option maxHeartbeats 1000000 in
theorem followS_any (hX : CutHolds) (ta sa la : Option Addr) (tc sc lc : Nat) (ts : List Tm) (cs : List Cl) (sts : List St) (w : World) (ht : TermsAt w ta ts) (hcs : ClausesAt w sa cs) (hst : StepsAt w la sts)
    (hts : termsB ts = true) (hcl : clausesB ts.length cs = true) (hlen : sts.length ≤ 3518437208883) :
    Calls Try.prog 63 #[.agg #[.slice ta ts.length tc, .slice sa cs.length sc], .slice la sts.length lc] w fun e w' =>
      e = .returned (.tuple #[.agg #[.int .u64 (lastS (followL ts cs sts [])).1, .int .u64 (lastS (followL ts cs sts [])).2], .int .i64 (followL ts cs sts []).length]) ∧ Below w.heap.size w w' := by
  obtain ⟨i1, hi1, hy0, hy1, hy2⟩ := info_parts info_set
  obtain ⟨W2, hW2⟩ : ∃ W2, W2 = (w.alloc (.cells #[.slice ta ts.length tc, .slice sa cs.length sc] 33)).alloc (.cells #[.int .u64 0, .int .u64 0] 80) := ⟨_, rfl⟩
  have hs2 : W2.heap.size = w.heap.size + 1 + 1 := by rw [hW2]; simp
  have p0 : W2.cell? ⟨w.heap.size, 0, none⟩ = some (.slice ta ts.length tc) := by rw [hW2]; simp
  have p1 : W2.cell? ⟨w.heap.size, 1, none⟩ = some (.slice sa cs.length sc) := by rw [hW2]; simp
  have r0 : W2.cell? ⟨w.heap.size + 1, 0, none⟩ = some (.int .u64 0) := by rw [hW2]; simp
  have r1 : W2.cell? ⟨w.heap.size + 1, 1, none⟩ = some (.int .u64 0) := by rw [hW2]; simp
  have f0 : W2.frozen? ⟨w.heap.size + 1, 0, none⟩ = false := by rw [hW2]; simp
  have f1 : W2.frozen? ⟨w.heap.size + 1, 1, none⟩ = false := by rw [hW2]; simp
  have hb2 : Below w.heap.size w W2 := by rw [hW2]; exact ((Below.refl _ _).alloc (Nat.le_refl _) _).alloc (by simp) _
  obtain ⟨W, hW⟩ : ∃ W, W = W2.alloc (.cells #[.int .u64 0, .int .u64 0] 80) := ⟨_, rfl⟩
  have hsW : W.heap.size = w.heap.size + 1 + 1 + 1 := by rw [hW]; simp [hs2]
  have hw3 : W = ((w.alloc (.cells #[.slice ta ts.length tc, .slice sa cs.length sc] 33)).alloc (.cells #[.int .u64 0, .int .u64 0] 80)).alloc (.cells #[.int .u64 0, .int .u64 0] 80) := by rw [hW, hW2]
  have Hnew : Hid (∀ W' v, W'.ownsRow (w.heap.size + 1 + 1 + 1) 80 2 v 0 [] → W.grownBy W' none → FW w w.heap.size (.slice ta ts.length tc) (.slice sa cs.length sc) v [] (0, 0) W') := fun W' v ho hg => FW.new hb2 hs2 p0 p1 r0 r1 f0 f1 hW ho hg
  clear hs2 p0 p1 r0 r1 f0 f1 hb2 hW hW2
  go_enter Try.func63, Try.ntmps63
  go_upto_region 2 with fail
  rw [← hw3]
  clear hw3
  go_upto_region 3 with (at_make; refine wpList_make_own W rfl _ _ 114 rfl (w.heap.size + 1 + 1 + 1) 80 i1 (.agg #[.int .u64 0, .int .u64 0]) 2 Try.underlying114 hi1 hy0 hy1 _ _ _ sts.length rfl rfl rfl (by rw [hy2]; omega) (by unfold maxLen; omega) (by omega) ?_)
  intro W' ho hg
  have hF0 := Hnew.out W' _ ho hg
  clear hsW Hnew ho hg
  generalize hB : w.heap.size = B at *
  have HB := hide hB
  go_upto_block 0 with fail
  go_cut [7] (fun s7 wx => ∃ va vc ss, s7 = .slice va ss.length vc ∧ Hid (followL ts cs sts [] = ss) ∧ FW w B (.slice ta ts.length tc) (.slice sa cs.length sc) (.slice va ss.length vc) ss (lastS ss) wx)
  case first =>
    go_wp2_with fail
    go_loopg [7, 17] sts.length (fun g s7 s17 wr => ∃ (k : Nat) (va : Option Addr) (vc : Nat) (ss : List (Nat × Nat)), g = sts.length - k ∧ k ≤ sts.length ∧ s17 = .int .i64 k ∧ s7 = .slice va ss.length vc ∧ Hid (ss.length = k) ∧
      Hid (followL ts cs sts [] = followL ts cs (sts.drop k) ss) ∧ Hid (∀ p ∈ ss, p.1 < 18446744073709551616 ∧ p.2 < 18446744073709551616) ∧ FW w B (.slice ta ts.length tc) (.slice sa cs.length sc) (.slice va ss.length vc) ss (lastS ss) wr)
    case atStart => exact ⟨0, _, _, [], by omega, Nat.zero_le _, rfl, rfl, rfl, rfl, (fun p hp => by cases hp), hF0⟩
    case round =>
      obtain ⟨k, va, vc, ss, rfl, hk, rfl, rfl, Hl, Hf, H64, hF⟩ := hrel
      by_cases hlt : k < sts.length
      · have hbw : Below w.heap.size w wr := by rw [hB]; exact hF.2.2.2.2.2.2.2.2.2.2.2.2
        obtain ⟨lb, lo, rfl, lcell⟩ := (hst.below hbw).get hlt
        obtain ⟨l0, l1, l2, l3, l4⟩ := lcell k hlt
        have ht' := ht.below hbw
        have hcs' := hcs.below hbw
        have hss' := setsAt_of_own hF.2.2.2.2.2.2.2.2.2.2.1
        have Hd := hide (take_drop_one hlt)
        generalize hs : sts.getD k st0 = s at *
        obtain ⟨a0, hba⟩ : ∃ W3, W3 = wr.alloc (.cells #[.int .i64 s.r, .int .i64 s.a, .int .i64 s.b, .int .i64 s.c, .int .i64 s.d] 62) := ⟨_, rfl⟩
        have hbA : Below wr.heap.size wr a0 := by rw [hba]; exact below_alloc _ _
        have hcon := next_step hX ta sa va tc sc vc ts cs ss s a0 (ht'.below hbA) (hcs'.below hbA) (hss'.below hbA) H64.out hts hcl
        have Hcon := hide hcon
        have hFa := hF.below hbA
        have HF := hide hFa
        obtain ⟨c0, c1, _, _, _, _, _, _, _, _, _, hsz, _⟩ := id hF
        have z0 : B < wr.heap.size := by omega
        clear hcon lcell hs hbw ht' hcs' hss' hF hF0 hFa
        go_upto_region 6 with fail
        rw [← hba]
        have d0 := cell_below hbA c0
        have d1 := cell_below hbA c1
        have e0 : a0.cell? ⟨wr.heap.size, 0, none⟩ = some (.int .i64 s.r) := by rw [hba]; simp
        have e1 : a0.cell? ⟨wr.heap.size, 1, none⟩ = some (.int .i64 s.a) := by rw [hba]; simp
        have e2 : a0.cell? ⟨wr.heap.size, 2, none⟩ = some (.int .i64 s.b) := by rw [hba]; simp
        have e3 : a0.cell? ⟨wr.heap.size, 3, none⟩ = some (.int .i64 s.c) := by rw [hba]; simp
        have e4 : a0.cell? ⟨wr.heap.size, 4, none⟩ = some (.int .i64 s.d) := by rw [hba]; simp
        clear hba c0 c1 l0 l1 l2 l3 l4 hbA
        go_wp2_with fail
        refine Hcon.out.mono ?_
        rintro e w4 ⟨rfl, hb4⟩
        have hF4 := HF.out.below hb4
        have Hlt : Hid (nextB ts cs ss s = true → (nextS ts cs ss s).1 < 18446744073709551616 ∧ (nextS ts cs ss s).2 < 18446744073709551616) := next_lt hts hcl H64.out
        clear Hcon HF hb4 d0 d1 e0 e1 e2 e3 e4 hsz z0
        generalize hbb : nextB ts cs ss s = bb
        have Hbb := hide hbb
        clear hbb
        cases bb
        · rw [yes_no]
          have Hfin : Hid (followL ts cs sts [] = ss) := by show _ = _; rw [Hf.out, Hd.out, followL, Hbb.out]; rfl
          have hF5 := hF4.below (below_alloc w4 (.cells #[.int .u64 0, .int .u64 0] 80))
          go_wp2_with fail
          go_meet
          exact ⟨va, vc, ss, rfl, Hfin, hF5⟩
        · rw [yes_yes]
          have Hst : Hid (followL ts cs sts [] = followL ts cs (sts.drop (k + 1)) (ss ++ [nextS ts cs ss s])) := by show _ = _; rw [Hf.out, Hd.out, followL, Hbb.out]; rfl
          have Hlt' := hide (Hlt.out Hbb.out)
          generalize nextS ts cs ss s = q at *
          obtain ⟨w5, hw5⟩ : ∃ w5, w5 = w4.alloc (.cells #[.int .u64 q.1, .int .u64 q.2] 80) := ⟨_, rfl⟩
          have hb5 : Below w4.heap.size w4 w5 := by rw [hw5]; exact below_alloc _ _
          have n0 : w5.cell? ⟨w4.heap.size, 0, none⟩ = some (.int .u64 q.1) := by rw [hw5]; simp
          have n1 : w5.cell? ⟨w4.heap.size, 1, none⟩ = some (.int .u64 q.2) := by rw [hw5]; simp
          have hF5 := hF4.below hb5
          have hF6 := hF5.below (below_alloc w5 (.cells #[.int .u64 q.1, .int .u64 q.2] 80))
          have hne : ∀ j, (Value.slice va ss.length vc).ownBlock = some j → j < w4.heap.size := fun j hj => (hF4.2.2.2.2.2.2.2.2.2.2.1.lt j hj).2
          have hl : ss.length ≤ k := Nat.le_of_eq Hl.out
          go_upto_region 8 with fail
          rw [← hw5]
          clear hw5 hF4 hF5 hb5
          have hown6 := hF6.2.2.2.2.2.2.2.2.2.2.1
          have hsz6 := hF6.2.2.2.2.2.2.2.2.2.2.2.1
          have HF6 := hide hF6
          clear hF6
          go_upto_region 9 with (at_builtin; refine wpList_append_own _ rfl (.tmp 30) (.tmp 32) 114 rfl (B + 1 + 1 + 1) 80 i1 (.agg #[.int .u64 0, .int .u64 0]) 2 16 Try.underlying114 hi1 hy0 hy1 hy2 rfl (by decide) (.slice va ss.length vc) ss.length (ssCells ss) rfl hown6 ⟨w5.heap.size, 0, none⟩ 1 1 (seCells q) rfl rfl (new_se w5 q 80) (seCells_one _) (by unfold maxLen; omega) (by omega) (by omega) ?_)
          intro qv w7 hown7 hgr7 hz7
          clear hz7
          have hF7 := HF6.out.append hgr7 hown7
          have m0 : w7.cell? ⟨w4.heap.size, 0, none⟩ = some (.int .u64 q.1) := hgr7.cell (cell_below (below_alloc w5 _) n0) (fun e => absurd (hne _ e.symm) (Nat.lt_irrefl _))
          have m1 : w7.cell? ⟨w4.heap.size, 1, none⟩ = some (.int .u64 q.2) := hgr7.cell (cell_below (below_alloc w5 _) n1) (fun e => absurd (hne _ e.symm) (Nat.lt_irrefl _))
          obtain ⟨va', vc', hqv⟩ := own_val hown7
          subst hqv
          have Hl7 : Hid ((ss ++ [q]).length = k + 1) := by show _ = _; simp [Hl.out]
          have hF8 := hF7.store (p := q)
          obtain ⟨_, _, _, _, _, _, t0, t1, t2, t3, _, _, _⟩ := id hF7
          have HF8 := hide hF8
          clear hF7 hF8 hown6 hown7 hgr7 hne n0 n1 HF6 hsz6
          go_wp2_with fail
          go_roundg (sts.length - (k + 1))
          case measure => omega
          case rel =>
            refine ⟨k + 1, va', vc', ss ++ [q], rfl, by omega, by go_num, ?_, Hl7, Hst, ?_, ?_⟩
            · simp
            · intro p hp
              rcases List.mem_append.1 hp with h | h
              · exact H64.out p h
              · simp at h; rw [h]; exact Hlt'.out
            · rw [lastS_snoc]
              have := HF8.out
              simpa using this
      · have Hfin : Hid (followL ts cs sts [] = ss) := by show _ = _; rw [Hf.out, List.drop_of_length_le (by omega)]; rfl
        go_wp2_with fail
        go_meet
        exact ⟨va, vc, ss, rfl, Hfin, hF⟩
  case rest =>
    obtain ⟨va, vc, ss, rfl, Hfin, hF⟩ := hcut
    obtain ⟨c0, c1, r0, r1, f0, f1, t0, t1, t2, t3, _, hsz, hbw⟩ := id hF
    generalize hq : lastS ss = q at *
    obtain ⟨q1, q2⟩ := q
    have Hq := hide hq
    clear hq
    go_wp2_with fail
    exact bodyPost_ret (v := .tuple #[.agg #[.int .u64 q1, .int .u64 q2], .int .i64 ss.length]) (by simp [results, Try.results63, go_sem, set_same r0, set_other, r1]) rfl
      ⟨by rw [Hfin.out, Hq.out], by exact (hbw.setCell (p := ⟨B + 1, 0, none⟩) (by show B ≤ B + 1; omega) _).setCell (p := ⟨B + 1, 1, none⟩) (by show B ≤ B + 1; omega) _⟩
end Go.Proofs.Ytmampmbnjdncjaa
