import Derived.Test.YtjebhhoibofmfaaMLt
import Derived.Test.YtjebhhoibofmfaaXLtK
namespace Go.Proofs.Ytjebhhoibofmfaa
open Go.RowKit

/-- What steps.cut keeps (cut_any). -/
def CutHolds : Prop := ∀ (n : Int) (sa : Option Addr) (sc : Nat) (ss : List (Nat × Nat)) (s : St) (w : World), n ≤ 9 → SetsAt w sa ss → (∀ p ∈ ss, p.1 < 18446744073709551616 ∧ p.2 < 18446744073709551616) →
    Calls Try.prog 106 #[.int .i64 n, .slice sa ss.length sc, .agg #[.int .i64 s.r, .int .i64 s.a, .int .i64 s.b, .int .i64 s.c, .int .i64 s.d]] w fun e w' =>
      e = .returned (.tuple #[.agg #[.int .u64 (yes (setX ss s) (okX n ss s)).1, .int .u64 (yes (setX ss s) (okX n ss s)).2], .bool (okX n ss s)]) ∧ Below w.heap.size w w'

def nextB (ts : List Tm) (cs : List Cl) (ss : List (Nat × Nat)) (s : St) : Bool :=
  if s.r = 0 then okG (cs.length : Nat) s else if s.r = 1 then okR (ts.length : Nat) s else if s.r = 2 then okT (ts.length : Nat) s else if s.r = 3 then okC ts s else if s.r = 4 then okX (ts.length : Nat) ss s else false
def nextS (ts : List Tm) (cs : List Cl) (ss : List (Nat × Nat)) (s : St) : Nat × Nat :=
  if s.r = 0 then setG cs s else if s.r = 1 then setR s else if s.r = 2 then setT s else if s.r = 3 then setC ts s else setX ss s

theorem clow_of {ts : List Tm} {cs : List Cl} (hts : termsB ts = true) (h : clausesB ts.length cs = true) : ∀ i, i < cs.length → (cs.getD i cl0).ls.length ≤ 6 ∧ ∀ t ∈ (cs.getD i cl0).ls, LowL 9 t := by
  intro i hi
  have h1 := (clausesIn_of h).2 i hi
  have h9 := (len_of hts).2
  refine ⟨h1.1, fun t ht => ?_⟩
  obtain ⟨k, hk, e⟩ := List.getElem_of_mem ht
  have h2 := h1.2 k hk
  rw [List.getD_eq_getElem?_getD, List.getElem?_eq_getElem hk, Option.getD_some, e] at h2
  exact ⟨h2.1.1, by have := h2.1.2; omega, h2.2.1, by have := h2.2.2; omega⟩

def sv (s : St) : Value := .agg #[.int .i64 s.r, .int .i64 s.a, .int .i64 s.b, .int .i64 s.c, .int .i64 s.d]

set_option maxRecDepth 100000 in
set_option maxHeartbeats 1000000 in
theorem next_step (hX : CutHolds) (ta sa va : Option Addr) (tc sc vc : Nat) (ts : List Tm) (cs : List Cl) (ss : List (Nat × Nat)) (s : St) (w : World) (ht : TermsAt w ta ts) (hcs : ClausesAt w sa cs) (hss : SetsAt w va ss)
    (h64 : ∀ p ∈ ss, p.1 < 18446744073709551616 ∧ p.2 < 18446744073709551616) (hts : termsB ts = true) (hcl : clausesB ts.length cs = true) :
    Calls Try.prog 80 #[.agg #[.slice ta ts.length tc, .slice sa cs.length sc], .slice va ss.length vc, .agg #[.int .i64 s.r, .int .i64 s.a, .int .i64 s.b, .int .i64 s.c, .int .i64 s.d]] w fun e w' =>
      e = .returned (.tuple #[.agg #[.int .u64 (yes (nextS ts cs ss s) (nextB ts cs ss s)).1, .int .u64 (yes (nextS ts cs ss s) (nextB ts cs ss s)).2], .bool (nextB ts cs ss s)]) ∧ Below w.heap.size w w' := by
  have h9 := (len_of hts).2
  have hcw := clow_of hts hcl
  obtain ⟨W2, hW2⟩ : ∃ W2, W2 = (w.alloc (.cells #[.slice ta ts.length tc, .slice sa cs.length sc] 33)).alloc (.cells #[.int .i64 s.r, .int .i64 s.a, .int .i64 s.b, .int .i64 s.c, .int .i64 s.d] 62) := ⟨_, rfl⟩
  have hs2 : W2.heap.size = w.heap.size + 1 + 1 := by rw [hW2]; simp
  have p0 : W2.cell? ⟨w.heap.size, 0, none⟩ = some (.slice ta ts.length tc) := by rw [hW2]; simp
  have p1 : W2.cell? ⟨w.heap.size, 1, none⟩ = some (.slice sa cs.length sc) := by rw [hW2]; simp
  have c0 : W2.cell? ⟨w.heap.size + 1, 0, none⟩ = some (.int .i64 s.r) := by rw [hW2]; simp
  have c1 : W2.cell? ⟨w.heap.size + 1, 1, none⟩ = some (.int .i64 s.a) := by rw [hW2]; simp
  have c2 : W2.cell? ⟨w.heap.size + 1, 2, none⟩ = some (.int .i64 s.b) := by rw [hW2]; simp
  have c3 : W2.cell? ⟨w.heap.size + 1, 3, none⟩ = some (.int .i64 s.c) := by rw [hW2]; simp
  have c4 : W2.cell? ⟨w.heap.size + 1, 4, none⟩ = some (.int .i64 s.d) := by rw [hW2]; simp
  have hb2 : Below w.heap.size w W2 := by rw [hW2]; exact ((Below.refl _ _).alloc (Nat.le_refl _) _).alloc (by simp) _
  obtain ⟨W, hW⟩ : ∃ W, W = W2.alloc (.cells #[.int .u64 0, .int .u64 0] 84) := ⟨_, rfl⟩
  have hbW : Below W2.heap.size W2 W := by rw [hW]; exact below_alloc _ _
  replace p0 := cell_below hbW p0
  replace p1 := cell_below hbW p1
  replace c0 := cell_below hbW c0
  replace c1 := cell_below hbW c1
  replace c2 := cell_below hbW c2
  replace c3 := cell_below hbW c3
  replace c4 := cell_below hbW c4
  have r0 : W.cell? ⟨w.heap.size + 1 + 1, 0, none⟩ = some (.int .u64 0) := by rw [hW, ← hs2]; simp
  have r1 : W.cell? ⟨w.heap.size + 1 + 1, 1, none⟩ = some (.int .u64 0) := by rw [hW, ← hs2]; simp
  have f0 : W.frozen? ⟨w.heap.size + 1 + 1, 0, none⟩ = false := by rw [hW, ← hs2]; simp
  have f1 : W.frozen? ⟨w.heap.size + 1 + 1, 1, none⟩ = false := by rw [hW, ← hs2]; simp
  have hsW : w.heap.size + 1 + 1 < W.heap.size := by rw [hW, ← hs2]; simp
  have hb0 : Below w.heap.size w W := hb2.trans (hbW.mono (by omega))
  have hw3 : W = ((w.alloc (.cells #[.slice ta ts.length tc, .slice sa cs.length sc] 33)).alloc (.cells #[.int .i64 s.r, .int .i64 s.a, .int .i64 s.b, .int .i64 s.c, .int .i64 s.d] 62)).alloc (.cells #[.int .u64 0, .int .u64 0] 84) := by rw [hW, hW2]
  replace ht := ht.below hb0
  replace hcs := hcs.below hb0
  replace hss := hss.below hb0
  have HS : Hid (∀ b : Nat × Nat, ∀ k : Bool, ∀ e, e = Ending.returned (.tuple #[.agg #[.int .u64 (yes b k).1, .int .u64 (yes b k).2], .bool k]) → b = nextS ts cs ss s → k = nextB ts cs ss s → e = .returned (.tuple #[.agg #[.int .u64 (yes (nextS ts cs ss s) (nextB ts cs ss s)).1, .int .u64 (yes (nextS ts cs ss s) (nextB ts cs ss s)).2], .bool (nextB ts cs ss s)])) := by
    intro b k e he h1 h2; rw [he, h1, h2]
  clear hW hW2 hbW hb2 hs2
  by_cases h0 : s.r = 0
  · have Hb : Hid (okG (cs.length : Nat) s = nextB ts cs ss s) := by show _ = _; simp [nextB, h0]
    have Hs : Hid (setG cs s = nextS ts cs ss s) := by show _ = _; simp [nextS, h0]
    have c0' := c0
    rw [h0] at c0'
    have hcon := given_step sa sc cs s W hcs hcw
    rw [h0] at hcon
    have Hcon := hide hcon
    have Hr := hide h0
    clear hcon h0
    go_enter Try.func80, Try.ntmps80
    go_upto_region 1 with fail
    rw [← hw3]
    clear hw3 c0
    go_wp2_with fail
    refine Hcon.out.mono ?_
    rintro e w' ⟨rfl, hb⟩
    replace r0 := cell_below hb r0
    replace r1 := cell_below hb r1
    replace f0 := frozen_below hb hsW f0
    replace f1 := frozen_below hb hsW f1
    have hb3 : Below w.heap.size w w' := hb0.trans (hb.mono (by omega))
    rw [Hb.out, Hs.out]
    clear p0 p1 c0' c1 c2 c3 c4 hb hb0 Hcon HS
    clear Hb Hs
    generalize hbb : nextB ts cs ss s = bb
    generalize hq : yes (nextS ts cs ss s) bb = q
    obtain ⟨q1, q2⟩ := q
    have Hbb := hide hbb
    have Hq := hide hq
    clear hbb hq
    go_wp2_with fail
    exact bodyPost_ret (v := .tuple #[.agg #[.int .u64 q1, .int .u64 q2], .bool bb]) (by simp [results, Try.results80, go_sem, set_same r0, set_other, r1]) rfl ⟨by rw [Hbb.out, Hq.out], (hb3.setCell (p := ⟨w.heap.size + 1 + 1, 0, none⟩) (by show _ ≤ _ + 1 + 1; omega) _).setCell (p := ⟨w.heap.size + 1 + 1, 1, none⟩) (by show _ ≤ _ + 1 + 1; omega) _⟩
  by_cases h1 : s.r = 1
  · have Hb : Hid (okR (ts.length : Nat) s = nextB ts cs ss s) := by show _ = _; simp [nextB, h1]
    have Hs : Hid (setR s = nextS ts cs ss s) := by show _ = _; simp [nextS, h1]
    have c0' := c0
    rw [h1] at c0'
    have hcon := refl_any (ts.length : Nat) s W (by omega)
    rw [h1] at hcon
    have Hcon := hide hcon
    have Hr := hide h1
    clear hcon h1 h0
    go_enter Try.func80, Try.ntmps80
    go_upto_region 1 with fail
    rw [← hw3]
    clear hw3 c0
    go_wp2_with fail
    refine Hcon.out.mono ?_
    rintro e w' ⟨rfl, hb⟩
    replace r0 := cell_below hb r0
    replace r1 := cell_below hb r1
    replace f0 := frozen_below hb hsW f0
    replace f1 := frozen_below hb hsW f1
    have hb3 : Below w.heap.size w w' := hb0.trans (hb.mono (by omega))
    rw [Hb.out, Hs.out]
    clear p0 p1 c0' c1 c2 c3 c4 hb hb0 Hcon HS
    clear Hb Hs
    generalize hbb : nextB ts cs ss s = bb
    generalize hq : yes (nextS ts cs ss s) bb = q
    obtain ⟨q1, q2⟩ := q
    have Hbb := hide hbb
    have Hq := hide hq
    clear hbb hq
    go_wp2_with fail
    exact bodyPost_ret (v := .tuple #[.agg #[.int .u64 q1, .int .u64 q2], .bool bb]) (by simp [results, Try.results80, go_sem, set_same r0, set_other, r1]) rfl ⟨by rw [Hbb.out, Hq.out], (hb3.setCell (p := ⟨w.heap.size + 1 + 1, 0, none⟩) (by show _ ≤ _ + 1 + 1; omega) _).setCell (p := ⟨w.heap.size + 1 + 1, 1, none⟩) (by show _ ≤ _ + 1 + 1; omega) _⟩
  by_cases h2 : s.r = 2
  · have Hb : Hid (okT (ts.length : Nat) s = nextB ts cs ss s) := by show _ = _; simp [nextB, h2]
    have Hs : Hid (setT s = nextS ts cs ss s) := by show _ = _; simp [nextS, h2]
    have c0' := c0
    rw [h2] at c0'
    have hcon := trans_any (ts.length : Nat) s W (by omega)
    rw [h2] at hcon
    have Hcon := hide hcon
    have Hr := hide h2
    clear hcon h2 h0 h1
    go_enter Try.func80, Try.ntmps80
    go_upto_region 1 with fail
    rw [← hw3]
    clear hw3 c0
    go_wp2_with fail
    refine Hcon.out.mono ?_
    rintro e w' ⟨rfl, hb⟩
    replace r0 := cell_below hb r0
    replace r1 := cell_below hb r1
    replace f0 := frozen_below hb hsW f0
    replace f1 := frozen_below hb hsW f1
    have hb3 : Below w.heap.size w w' := hb0.trans (hb.mono (by omega))
    rw [Hb.out, Hs.out]
    clear p0 p1 c0' c1 c2 c3 c4 hb hb0 Hcon HS
    clear Hb Hs
    generalize hbb : nextB ts cs ss s = bb
    generalize hq : yes (nextS ts cs ss s) bb = q
    obtain ⟨q1, q2⟩ := q
    have Hbb := hide hbb
    have Hq := hide hq
    clear hbb hq
    go_wp2_with fail
    exact bodyPost_ret (v := .tuple #[.agg #[.int .u64 q1, .int .u64 q2], .bool bb]) (by simp [results, Try.results80, go_sem, set_same r0, set_other, r1]) rfl ⟨by rw [Hbb.out, Hq.out], (hb3.setCell (p := ⟨w.heap.size + 1 + 1, 0, none⟩) (by show _ ≤ _ + 1 + 1; omega) _).setCell (p := ⟨w.heap.size + 1 + 1, 1, none⟩) (by show _ ≤ _ + 1 + 1; omega) _⟩
  by_cases h3 : s.r = 3
  · have Hb : Hid (okC ts s = nextB ts cs ss s) := by show _ = _; simp [nextB, h3]
    have Hs : Hid (setC ts s = nextS ts cs ss s) := by show _ = _; simp [nextS, h3]
    have c0' := c0
    rw [h3] at c0'
    have hcon := cong_any ta tc ts s W ht hts
    rw [h3] at hcon
    have Hcon := hide hcon
    have Hr := hide h3
    clear hcon h3 h0 h1 h2
    go_enter Try.func80, Try.ntmps80
    go_upto_region 1 with fail
    rw [← hw3]
    clear hw3 c0
    go_wp2_with fail
    refine Hcon.out.mono ?_
    rintro e w' ⟨rfl, hb⟩
    replace r0 := cell_below hb r0
    replace r1 := cell_below hb r1
    replace f0 := frozen_below hb hsW f0
    replace f1 := frozen_below hb hsW f1
    have hb3 : Below w.heap.size w w' := hb0.trans (hb.mono (by omega))
    rw [Hb.out, Hs.out]
    clear p0 p1 c0' c1 c2 c3 c4 hb hb0 Hcon HS
    clear Hb Hs
    generalize hbb : nextB ts cs ss s = bb
    generalize hq : yes (nextS ts cs ss s) bb = q
    obtain ⟨q1, q2⟩ := q
    have Hbb := hide hbb
    have Hq := hide hq
    clear hbb hq
    go_wp2_with fail
    exact bodyPost_ret (v := .tuple #[.agg #[.int .u64 q1, .int .u64 q2], .bool bb]) (by simp [results, Try.results80, go_sem, set_same r0, set_other, r1]) rfl ⟨by rw [Hbb.out, Hq.out], (hb3.setCell (p := ⟨w.heap.size + 1 + 1, 0, none⟩) (by show _ ≤ _ + 1 + 1; omega) _).setCell (p := ⟨w.heap.size + 1 + 1, 1, none⟩) (by show _ ≤ _ + 1 + 1; omega) _⟩
  by_cases h4 : s.r = 4
  · have Hb : Hid (okX (ts.length : Nat) ss s = nextB ts cs ss s) := by show _ = _; simp [nextB, h4]
    have Hs : Hid (setX ss s = nextS ts cs ss s) := by show _ = _; simp [nextS, h4]
    have c0' := c0
    rw [h4] at c0'
    have hcon := hX (ts.length : Nat) va vc ss s W (by omega) hss h64
    rw [h4] at hcon
    have Hcon := hide hcon
    have Hr := hide h4
    clear hcon h4 h0 h1 h2 h3
    go_enter Try.func80, Try.ntmps80
    go_upto_region 1 with fail
    rw [← hw3]
    clear hw3 c0
    go_wp2_with fail
    refine Hcon.out.mono ?_
    rintro e w' ⟨rfl, hb⟩
    replace r0 := cell_below hb r0
    replace r1 := cell_below hb r1
    replace f0 := frozen_below hb hsW f0
    replace f1 := frozen_below hb hsW f1
    have hb3 : Below w.heap.size w w' := hb0.trans (hb.mono (by omega))
    rw [Hb.out, Hs.out]
    clear p0 p1 c0' c1 c2 c3 c4 hb hb0 Hcon HS
    clear Hb Hs
    generalize hbb : nextB ts cs ss s = bb
    generalize hq : yes (nextS ts cs ss s) bb = q
    obtain ⟨q1, q2⟩ := q
    have Hbb := hide hbb
    have Hq := hide hq
    clear hbb hq
    go_wp2_with fail
    exact bodyPost_ret (v := .tuple #[.agg #[.int .u64 q1, .int .u64 q2], .bool bb]) (by simp [results, Try.results80, go_sem, set_same r0, set_other, r1]) rfl ⟨by rw [Hbb.out, Hq.out], (hb3.setCell (p := ⟨w.heap.size + 1 + 1, 0, none⟩) (by show _ ≤ _ + 1 + 1; omega) _).setCell (p := ⟨w.heap.size + 1 + 1, 1, none⟩) (by show _ ≤ _ + 1 + 1; omega) _⟩
  have Hb : Hid (false = nextB ts cs ss s) := by show _ = _; simp [nextB, h0, h1, h2, h3, h4]
  have n0 : (s.r == 0) = false := by simp [h0]
  have n1 : (s.r == 1) = false := by simp [h1]
  have n2 : (s.r == 2) = false := by simp [h2]
  have n3 : (s.r == 3) = false := by simp [h3]
  have n4 : (s.r == 4) = false := by simp [h4]
  clear h0 h1 h2 h3 h4
  go_enter Try.func80, Try.ntmps80
  go_upto_region 1 with fail
  rw [← hw3]
  clear hw3
  go_wp2_with fail
  exact bodyPost_ret (v := .tuple #[.agg #[.int .u64 0, .int .u64 0], .bool false]) (by simp [results, Try.results80, go_sem, r0, r1]) rfl ⟨by rw [← Hb.out, yes_no]; rfl, (hb0.setCell (p := ⟨w.heap.size + 1 + 1, 0, none⟩) (by show _ ≤ _ + 1 + 1; omega) _).setCell (p := ⟨w.heap.size + 1 + 1, 1, none⟩) (by show _ ≤ _ + 1 + 1; omega) _⟩
end Go.Proofs.Ytjebhhoibofmfaa
