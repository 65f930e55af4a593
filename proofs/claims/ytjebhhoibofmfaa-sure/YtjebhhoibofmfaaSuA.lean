import Derived.Test.YtjebhhoibofmfaaLtT
import Derived.Test.YtjebhhoibofmfaaKpG
namespace Go.Proofs.Ytjebhhoibofmfaa
open Go.RowKit

/-- All that right steps give speaks of the terms alone, and holds with sound classes with which the problem holds. -/
theorem follow_sure {ts : List Tm} {cs : List Cl} (hts : termsB ts = true) (hcl : clausesB ts.length cs = true) : ∀ (sts : List St) (ss : List (Nat × Nat)), (∀ p ∈ ss, SLow (ts.length : Nat) p) →
    (∀ c : List Int, soundB ts c = true → allHoldB c cs = true → ∀ p ∈ ss, SHolds (ts.length : Nat) c p) →
    ∀ p ∈ followL ts cs sts ss, SLow (ts.length : Nat) p ∧ ∀ c : List Int, soundB ts c = true → allHoldB c cs = true → SHolds (ts.length : Nat) c p
  | [], _, h1, h2 => fun p hp => ⟨h1 p hp, fun c hs hh => h2 c hs hh p hp⟩
  | s :: l, ss, h1, h2 => by
    unfold followL
    split
    · rename_i hn
      have hx := next_sure hts hcl h1 hn
      refine follow_sure hts hcl l _ ?_ ?_
      · intro p hp
        rcases List.mem_append.1 hp with h | h
        · exact h1 p h
        · simp at h; rw [h]; exact hx.1
      · intro c hs hh p hp
        rcases List.mem_append.1 hp with h | h
        · exact h2 c hs hh p h
        · simp at h; rw [h]; exact hx.2 c hs hh (h2 c hs hh)
    · exact fun p hp => ⟨h1 p hp, fun c hs hh => h2 c hs hh p hp⟩

theorem mem_rowL (l : Nat) (t : Lt) : ∀ k, t ∈ rowL l k ↔ ∃ j b, j < k ∧ t = ⟨(l : Nat), ((l + j : Nat) : Int), b⟩
  | 0 => by simp [rowL]
  | k + 1 => by
    rw [rowL, List.mem_append, mem_rowL l t k]
    constructor
    · rintro (⟨j, b, hj, e⟩ | h)
      · exact ⟨j, b, by omega, e⟩
      · simp [pairL] at h
        rcases h with h | h
        · exact ⟨k, false, by omega, by rw [h]; simp⟩
        · exact ⟨k, true, by omega, by rw [h]; simp⟩
    · rintro ⟨j, b, hj, e⟩
      by_cases hjk : j = k
      · subst hjk
        refine .inr ?_
        cases b <;> simp [pairL, e]
      · exact .inl ⟨j, b, by omega, e⟩
theorem mem_allL (t : Lt) : ∀ n, t ∈ allL n ↔ ∃ l, l < n ∧ t ∈ rowL l (9 - l)
  | 0 => by simp [allL]
  | n + 1 => by
    rw [allL, List.mem_append, mem_allL t n]
    constructor
    · rintro (⟨l, hl, h⟩ | h)
      · exact ⟨l, by omega, h⟩
      · exact ⟨n, by omega, h⟩
    · rintro ⟨l, hl, h⟩
      by_cases hln : l = n
      · subst hln; exact .inr h
      · exact .inl ⟨l, by omega, h⟩
theorem mem_all9 {t : Lt} : t ∈ allL 9 ↔ 0 ≤ t.x ∧ t.x ≤ t.y ∧ t.y < 9 := by
  rw [mem_allL]
  constructor
  · rintro ⟨l, hl, h⟩
    obtain ⟨j, b, hj, e⟩ := (mem_rowL l t _).1 h
    rw [e]
    refine ⟨?_, ?_, ?_⟩
    · show (0 : Int) ≤ (l : Int); omega
    · show (l : Int) ≤ ((l + j : Nat) : Int); omega
    · show ((l + j : Nat) : Int) < 9; omega
  · rintro ⟨h0, h1, h2⟩
    refine ⟨t.x.toNat, by omega, (mem_rowL _ t _).2 ⟨t.y.toNat - t.x.toNat, t.n, by omega, ?_⟩⟩
    obtain ⟨x, y, n⟩ := t
    simp only at h0 h1 h2
    simp only [Lt.mk.injEq, and_true]
    omega

theorem mem_inOrd {E A : Nat} {t : Lt} : t ∈ inOrd E A ↔ (0 ≤ t.x ∧ t.x ≤ t.y ∧ t.y < 9) ∧ hasS E A t = true := by
  unfold inOrd
  rw [List.mem_filter, mem_all9]

theorem inOrd_length (E A : Nat) : (inOrd E A).length ≤ 162 := by
  unfold inOrd
  exact Nat.le_trans (List.length_filter_le _ _) (allL_length 9)

theorem inOrd_low {n : Int} {s : Nat × Nat} (h : SLow n s) : ∀ t ∈ inOrd s.1 s.2, LowL n t := fun t ht => by
  obtain ⟨⟨h0, h1, h2⟩, hh⟩ := mem_inOrd.1 ht
  exact h t ⟨h0, by omega, by omega, h2⟩ hh

theorem inOrd_holds {n : Int} {s : Nat × Nat} {c : List Int} (hn : n ≤ 9) (h : SHolds n c s) : holdsB c (inOrd s.1 s.2) = true := by
  obtain ⟨t, ht, h1, h2⟩ := h
  rw [holdsB_mem]
  obtain ⟨a1, a2, a3, a4⟩ := ht
  refine ⟨⟨min t.x t.y, max t.x t.y, t.n⟩, mem_inOrd.2 ⟨⟨?_, ?_, ?_⟩, ?_⟩, ?_⟩
  · show 0 ≤ min t.x t.y; omega
  · show min t.x t.y ≤ max t.x t.y; omega
  · show max t.x t.y < 9; omega
  · have e : ixN (min t.x t.y) (max t.x t.y) = ixN t.x t.y := by unfold ixN; congr 1 <;> omega
    unfold hasS at h1 ⊢
    simp only [e]; exact h1
  · by_cases hxy : t.x ≤ t.y
    · rw [show min t.x t.y = t.x by omega, show max t.x t.y = t.y by omega]; exact h2
    · rw [show min t.x t.y = t.y by omega, show max t.x t.y = t.x by omega]
      unfold litB at h2 ⊢
      rw [eqB_comm]; exact h2

set_option maxHeartbeats 1000000 in
theorem some_long (la ca : Option Addr) (lc cc : Nat) (ls : List Lt) (c : List Int) (w : World) (hls : LitsAt w la ls) (hc : IntsAt w ca c) (hin : ls.length ≤ 200 ∧ ∀ t, t < ls.length → (0 ≤ (ls.getD t lt0).x ∧ (ls.getD t lt0).x < (c.length : Int)) ∧ 0 ≤ (ls.getD t lt0).y ∧ (ls.getD t lt0).y < (c.length : Int)) :
    Calls Try.prog 26 #[.slice la ls.length lc, .slice ca c.length cc] w fun e w' => e = .returned (.bool (holdsB c ls)) ∧ ∃ n, w' = w.drewN n := by
  have Hin := hide hin
  have h6 := hin.1
  clear hin
  go_enter Try.func26, Try.ntmps26
  go_wp2_with fail
  go_loopg [5] ls.length (fun g s wr => ∃ k : Nat, g = ls.length - k ∧ k ≤ ls.length ∧ s = .int .i64 k ∧ Hid (∀ t, t < k → litB c (ls.getD t lt0) = false) ∧ ∃ n, wr = w.drewN n)
  case atStart => exact ⟨0, by omega, Nat.zero_le _, rfl, (fun t h => by omega), 0, rfl⟩
  case round =>
    obtain ⟨k, rfl, hk, rfl, Hk, n0, rfl⟩ := hrel
    by_cases hlt : k < ls.length
    · obtain ⟨lb, lo, rfl, lcell⟩ := hls.get hlt
      obtain ⟨l1, l2, l3⟩ := lcell k hlt
      obtain ⟨⟨bx0, bx⟩, by0, bY⟩ := Hin.out.2 k hlt
      obtain ⟨nx, hnx⟩ := Int.eq_ofNat_of_zero_le bx0
      obtain ⟨ny, hny⟩ := Int.eq_ofNat_of_zero_le by0
      obtain ⟨cb, co, rfl, ccell⟩ := hc.get (i := nx) (by omega)
      have c1 := ccell nx (by omega)
      have c2 := ccell ny (by omega)
      have hst : litB c (ls.getD k lt0) = (decide (c.getD nx 0 = c.getD ny 0) != (ls.getD k lt0).n) := by simp only [litB, eqB, cls, hnx, hny, Int.toNat_natCast]
      rw [hnx] at l1 bx
      rw [hny] at l2 bY
      generalize c.getD nx 0 = vx at *
      generalize c.getD ny 0 = vy at *
      generalize (ls.getD k lt0).n = nt at *
      have Hst := hide hst
      clear hst ccell lcell bx0 by0 hnx hny
      have d1 : decide ((nx : Int) < 0) = false := by simp
      have d2 : decide ((ny : Int) < 0) = false := by simp
      have d3 : decide ((c.length : Int) ≤ (nx : Int)) = false := by simp; omega
      by_cases he : vx = vy
      · have hb1 : (vx == vy) = true := by simp [he]
        have He := hide he
        clear he
        cases nt
        · go_wp2_with fail
          go_quiet (fail)
          go_wp2_with fail
          go_ret
          exact ⟨ret_bool (by rw [holdsB, anyB_yes k hlt (by rw [Hst.out]; simp [He.out])]), _, World.drewN_drewN _ _ _⟩
        · go_wp2_with fail
          go_quiet (fail)
          go_wp2_with fail
          go_roundg (ls.length - (k + 1))
          case measure => omega
          case rel => exact ⟨k + 1, rfl, by omega, by go_num, upto_succ Hk.out (by rw [Hst.out]; simp [He.out]), _, rfl⟩
      · have hb1 : (vx == vy) = false := by simp [he]
        have He := hide he
        clear he
        cases nt
        · go_wp2_with fail
          go_quiet (fail)
          go_wp2_with fail
          go_roundg (ls.length - (k + 1))
          case measure => omega
          case rel => exact ⟨k + 1, rfl, by omega, by go_num, upto_succ Hk.out (by rw [Hst.out]; simp [He.out]), _, rfl⟩
        · go_wp2_with fail
          go_quiet (fail)
          go_wp2_with fail
          go_ret
          exact ⟨ret_bool (by rw [holdsB, anyB_yes k hlt (by rw [Hst.out]; simp [He.out])]), _, World.drewN_drewN _ _ _⟩
    · go_wp2_with fail
      go_ret
      exact ⟨ret_bool (by rw [holdsB, anyB_no (fun t ht => Hk.out t (by omega))]), _, rfl⟩

end Go.Proofs.Ytjebhhoibofmfaa
