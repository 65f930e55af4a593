import Derived.Test.YtjebhhoibofmfaaEqH
namespace Go.Proofs.Ytjebhhoibofmfaa
open Go.RowKit

theorem mod_nat (x n : Int) (hn : 1 ≤ n) : ∃ r : Nat, (r : Int) < n ∧ x % n = r := by
  have h1 := Int.emod_nonneg x (show n ≠ 0 by omega)
  have h2 := Int.emod_lt_of_pos x (show 0 < n by omega)
  exact ⟨(x % n).toNat, by omega, by omega⟩

set_option maxHeartbeats 400000 in
theorem pick_any (c n : Int) (w : World) (h1 : -9223372036854775808 ≤ c) (h2 : c ≤ 9223372036854775807) (hn : 1 ≤ n) (hn2 : n ≤ 1152921504606846976) :
    Calls Try.prog 19 #[.int .i64 c, .int .i64 n] w fun e w' => ∃ r : Nat, (r : Int) < n ∧ e = .returned (.int .i64 r) ∧ w' = w := by
  have hz : (n == 0) = false := by rw [beq_eq_false_iff_ne]; omega
  by_cases h : c < 0
  · go_enter Try.func19, Try.ntmps19
    go_wp2_with fail
    go_ret
    obtain ⟨r, hr, e⟩ := mod_nat (-(c + 1)) n hn
    exact ⟨r, hr, ret_int (by rw [← e, ← Int.neg_tmod, Int.tmod_eq_emod_of_nonneg (by omega)]), rfl⟩
  · go_enter Try.func19, Try.ntmps19
    go_wp2_with fail
    go_ret
    obtain ⟨r, hr, e⟩ := mod_nat c n hn
    exact ⟨r, hr, ret_int e, rfl⟩

/-- Ints in a row of their own. -/
def IntsRow (w : World) (a : Option Addr) (xs : List Int) : Prop :=
  xs = [] ∨ ∃ b cur, a = some ⟨b, 0, none⟩ ∧ w.heap[b]? = some (.cells cur 3 (0, 0)) ∧ ∀ i, i < xs.length → cur[i]? = some (.int .i64 (xs.getD i 0))

theorem IntsRow.at {w : World} {a : Option Addr} {xs : List Int} (h : IntsRow w a xs) : IntsAt w a xs := by
  rcases h with h | ⟨b, cur, rfl, hb, h⟩
  · exact .inl h
  · refine .inr ⟨b, 0, rfl, fun i hi => ?_⟩
    rw [Nat.zero_add, cell_of_row w b i cur 3 (0, 0) hb]
    exact h i hi

/-- What is in a row of another type is left alone where that row alone is written. -/
theorem IntsRow.grown {w w' : World} {row : Option Nat} {a : Option Addr} {xs : List Int} (h : IntsRow w a xs) (hg : w.grownBy w' row)
    (hr : ∀ g, row = some g → ∃ cur e, w.heap[g]? = some (.cells cur e (0, 0)) ∧ e ≠ 3) : IntsRow w' a xs := by
  rcases h with h | ⟨b, cur, rfl, hb, h⟩
  · exact .inl h
  · refine .inr ⟨b, cur, rfl, ?_, h⟩
    rw [hg.block b (Array.getElem?_eq_some_iff.1 hb).1 (fun e => ?_)]
    · exact hb
    · obtain ⟨cur', e', h1, h2⟩ := hr b e.symm
      rw [hb] at h1
      injection h1 with h1
      injection h1 with _ h1
      exact h2 h1.symm

def tmCells (t : Tm) : List Value := [.int .i64 t.sym, .slice t.a t.args.length t.cap]
def tsCells (ts : List Tm) : List Value := ts.flatMap tmCells

theorem tsCells_length (ts : List Tm) : (tsCells ts).length = ts.length * 2 := by
  induction ts with
  | nil => rfl
  | cons t ts ih => simp only [tsCells, List.flatMap_cons, List.length_append, tmCells, List.length_cons, List.length_nil] at *; omega

theorem tsCells_get (ts : List Tm) : ∀ i, i < ts.length → (tsCells ts)[i * 2]? = some (.int .i64 (ts.getD i tm0).sym) ∧
    (tsCells ts)[i * 2 + 1]? = some (.slice (ts.getD i tm0).a (ts.getD i tm0).args.length (ts.getD i tm0).cap) := by
  induction ts with
  | nil => intro i hi; simp at hi
  | cons t ts ih =>
    intro i hi
    cases i with
    | zero => exact ⟨rfl, rfl⟩
    | succ i =>
      have := ih i (by simpa using hi)
      have e1 : (i + 1) * 2 = i * 2 + 2 := by omega
      have hc : tsCells (t :: ts) = .int .i64 t.sym :: .slice t.a t.args.length t.cap :: tsCells ts := rfl
      rw [e1, hc]
      simpa using this

theorem termsAt_of_own {w : World} {base : Nat} {v : Value} {ts : List Tm} (h : w.ownsRow base 77 2 v ts.length (tsCells ts)) (ha : ∀ i, i < ts.length → IntsAt w (ts.getD i tm0).a (ts.getD i tm0).args) :
    ∃ a cap, v = .slice a ts.length cap ∧ TermsAt w a ts := by
  rcases h.2 with ⟨rfl, hn⟩ | ⟨g, cap, cur, rfl, hb, hg, h1, h2, h3, h4⟩
  · exact ⟨none, 0, by rw [hn], .inl (List.length_eq_zero_iff.1 hn)⟩
  · refine ⟨_, cap, rfl, .inr ⟨g, 0, rfl, fun i hi => ?_⟩⟩
    have hc := tsCells_get ts i hi
    rw [← h4, List.getElem?_take, List.getElem?_take] at hc
    rw [if_pos (by omega), if_pos (by omega)] at hc
    refine ⟨?_, ?_, ha i hi⟩
    · rw [Nat.zero_add, cell_of_row w g _ cur 77 (0, 0) hg]; simpa using hc.1
    · rw [Nat.zero_add, cell_of_row w g _ cur 77 (0, 0) hg]; simpa using hc.2

theorem tsCells_snoc (ts : List Tm) (t : Tm) : tsCells (ts ++ [t]) = tsCells ts ++ tmCells t := by simp [tsCells]
end Go.Proofs.Ytjebhhoibofmfaa
