import Derived.Test.YtjebhhoibofmfaaKpB
import Derived.Deep.RegionLaw
namespace Go.Proofs.Ytjebhhoibofmfaa
open Go.RowKit

/-- append to a slice of the call's own, as one step of a region that draws its order. -/
theorem step_append_own {P : Program} {ops : Array Oper} {o : Oper} {a : Act} {w : World} {K : Act → World → Prop} {Q : Exit → Act → World → Prop} {E : Prop}
    (hgd : o.guard = none) (s x : Operand) (t : TypeId) (ho : o.op = .call { callee := .builtin .append, args := #[s, x], argTypes := #[t, t] })
    (base : Nat) (e : TypeId) (i : TypeInfo) (z : Value) (size bytes : Nat) (ht : P.underlying t = some (.slice e)) (hi : P.info? e = some i) (hz : i.zero = some z)
    (hsize : i.size = size) (hby : i.bytes = bytes) (hzs : z.cells.size = size) (hsz : 0 < size)
    (v : Value) (n : Nat) (xs : List Value) (hs : a.eval s = v) (hown : w.ownsRow base e size v n xs)
    (ad : Addr) (m c : Nat) (news : List Value) (hx : a.eval x = .slice (some ad) m c) (hl : news.length = m * size) (hnews : ∀ j u, news[j]? = some u → w.cell? (ad.add j) = some u) (h1 : ∀ u ∈ news, u.oneCell' = true)
    (h63 : n + m ≤ maxLen) (hbytes : (n + m) * bytes ≤ 140737488355328) (hbase : base ≤ w.heap.size)
    (h : ∀ v' w', w'.ownsRow base e size v' (n + m) (xs ++ news) → w.grownBy w' v.ownBlock → K (a.put o.dst v') w') :
    if Region.wanted o (yielded ops a.tmps) = true then Oper.wp P o a w K Q else E := by
  have hw : Region.wanted o (yielded ops a.tmps) = true := by simp [Region.wanted, hgd]
  rw [if_pos hw]
  obtain ⟨v', w', hrun, r1, r2, _⟩ := run_append_own (P := P) w base t o.type e i z size bytes ht hi hz hsize hby hzs hsz v n xs hown ad m c news hl hnews h1 h63 hbytes hbase
  unfold Oper.wp
  simp [execOp, ho, resolve, invoke, builtin, hs, hx, hrun, Result.andThen]
  exact h v' w' r1 r2

/-- A row of another type is left alone. -/
theorem own_apart {w w' : World} {base : Nat} {e : TypeId} {size : Nat} {v : Value} {n : Nat} {xs : List Value} {row : Option Nat} (h : w.ownsRow base e size v n xs) (hg : w.grownBy w' row)
    (hr : ∀ g, row = some g → ∃ cur e', w.heap[g]? = some (.cells cur e' (0, 0)) ∧ e' ≠ e) : w'.ownsRow base e size v n xs := by
  refine h.kept hg ?_
  rcases h.2 with ⟨rfl, _⟩ | ⟨g, cap, cur, rfl, hb, hgg, _⟩
  · exact .inl rfl
  · refine .inr (fun e1 => ?_)
    obtain ⟨cur', e', h1, h2⟩ := hr g e1.symm
    rw [hgg] at h1
    injection h1 with h1
    injection h1 with _ h1
    exact h2 h1.symm

/-- The type of an owned row. -/
theorem own_type {w : World} {base : Nat} {e : TypeId} {size : Nat} {v : Value} {n : Nat} {xs : List Value} (h : w.ownsRow base e size v n xs) {e0 : TypeId} (hne : e ≠ e0) :
    ∀ g, v.ownBlock = some g → ∃ cur e', w.heap[g]? = some (.cells cur e' (0, 0)) ∧ e' ≠ e0 := by
  intro g hg
  rcases h.2 with ⟨rfl, _⟩ | ⟨g', cap, cur, rfl, hb, hgg, _⟩
  · simp [Value.ownBlock] at hg
  · simp [Value.ownBlock] at hg
    subst hg
    exact ⟨cur, e, hgg, hne⟩

theorem own_below {w w' : World} {base : Nat} {e : TypeId} {size : Nat} {v : Value} {n : Nat} {xs : List Value} (h : w.ownsRow base e size v n xs) (hb : Below w.heap.size w w') : w'.ownsRow base e size v n xs := by
  refine ⟨h.1, ?_⟩
  rcases h.2 with h2 | ⟨g, cap, cur, hv, hg, hh, r⟩
  · exact Or.inl h2
  · exact Or.inr ⟨g, cap, cur, hv, hg, by rw [hb.block _ (Array.getElem?_eq_some_iff.1 hh).1]; exact hh, r⟩

theorem own_val {w : World} {base : Nat} {e : TypeId} {size : Nat} {v : Value} {n : Nat} {xs : List Value} (h : w.ownsRow base e size v n xs) : ∃ a cap, v = .slice a n cap := by
  rcases h.2 with ⟨rfl, h2⟩ | ⟨g, cap, cur, rfl, _⟩
  · exact ⟨none, 0, by rw [h2]⟩
  · exact ⟨_, _, rfl⟩

theorem own_setCell {w : World} {base : Nat} {e : TypeId} {size : Nat} {v : Value} {n : Nat} {xs : List Value} (h : w.ownsRow base e size v n xs) {p : Addr} (hp : p.block < base) (u : Value) : (w.setCell p u).ownsRow base e size v n xs :=
  ownsRow_setCell_below h hp u

def ltCells (l : Lt) : List Value := [.int .i64 l.x, .int .i64 l.y, .bool l.n]
def lsCells (ls : List Lt) : List Value := ls.flatMap ltCells
def clVal (q : Cl) : Value := .slice q.a q.ls.length q.cap
def csCells (cs : List Cl) : List Value := cs.map clVal

theorem lsCells_snoc (ls : List Lt) (l : Lt) : lsCells (ls ++ [l]) = lsCells ls ++ ltCells l := by simp [lsCells]
theorem csCells_snoc (cs : List Cl) (q : Cl) : csCells (cs ++ [q]) = csCells cs ++ [clVal q] := by simp [csCells]

theorem lsCells_length (ls : List Lt) : (lsCells ls).length = ls.length * 3 := by
  induction ls with
  | nil => rfl
  | cons t ts ih => simp only [lsCells, List.flatMap_cons, List.length_append, ltCells, List.length_cons, List.length_nil] at *; omega

theorem lsCells_get (ls : List Lt) : ∀ i, i < ls.length → (lsCells ls)[i * 3]? = some (.int .i64 (ls.getD i lt0).x) ∧ (lsCells ls)[i * 3 + 1]? = some (.int .i64 (ls.getD i lt0).y) ∧ (lsCells ls)[i * 3 + 2]? = some (.bool (ls.getD i lt0).n) := by
  induction ls with
  | nil => intro i hi; simp at hi
  | cons t ts ih =>
    intro i hi
    cases i with
    | zero => exact ⟨rfl, rfl, rfl⟩
    | succ i =>
      have := ih i (by simpa using hi)
      have e1 : (i + 1) * 3 = i * 3 + 3 := by omega
      have hc : lsCells (t :: ts) = .int .i64 t.x :: .int .i64 t.y :: .bool t.n :: lsCells ts := rfl
      rw [e1, hc]
      simpa using this

theorem litsAt_of_own {w : World} {base : Nat} {a : Option Addr} {cap : Nat} {ls : List Lt} (h : w.ownsRow base 50 3 (.slice a ls.length cap) ls.length (lsCells ls)) : LitsAt w a ls := by
  rcases h.2 with ⟨_, hn⟩ | ⟨g, cap, cur, hv, hb, hg, h1, h2, h3, h4⟩
  · exact .inl (List.length_eq_zero_iff.1 hn)
  · injection hv with hv _ _
    subst hv
    refine .inr ⟨g, 0, rfl, fun i hi => ?_⟩
    have hc := lsCells_get ls i hi
    rw [← h4, List.getElem?_take, List.getElem?_take, List.getElem?_take] at hc
    rw [if_pos (by omega), if_pos (by omega), if_pos (by omega)] at hc
    refine ⟨?_, ?_, ?_⟩
    · rw [Nat.zero_add, cell_of_row w g _ cur 50 (0, 0) hg]; simpa using hc.1
    · rw [Nat.zero_add, cell_of_row w g _ cur 50 (0, 0) hg]; simpa using hc.2.1
    · rw [Nat.zero_add, cell_of_row w g _ cur 50 (0, 0) hg]; simpa using hc.2.2

theorem clausesAt_of_own {w : World} {base : Nat} {a : Option Addr} {cap : Nat} {cs : List Cl} (h : w.ownsRow base 43 1 (.slice a cs.length cap) cs.length (csCells cs))
    (hl : ∀ i, i < cs.length → LitsAt w (cs.getD i cl0).a (cs.getD i cl0).ls) : ClausesAt w a cs := by
  rcases h.2 with ⟨_, hn⟩ | ⟨g, cap, cur, hv, hb, hg, h1, h2, h3, h4⟩
  · exact .inl (List.length_eq_zero_iff.1 hn)
  · injection hv with hv _ _
    subst hv
    refine .inr ⟨g, 0, rfl, fun i hi => ⟨?_, hl i hi⟩⟩
    have hc : (csCells cs)[i]? = some (clVal (cs.getD i cl0)) := by simp [csCells, hi]
    rw [← h4, List.getElem?_take, if_pos (by omega)] at hc
    rw [Nat.zero_add, cell_of_row w g _ cur 43 (0, 0) hg]
    simpa [clVal] using hc

end Go.Proofs.Ytjebhhoibofmfaa
