import Derived.Test.YtjebhhoibofmfaaClC
import Derived.Test.YtjebhhoibofmfaaMdB
import Derived.WalkSpells
import Derived.Laws.CopyOwn
namespace Go.Proofs.Ytjebhhoibofmfaa
open Go.RowKit

theorem run_copy_rows {P : Program} (w : World) (dT sT ty elem : TypeId) (size g dLen dCap : Nat) (sp : Option Addr) (sLen sCap : Nat) (cur : Array Value) (t : TypeId) (cs : List Value)
    (hu : P.underlying dT = some (.slice elem)) (hs : (P.info? elem).map (·.size) = some size) (hsz : 0 < size)
    (hg : w.heap[g]? = some (.cells cur t (0, 0))) (hn : cs.length = Nat.min sLen dLen * size)
    (hsrc : cs = [] ∨ ∃ a, sp = some a ∧ ∀ j v, cs[j]? = some v → w.cell? (a.add j) = some v) (hfit : cs.length ≤ cur.size) (h1 : ∀ v ∈ cs, v.oneCell' = true) :
    (Builtin.copy_ #[dT, sT] ty #[.slice (some ⟨g, 0, none⟩) dLen dCap, .slice sp sLen sCap]).run P w =
      .ok (goInt (Nat.min sLen dLen)) (w.setRow g (cs ++ cur.toList.drop cs.length).toArray) := by
  have hst := run_storeCells_at P g 0 t cs 0 cur w hg (by simpa using hfit) h1
  simp only [Nat.add_zero, Nat.zero_add, List.take_zero, List.nil_append] at hst
  cases hq : P.info? elem with
  | none => simp [hq] at hs
  | some i =>
    have hi : i.size = size := by simpa [hq] using hs
    have hf : (Builtin.firstCells size (Nat.min sLen dLen) (.slice sp sLen sCap)).run P w = .ok cs.toArray w := by
      rcases hsrc with rfl | ⟨a, rfl, hc⟩
      · have h0 : Nat.min sLen dLen = 0 := by
          have h2 : Nat.min sLen dLen * size = 0 := by simpa using hn.symm
          rcases Nat.mul_eq_zero.1 h2 with h | h
          · exact h
          · omega
        rw [h0]
        cases sp with
        | none => simp [Builtin.firstCells]
        | some b => exact run_firstCells_some (P := P) w size 0 b sLen sCap [] (by simp) (fun j v hj => by simp at hj)
      · exact run_firstCells_some (P := P) w size (Nat.min sLen dLen) a sLen sCap cs hn hc
    simp [Builtin.copy_, run_underlying hu, Builtin.lenOf, sizeOf, typeInfo, hq, hi, hf, hst]

theorem wpList_copy_rows {P : Program} {w : World} {ops : Array Oper} {rest : List Oper} {o : Oper} {a : Act} {Q : Exit → Act → World → Prop} (hgd : o.guard = none) (d s : Operand) (dT sT : TypeId)
    (ho : o.op = .call { callee := .builtin .copy, args := #[d, s], argTypes := #[dT, sT] }) (elem : TypeId) (size : Nat) (hu : P.underlying dT = some (.slice elem)) (hs : (P.info? elem).map (·.size) = some size) (hsz : 0 < size)
    (g dLen dCap : Nat) (sp : Option Addr) (sLen sCap : Nat) (hd : a.eval d = .slice (some ⟨g, 0, none⟩) dLen dCap) (hsv : a.eval s = .slice sp sLen sCap)
    (cur : List Value) (t : TypeId) (hg : w.heap[g]? = some (.cells cur.toArray t (0, 0))) (cs : List Value) (hn : cs.length = Nat.min sLen dLen * size)
    (hsrc : cs = [] ∨ ∃ ad, sp = some ad ∧ ∀ j v, cs[j]? = some v → w.cell? (ad.add j) = some v) (hfit : cs.length ≤ cur.length) (h1 : ∀ v ∈ cs, v.oneCell' = true)
    (h : ∀ w', w'.heap[g]? = some (.cells (cs ++ cur.drop cs.length).toArray t (0, 0)) → w.grownBy w' (some g) → wpList P ops Q rest (a.put o.dst (goInt (Nat.min sLen dLen))) w') : wpList P ops Q (o :: rest) a w := by
  refine wpList_plain hgd fun K hK => ?_
  have hrun := run_copy_rows (P := P) w dT sT o.type elem size g dLen dCap sp sLen sCap cur.toArray t cs hu hs hsz hg hn hsrc (by simpa using hfit) h1
  unfold Oper.wp
  simp [execOp, ho, resolve, invoke, builtin, hd, hsv, hrun, Result.andThen]
  refine hK _ _ (h _ ?_ ?_)
  · simpa using setRow_heap w g _ _ t _ hg
  · exact ⟨rfl, rfl, rfl, by simp [World.setRow], fun k hk hne => setRow_other w g k _ (fun e => hne (by rw [e]))⟩

theorem wpList_make_any {P : Program} (w : World) {ops : Array Oper} {rest : List Oper} {o : Oper} {a : Act} {Q : Exit → Act → World → Prop} (hgd : o.guard = none) (l c : Operand) (t : TypeId) (hop : o.op = Op.makeSlice t l c)
    (e : TypeId) (i : TypeInfo) (z : Value) (size : Nat) (ht : P.underlying t = some (.slice e)) (hi : P.info? e = some i) (hz : i.zero = some z) (hsize : i.size = size)
    (kl kc : IntKind) (L C : Int) (n : Nat) (hl : a.eval l = .int kl L) (hc : a.eval c = .int kc C) (hL : L = (n : Int)) (hC : C = (n : Int)) (hbytes : i.bytes * n ≤ 281474976710656) (h63 : n ≤ 9223372036854775807)
    (hK : wpList P ops Q rest (a.put o.dst (.slice (some ⟨w.heap.size, 0, none⟩) n n)) (w.alloc (.cells (madeCells z.cells (n * size)) e))) : wpList P ops Q (o :: rest) a w := by
  refine wpList_plain hgd fun K hK' => ?_
  subst hL
  subst hC
  subst hsize
  have hb' : (i.bytes : Int) * (n : Int) ≤ 281474976710656 := by
    have h : ((i.bytes * n : Nat) : Int) ≤ 281474976710656 := by omega
    rwa [Int.natCast_mul] at h
  have hrun := run_make (P := P) w t e i z ht hi hz kl kc n n (by omega) (by omega) hb' (by omega)
  simp only [Int.toNat_natCast] at hrun
  unfold Oper.wp
  simp [execOp, hop, hl, hc, hrun, Result.andThen]
  exact hK' _ _ hK

theorem nil_eql (t e : TypeId) (ht : Try.prog.underlying t = some (.slice e)) : ∀ (w : World) (a : Option Addr) (n c : Nat), (binOp .eql t (.slice a n c) (.slice none 0 0)).run Try.prog w = .ok (.bool a.isNone) w := by
  intro w a n c
  simp only [binOp]
  simp [Op.equal, Op.maxDepth, Lib.run_equalIn_slice_nil w 9999 t e a n c 0 0 ht]
theorem nil_neq (t e : TypeId) (ht : Try.prog.underlying t = some (.slice e)) : ∀ (w : World) (a : Option Addr) (n c : Nat), (binOp .neq t (.slice a n c) (.slice none 0 0)).run Try.prog w = .ok (.bool (!a.isNone)) w :=
  fun w a n c => run_neq_slice_nil_any w t e a n c 0 0 ht

/-- A list with eight marks behind, k of them laid. -/
def fullTo (xs : List Int) (k : Nat) : List Int := xs ++ (List.replicate k (-77) ++ List.replicate (8 - k) 0)
def full (xs : List Int) : List Int := xs ++ List.replicate 8 (-77)
theorem fullTo_all (xs : List Int) : fullTo xs 8 = full xs := by simp [fullTo, full]
theorem fullTo_length (xs : List Int) (k : Nat) (hk : k ≤ 8) : (fullTo xs k).length = xs.length + 8 := by simp [fullTo]; omega
theorem full_length (xs : List Int) : (full xs).length = xs.length + 8 := by simp [full]
theorem fullTo_set (xs : List Int) (k : Nat) (hk : k < 8) : (fullTo xs k).set (xs.length + k) (-77) = fullTo xs (k + 1) := by
  unfold fullTo
  rw [List.set_append_right _ _ (by omega), show xs.length + k - xs.length = k by omega, List.set_append_right _ _ (by simp), List.length_replicate, Nat.sub_self]
  obtain ⟨m, hm⟩ : ∃ m, 8 - k = m + 1 := ⟨8 - k - 1, by omega⟩
  rw [hm, show 8 - (k + 1) = m by omega, List.replicate_succ, List.set_cons_zero, List.replicate_succ']
  simp

theorem made_ints (n : Nat) : madeCells (Value.int .i64 0).cells (n * 1) = (intCells (List.replicate n 0)).toArray := by
  rw [Nat.mul_one, show (Value.int .i64 0).cells = #[.int .i64 0] from rfl, made_zeros]
  unfold zeros tab intCells
  congr 1
  rw [List.map_const', List.length_range]

theorem IntsAt.src {w : World} {a : Option Addr} {xs : List Int} (h : IntsAt w a xs) : intCells xs = [] ∨ ∃ ad, a = some ad ∧ ∀ j v, (intCells xs)[j]? = some v → w.cell? (ad.add j) = some v := by
  rcases h with rfl | ⟨b, o, rfl, h⟩
  · exact .inl rfl
  · refine .inr ⟨_, rfl, fun j v hj => ?_⟩
    have hadd : (⟨b, o, none⟩ : Addr).add j = ⟨b, o + j, none⟩ := by unfold Addr.add; split <;> simp_all
    by_cases hl : j < xs.length
    · rw [hadd, h j hl]
      simpa [intCells, hl] using hj
    · rw [List.getElem?_eq_none (by simp [intCells]; omega)] at hj; cases hj

set_option maxRecDepth 100000 in
set_option maxHeartbeats 400000 in
theorem fullInts_nil (w : World) : Calls Try.prog 39 #[.slice none 0 0] w fun e w' => e = .returned (.slice none 0 0) ∧ w' = w := by
  have qn := nil_eql 24 3 Try.underlying24
  go_enter Try.func39, Try.ntmps39
  go_wp2_with fail
  go_ret
  exact ⟨rfl, rfl⟩

set_option maxRecDepth 100000 in
set_option maxHeartbeats 400000 in
theorem fullInts_any (ad : Addr) (cap : Nat) (xs : List Int) (w : World) (hx : IntsAt w (some ad) xs) (hlen : xs.length ≤ 17592186043904) :
    Calls Try.prog 39 #[.slice (some ad) xs.length cap] w fun e w' => e = .returned (.slice (some ⟨w.heap.size, 0, none⟩) (xs.length + 8) (xs.length + 8)) ∧ Row w' w.heap.size (full xs) ∧ Below w.heap.size w w' := by
  obtain ⟨i1, hi1, hy0, hy1, hy2⟩ := info_parts info_int
  have hsz : (Try.prog.info? 3).map (·.size) = some 1 := by rw [hi1]; simp [hy1]
  go_enter Try.func39, Try.ntmps39
  have qn := nil_eql 24 3 Try.underlying24
  go_upto_region 4 with (at_make; refine wpList_make_any _ rfl _ _ 24 rfl 3 i1 (.int .i64 0) 1 Try.underlying24 hi1 hy0 hy1 _ _ _ _ (xs.length + 8) rfl rfl (by omega) (by omega) (by rw [hy2]; omega) (by omega) ?_)
  have hb0 : Below w.heap.size w (w.alloc (.cells (madeCells #[.int .i64 0] (xs.length + 8)) 3)) := (Below.refl _ _).alloc (Nat.le_refl _) _
  have hg0 : (w.alloc (.cells (madeCells #[.int .i64 0] (xs.length + 8)) 3)).heap[w.heap.size]? = some (.cells (intCells (List.replicate (xs.length + 8) 0)).toArray 3 (0, 0)) := by
    have := made_ints (xs.length + 8)
    rw [Nat.mul_one] at this
    rw [show madeCells #[.int .i64 0] (xs.length + 8) = _ from this]
    exact heap_at_new _ _ _ rfl
  have hsrc := (hx.below hb0).src
  go_wp2_with (refine wpList_copy_rows rfl (.tmp 11) (.tmp 12) 24 24 rfl 3 1 Try.underlying24 hsz (by decide) w.heap.size (xs.length + 8) (xs.length + 8) (some ad) xs.length cap rfl rfl (intCells (List.replicate (xs.length + 8) 0)) 3 hg0 (intCells xs) (by simp [intCells]) hsrc (by simp [intCells]) (intCells_one _) ?_)
  intro w1 hg1 hgr1
  have hrow1 : Row w1 w.heap.size (fullTo xs 0) := by
    unfold Row
    rw [hg1]
    congr 3
    simp [intCells, fullTo, List.drop_replicate]
  have hb1 : Below w.heap.size w w1 := hb0.grown hgr1 (by simp) (fun k hk => by injection hk with hk; omega)
  clear hg1 hgr1 hg0 hb0 hsrc
  go_wp2_with fail
  go_loopg [4] 8 (fun q s wx => ∃ k : Nat, q = 8 - k ∧ k ≤ 8 ∧ s = .int .i64 ((xs.length + k : Nat) : Int) ∧ Row wx w.heap.size (fullTo xs k) ∧ Below w.heap.size w wx)
  case atStart => exact ⟨0, rfl, by omega, rfl, hrow1, hb1⟩
  case round =>
    obtain ⟨k, rfl, hk, rfl, hrow, hbx⟩ := hrel
    by_cases hlt : k < 8
    · have ck := hrow.cell (k := xs.length + k) (by rw [fullTo_length _ _ hk]; omega)
      have fk := hrow.frozen (xs.length + k)
      have Hs : Hid ((fullTo xs k).set (xs.length + k) (-77) = fullTo xs (k + 1)) := fullTo_set xs k hlt
      generalize (fullTo xs k).getD (xs.length + k) 0 = old at *
      generalize hi : xs.length + k = i at *
      have hil : i < xs.length + 8 := by omega
      have Hi := hide hi
      clear hi
      go_wp2_with fail
      go_roundg (8 - (k + 1))
      case measure => omega
      case rel => exact ⟨k + 1, rfl, by omega, by have := Hi.out; congr 1; omega, by rw [← Hs.out]; exact hrow.set _ _, hbx.setCell (Nat.le_refl _) _⟩
    · have Hk : Hid (k = 8) := by show k = 8; omega
      generalize hi : xs.length + k = i at *
      have hil : ¬ i < xs.length + 8 := by omega
      clear hi
      go_wp2_with fail
      go_ret
      exact ⟨rfl, by rw [← fullTo_all]; rw [Hk.out] at hrow; exact hrow, hbx⟩
end Go.Proofs.Ytjebhhoibofmfaa
