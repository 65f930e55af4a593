import Derived.Test.YtiobmhfpnhjmcaaEMCl
import Derived.Test.YtiobmhfpnhjmcaaEMMd
import Derived.WalkSpells
import Derived.Laws.CopyOwn
import Derived.BigRegion
namespace Go.Proofs.Ytiobmhfpnhjmcaa
open Go.RowKit
theorem run_copy_rows {P : Program} (w : World) (dT sT ty elem : TypeId) (size g dLen dCap : Nat) (sp : Option Addr) (sLen sCap : Nat) (cur : Array Value) (t : TypeId) (cs : List Value)
    (hu : P.underlying dT = some (.slice elem)) (hs : (P.info? elem).map (·.size) = some size) (hsz : 0 < size)
    (hg : w.heap[g]? = some (.cells cur t (0, 0))) (hn : cs.length = Nat.min sLen dLen * size)
    (hsrc : cs = [] ∨ ∃ a, sp = some a ∧ ∀ j v, cs[j]? = some v → w.cell? (a.add j) = some v) (hfit : cs.length ≤ cur.size) (h1 : ∀ v ∈ cs, v.oneCell' = true) :
    (Builtin.copy_ #[dT, sT] ty #[.slice (some ⟨g, 0, none⟩) dLen dCap, .slice sp sLen sCap]).run P w =
      .ok (goInt (Nat.min sLen dLen)) (w.setRow g (cs ++ cur.toList.drop cs.length).toArray) := by
  have hst := run_storeCells_at P g 0 t cs 0 cur w hg (by simpa using hfit) h1
  simp only [Nat.add_zero, Nat.zero_add, List.take_zero, List.nil_append] at hst
  cases hq : P.info? elem with
  | none => simp [hq] at hs
  | some i =>
    have hi : i.size = size := by simpa [hq] using hs
    have hf : (Builtin.firstCells size (Nat.min sLen dLen) (.slice sp sLen sCap)).run P w = .ok cs.toArray w := by
      rcases hsrc with rfl | ⟨a, rfl, hc⟩
      · have h0 : Nat.min sLen dLen = 0 := by
          have h2 : Nat.min sLen dLen * size = 0 := by simpa using hn.symm
          rcases Nat.mul_eq_zero.1 h2 with h | h
          · exact h
          · omega
        rw [h0]
        cases sp with
        | none => simp [Builtin.firstCells]
        | some b => exact run_firstCells_some (P := P) w size 0 b sLen sCap [] (by simp) (fun j v hj => by simp at hj)
      · exact run_firstCells_some (P := P) w size (Nat.min sLen dLen) a sLen sCap cs hn hc
    simp [Builtin.copy_, run_underlying hu, Builtin.lenOf, sizeOf, typeInfo, hq, hi, hf, hst]
theorem wpList_copy_rows {P : Program} {w : World} {ops : Array Oper} {rest : List Oper} {o : Oper} {a : Act} {Q : Exit → Act → World → Prop} (hgd : o.guard = none) (d s : Operand) (dT sT : TypeId)
    (ho : o.op = .call { callee := .builtin .copy, args := #[d, s], argTypes := #[dT, sT] }) (elem : TypeId) (size : Nat) (hu : P.underlying dT = some (.slice elem)) (hs : (P.info? elem).map (·.size) = some size) (hsz : 0 < size)
    (g dLen dCap : Nat) (sp : Option Addr) (sLen sCap : Nat) (hd : a.eval d = .slice (some ⟨g, 0, none⟩) dLen dCap) (hsv : a.eval s = .slice sp sLen sCap)
    (cur : List Value) (t : TypeId) (hg : w.heap[g]? = some (.cells cur.toArray t (0, 0))) (cs : List Value) (hn : cs.length = Nat.min sLen dLen * size)
    (hsrc : cs = [] ∨ ∃ ad, sp = some ad ∧ ∀ j v, cs[j]? = some v → w.cell? (ad.add j) = some v) (hfit : cs.length ≤ cur.length) (h1 : ∀ v ∈ cs, v.oneCell' = true)
    (h : ∀ w', w'.heap[g]? = some (.cells (cs ++ cur.drop cs.length).toArray t (0, 0)) → w.grownBy w' (some g) → wpList P ops Q rest (a.put o.dst (goInt (Nat.min sLen dLen))) w') : wpList P ops Q (o :: rest) a w := by
  refine wpList_plain hgd fun K hK => ?_
  have hrun := run_copy_rows (P := P) w dT sT o.type elem size g dLen dCap sp sLen sCap cur.toArray t cs hu hs hsz hg hn hsrc (by simpa using hfit) h1
  unfold Oper.wp
  simp [execOp, ho, resolve, invoke, builtin, hd, hsv, hrun, Result.andThen]
  refine hK _ _ (h _ ?_ ?_)
  · simpa using setRow_heap w g _ _ t _ hg
  · exact ⟨rfl, rfl, rfl, by simp [World.setRow], fun k hk hne => setRow_other w g k _ (fun e => hne (by rw [e]))⟩
theorem wpList_make_any {P : Program} (w : World) {ops : Array Oper} {rest : List Oper} {o : Oper} {a : Act} {Q : Exit → Act → World → Prop} (hgd : o.guard = none) (l c : Operand) (t : TypeId) (hop : o.op = Op.makeSlice t l c)
    (e : TypeId) (i : TypeInfo) (z : Value) (size : Nat) (ht : P.underlying t = some (.slice e)) (hi : P.info? e = some i) (hz : i.zero = some z) (hsize : i.size = size)
    (kl kc : IntKind) (L C : Int) (n : Nat) (hl : a.eval l = .int kl L) (hc : a.eval c = .int kc C) (hL : L = (n : Int)) (hC : C = (n : Int)) (hbytes : i.bytes * n ≤ 281474976710656) (h63 : n ≤ 9223372036854775807)
    (hK : wpList P ops Q rest (a.put o.dst (.slice (some ⟨w.heap.size, 0, none⟩) n n)) (w.alloc (.cells (madeCells z.cells (n * size)) e))) : wpList P ops Q (o :: rest) a w := by
  refine wpList_plain hgd fun K hK' => ?_
  subst hL
  subst hC
  subst hsize
  have hb' : (i.bytes : Int) * (n : Int) ≤ 281474976710656 := by
    have h : ((i.bytes * n : Nat) : Int) ≤ 281474976710656 := by omega
    rwa [Int.natCast_mul] at h
  have hrun := run_make (P := P) w t e i z ht hi hz kl kc n n (by omega) (by omega) hb' (by omega)
  simp only [Int.toNat_natCast] at hrun
  unfold Oper.wp
  simp [execOp, hop, hl, hc, hrun, Result.andThen]
  exact hK' _ _ hK
theorem nil_eql (t e : TypeId) (ht : Try.prog.underlying t = some (.slice e)) : ∀ (w : World) (a : Option Addr) (n c : Nat), (binOp .eql t (.slice a n c) (.slice none 0 0)).run Try.prog w = .ok (.bool a.isNone) w := by
  intro w a n c
  simp only [binOp]
  simp [Op.equal, Op.maxDepth, Lib.run_equalIn_slice_nil w 9999 t e a n c 0 0 ht]
theorem nil_neq (t e : TypeId) (ht : Try.prog.underlying t = some (.slice e)) : ∀ (w : World) (a : Option Addr) (n c : Nat), (binOp .neq t (.slice a n c) (.slice none 0 0)).run Try.prog w = .ok (.bool (!a.isNone)) w :=
  fun w a n c => run_neq_slice_nil_any w t e a n c 0 0 ht
def fullTo (xs : List Int) (k : Nat) : List Int := xs ++ (List.replicate k (-77) ++ List.replicate (8 - k) 0)
def full (xs : List Int) : List Int := xs ++ List.replicate 8 (-77)
theorem fullTo_all (xs : List Int) : fullTo xs 8 = full xs := by simp [fullTo, full]
theorem fullTo_length (xs : List Int) (k : Nat) (hk : k ≤ 8) : (fullTo xs k).length = xs.length + 8 := by simp [fullTo]; omega
theorem full_length (xs : List Int) : (full xs).length = xs.length + 8 := by simp [full]
theorem fullTo_set (xs : List Int) (k : Nat) (hk : k < 8) : (fullTo xs k).set (xs.length + k) (-77) = fullTo xs (k + 1) := by
  unfold fullTo
  rw [List.set_append_right _ _ (by omega), show xs.length + k - xs.length = k by omega, List.set_append_right _ _ (by simp), List.length_replicate, Nat.sub_self]
  obtain ⟨m, hm⟩ : ∃ m, 8 - k = m + 1 := ⟨8 - k - 1, by omega⟩
  rw [hm, show 8 - (k + 1) = m by omega, List.replicate_succ, List.set_cons_zero, List.replicate_succ']
  simp
theorem made_ints (n : Nat) : madeCells (Value.int .i64 0).cells (n * 1) = (intCells (List.replicate n 0)).toArray := by
  rw [Nat.mul_one, show (Value.int .i64 0).cells = #[.int .i64 0] from rfl, made_zeros]
  unfold zeros tab intCells
  congr 1
  rw [List.map_const', List.length_range]
theorem IntsAt.src {w : World} {a : Option Addr} {xs : List Int} (h : IntsAt w a xs) : intCells xs = [] ∨ ∃ ad, a = some ad ∧ ∀ j v, (intCells xs)[j]? = some v → w.cell? (ad.add j) = some v := by
  rcases h with rfl | ⟨b, o, rfl, h⟩
  · exact .inl rfl
  · refine .inr ⟨_, rfl, fun j v hj => ?_⟩
    have hadd : (⟨b, o, none⟩ : Addr).add j = ⟨b, o + j, none⟩ := by unfold Addr.add; split <;> simp_all
    by_cases hl : j < xs.length
    · rw [hadd, h j hl]
      simpa [intCells, hl] using hj
    · rw [List.getElem?_eq_none (by simp [intCells]; omega)] at hj; cases hj
set_option maxRecDepth 100000 in
set_option maxHeartbeats 400000 in
theorem fullInts_nil (w : World) : Calls Try.prog 30 #[.slice none 0 0] w fun e w' => e = .returned (.slice none 0 0) ∧ w' = w := by
  have qn := nil_eql 24 3 Try.underlying24
  go_enter Try.func30, Try.ntmps30
  go_wp2_with fail
  go_ret
  exact ⟨rfl, rfl⟩
set_option maxRecDepth 100000 in
set_option maxHeartbeats 400000 in
theorem fullInts_any (ad : Addr) (cap : Nat) (xs : List Int) (w : World) (hx : IntsAt w (some ad) xs) (hlen : xs.length ≤ 17592186043904) :
    Calls Try.prog 30 #[.slice (some ad) xs.length cap] w fun e w' => e = .returned (.slice (some ⟨w.heap.size, 0, none⟩) (xs.length + 8) (xs.length + 8)) ∧ Row w' w.heap.size (full xs) ∧ Below w.heap.size w w' := by
  obtain ⟨i1, hi1, hy0, hy1, hy2⟩ := info_parts info_int
  have hsz : (Try.prog.info? 3).map (·.size) = some 1 := by rw [hi1]; simp [hy1]
  go_enter Try.func30, Try.ntmps30
  have qn := nil_eql 24 3 Try.underlying24
  go_upto_region 4 with (at_make; refine wpList_make_any _ rfl _ _ 24 rfl 3 i1 (.int .i64 0) 1 Try.underlying24 hi1 hy0 hy1 _ _ _ _ (xs.length + 8) rfl rfl (by omega) (by omega) (by rw [hy2]; omega) (by omega) ?_)
  have hb0 : Below w.heap.size w (w.alloc (.cells (madeCells #[.int .i64 0] (xs.length + 8)) 3)) := (Below.refl _ _).alloc (Nat.le_refl _) _
  have hg0 : (w.alloc (.cells (madeCells #[.int .i64 0] (xs.length + 8)) 3)).heap[w.heap.size]? = some (.cells (intCells (List.replicate (xs.length + 8) 0)).toArray 3 (0, 0)) := by
    have := made_ints (xs.length + 8)
    rw [Nat.mul_one] at this
    rw [show madeCells #[.int .i64 0] (xs.length + 8) = _ from this]
    exact heap_at_new _ _ _ rfl
  have hsrc := (hx.below hb0).src
  go_wp2_with (refine wpList_copy_rows rfl (.tmp 11) (.tmp 12) 24 24 rfl 3 1 Try.underlying24 hsz (by decide) w.heap.size (xs.length + 8) (xs.length + 8) (some ad) xs.length cap rfl rfl (intCells (List.replicate (xs.length + 8) 0)) 3 hg0 (intCells xs) (by simp [intCells]) hsrc (by simp [intCells]) (intCells_one _) ?_)
  intro w1 hg1 hgr1
  have hrow1 : Row w1 w.heap.size (fullTo xs 0) := by
    unfold Row
    rw [hg1]
    congr 3
    simp [intCells, fullTo, List.drop_replicate]
  have hb1 : Below w.heap.size w w1 := hb0.grown hgr1 (by simp) (fun k hk => by injection hk with hk; omega)
  clear hg1 hgr1 hg0 hb0 hsrc
  go_wp2_with fail
  go_loopg [4] 8 (fun q s wx => ∃ k : Nat, q = 8 - k ∧ k ≤ 8 ∧ s = .int .i64 ((xs.length + k : Nat) : Int) ∧ Row wx w.heap.size (fullTo xs k) ∧ Below w.heap.size w wx)
  case atStart => exact ⟨0, rfl, by omega, rfl, hrow1, hb1⟩
  case round =>
    obtain ⟨k, rfl, hk, rfl, hrow, hbx⟩ := hrel
    by_cases hlt : k < 8
    · have ck := hrow.cell (k := xs.length + k) (by rw [fullTo_length _ _ hk]; omega)
      have fk := hrow.frozen (xs.length + k)
      have Hs : Hid ((fullTo xs k).set (xs.length + k) (-77) = fullTo xs (k + 1)) := fullTo_set xs k hlt
      generalize (fullTo xs k).getD (xs.length + k) 0 = old at *
      generalize hi : xs.length + k = i at *
      have hil : i < xs.length + 8 := by omega
      have Hi := hide hi
      clear hi
      go_wp2_with fail
      go_roundg (8 - (k + 1))
      case measure => omega
      case rel => exact ⟨k + 1, rfl, by omega, by have := Hi.out; congr 1; omega, by rw [← Hs.out]; exact hrow.set _ _, hbx.setCell (Nat.le_refl _) _⟩
    · have Hk : Hid (k = 8) := by show k = 8; omega
      generalize hi : xs.length + k = i at *
      have hil : ¬ i < xs.length + 8 := by omega
      clear hi
      go_wp2_with fail
      go_ret
      exact ⟨rfl, by rw [← fullTo_all]; rw [Hk.out] at hrow; exact hrow, hbx⟩
end Go.Proofs.Ytiobmhfpnhjmcaa
namespace Go.Proofs.Ytiobmhfpnhjmcaa
open Go.RowKit
def over (os : List Int) (k : Nat) : List Int := List.replicate k (-99) ++ os.drop k
theorem over_length (os : List Int) {k : Nat} (h : k ≤ os.length) : (over os k).length = os.length := by simp [over]; omega
theorem over_get (os : List Int) {k : Nat} : (over os k).getD k 0 = os.getD k 0 := by
  simp [over, List.getElem?_append_right]
theorem over_set (os : List Int) {k : Nat} (h : k < os.length) : (over os k).set k (-99) = over os (k + 1) := by
  unfold over
  rw [List.set_append_right _ _ (by simp), List.length_replicate, Nat.sub_self, List.drop_eq_getElem_cons h, List.set_cons_zero, List.replicate_succ']
  simp
theorem stillInts_nil (la : Option Addr) (n lc : Nat) (w : World) : Calls Try.prog 31 #[.slice none 0 0, .slice la n lc] w fun e w' => e = .returned (.bool true) ∧ w' = w := by
  go_enter Try.func31, Try.ntmps31
  go_wp2_with fail
  refine wp_loop_rounds 1 ?_
  rw [rounds_succ]
  go_wp2_with fail
  go_ret
  exact ⟨rfl, rfl⟩
set_option maxRecDepth 100000 in
set_option maxHeartbeats 1000000 in
theorem stillInts_any (W : World) (g m cap : Nat) (os : List Int) (la : Option Addr) (lc : Nat) (xs : List Int) (w : World) (hW : Below W.heap.size W w) (hg : W.heap.size ≤ g) (hx : IntsAt W la xs) (hrow : Row w g os) (hm : m ≤ os.length)
    (hbig : os.length ≤ 4611686018427387904) (hmt : ∀ i, i < m → os.getD i 0 = if i < xs.length then xs.getD i 0 else -77) :
    Calls Try.prog 31 #[.slice (some ⟨g, 0, none⟩) m cap, .slice la xs.length lc] w fun e w' => e = .returned (.bool true) ∧ Row w' g (over os m) ∧ w.grownBy w' (some g) := by
  have Hmt := hide hmt
  clear hmt
  go_enter Try.func31, Try.ntmps31
  go_wp2_with fail
  go_loopg [5] m (fun q s wx => ∃ k : Nat, q = m - k ∧ k ≤ m ∧ s = .int .i64 k ∧ Row wx g (over os k) ∧ w.grownBy wx (some g))
  case atStart => exact ⟨0, rfl, by omega, rfl, hrow, World.grownBy.refl _ _⟩
  case round =>
    obtain ⟨k, rfl, hk, rfl, hr, hgr⟩ := hrel
    by_cases hlt : k < m
    · have ck := hr.cell (k := k) (by rw [over_length _ (by omega)]; omega)
      have fk := hr.frozen k
      rw [over_get] at ck
      have hk1 := Hmt.out k hlt
      have Hs : Hid ((over os k).set k (-99) = over os (k + 1)) := over_set os (by omega)
      by_cases hl : k < xs.length
      · rw [if_pos hl] at hk1
        have hbx : Below W.heap.size W wr := hW.grown hgr hW.size (fun q hq => by injection hq with hq; omega)
        obtain ⟨b, o, rfl, xc⟩ := (hx.below hbx).get hl
        have x1 := xc k hl
        rw [hk1] at ck
        clear hk1 xc
        have he1 : (xs.getD k 0 != xs.getD k 0) = false := bne_self_eq_false _
        have hg1 : decide ((xs.length : Int) ≤ (k : Int)) = false := by simp; omega
        have hg2 : decide (xs.length ≤ k) = false := by simp; omega
        generalize xs.getD k 0 = v at *
        go_upto_region 4 with fail
        go_quiet (fail)
        go_wp2_with fail
        go_roundg (m - (k + 1))
        case measure => omega
        case rel => exact ⟨k + 1, rfl, by omega, by go_num, by rw [← Hs.out]; exact Row.set (w := wr.drewN nq) hr _ _, grown_set (⟨hgr.os, hgr.tape, hgr.output, hgr.size, hgr.block⟩)⟩
      · rw [if_neg hl] at hk1
        rw [hk1] at ck
        clear hk1
        have hg1 : decide ((k : Int) < (xs.length : Int)) = false := by simp; omega
        have hg2 : decide (xs.length ≤ k) = true := by simp; omega
        have hg3 : decide (k < xs.length) = false := by simp; omega
        go_upto_region 4 with fail
        go_quiet (fail)
        go_wp2_with fail
        go_roundg (m - (k + 1))
        case measure => omega
        case rel => exact ⟨k + 1, rfl, by omega, by go_num, by rw [← Hs.out]; exact Row.set (w := wr.drewN nq) hr _ _, grown_set (⟨hgr.os, hgr.tape, hgr.output, hgr.size, hgr.block⟩)⟩
    · have Hkm : Hid (k = m) := by show k = m; omega
      go_wp2_with fail
      go_ret
      exact ⟨rfl, by rw [Hkm.out] at hr; exact hr, hgr⟩
end Go.Proofs.Ytiobmhfpnhjmcaa
namespace Go.Proofs.Ytiobmhfpnhjmcaa
open Go.RowKit
def LRow (w : World) (g : Nat) (ls : List Lt) : Prop := w.heap[g]? = some (.cells (lsCells ls).toArray 44 (0, 0))
theorem LRow.cell {w : World} {g : Nat} {ls : List Lt} (h : LRow w g ls) {k : Nat} (hk : k < ls.length) :
    w.cell? ⟨g, k * 3, none⟩ = some (.int .i64 (ls.getD k lt0).x) ∧ w.cell? ⟨g, k * 3 + 1, none⟩ = some (.int .i64 (ls.getD k lt0).y) ∧ w.cell? ⟨g, k * 3 + 2, none⟩ = some (.bool (ls.getD k lt0).n) := by
  have := lsCells_get ls k hk
  rw [cell_of_row _ _ _ _ _ _ h, cell_of_row _ _ _ _ _ _ h, cell_of_row _ _ _ _ _ _ h]
  simpa using this
theorem LRow.frozen {w : World} {g : Nat} {ls : List Lt} (h : LRow w g ls) (k : Nat) : w.frozen? ⟨g, k, none⟩ = false := frozen_of_row _ _ _ _ _ h
theorem LRow.lt {w : World} {g : Nat} {ls : List Lt} (h : LRow w g ls) : g < w.heap.size := (Array.getElem?_eq_some_iff.1 h).1
theorem lsCells_set (ls : List Lt) (l : Lt) : ∀ i, i < ls.length → (((lsCells ls).set (i * 3) (.int .i64 l.x)).set (i * 3 + 1) (.int .i64 l.y)).set (i * 3 + 2) (.bool l.n) = lsCells (ls.set i l) := by
  induction ls with
  | nil => intro i hi; simp at hi
  | cons t ts ih =>
    intro i hi
    cases i with
    | zero => rfl
    | succ i =>
      have := ih i (by simpa using hi)
      have e1 : (i + 1) * 3 = i * 3 + 3 := by omega
      have hc : ∀ q qs, lsCells (q :: qs) = .int .i64 q.x :: .int .i64 q.y :: .bool q.n :: lsCells qs := fun _ _ => rfl
      show _ = lsCells (t :: ts.set i l)
      rw [e1, hc, hc, ← this]
      rfl
theorem LRow.set {w : World} {g : Nat} {ls : List Lt} (h : LRow w g ls) {k : Nat} (hk : k < ls.length) (l : Lt) :
    LRow (((w.setCell ⟨g, k * 3, none⟩ (.int .i64 l.x)).setCell ⟨g, k * 3 + 1, none⟩ (.int .i64 l.y)).setCell ⟨g, k * 3 + 2, none⟩ (.bool l.n)) g (ls.set k l) := by
  unfold LRow
  have h1 := heap_setCell_same w g (k * 3) _ _ (.int .i64 l.x) h
  have h2 := heap_setCell_same _ g (k * 3 + 1) _ _ (.int .i64 l.y) h1
  have h3 := heap_setCell_same _ g (k * 3 + 2) _ _ (.bool l.n) h2
  rw [h3, ← lsCells_set ls l k hk]
  simp
theorem lsCells_append (a b : List Lt) : lsCells (a ++ b) = lsCells a ++ lsCells b := by simp [lsCells]
def ltM (x : Int) : Lt := ⟨x, 0, false⟩
def fullToL (ls : List Lt) (k : Nat) : List Lt := ls ++ (List.replicate k (ltM (-77)) ++ List.replicate (8 - k) lt0)
def fullL (ls : List Lt) : List Lt := ls ++ List.replicate 8 (ltM (-77))
theorem fullToL_all (ls : List Lt) : fullToL ls 8 = fullL ls := by simp [fullToL, fullL]
theorem fullToL_length (ls : List Lt) (k : Nat) (hk : k ≤ 8) : (fullToL ls k).length = ls.length + 8 := by simp [fullToL]; omega
theorem fullL_length (ls : List Lt) : (fullL ls).length = ls.length + 8 := by simp [fullL]
theorem fullToL_set (ls : List Lt) (k : Nat) (hk : k < 8) : (fullToL ls k).set (ls.length + k) (ltM (-77)) = fullToL ls (k + 1) := by
  unfold fullToL
  rw [List.set_append_right _ _ (by omega), show ls.length + k - ls.length = k by omega, List.set_append_right _ _ (by simp), List.length_replicate, Nat.sub_self]
  obtain ⟨m, hm⟩ : ∃ m, 8 - k = m + 1 := ⟨8 - k - 1, by omega⟩
  rw [hm, show 8 - (k + 1) = m by omega, List.replicate_succ, List.set_cons_zero, List.replicate_succ']
  simp
theorem made_lits (n : Nat) : madeCells #[.int .i64 0, .int .i64 0, .bool false] (n * 3) = (lsCells (List.replicate n lt0)).toArray := by
  apply Array.ext
  · rw [size_madeCells]; simp [lsCells_length]
  · intro i h1 h2
    rw [size_madeCells] at h1
    obtain ⟨q, r, hr, rfl⟩ : ∃ q r, r < 3 ∧ i = q * 3 + r := ⟨i / 3, i % 3, Nat.mod_lt _ (by omega), by omega⟩
    have hq : q < n := by omega
    have hg := lsCells_get (List.replicate n lt0) q (by simpa using hq)
    have e0 : (List.replicate n lt0).getD q lt0 = lt0 := by simp [hq]
    rw [e0] at hg
    rcases (show r = 0 ∨ r = 1 ∨ r = 2 by omega) with rfl | rfl | rfl
    · have := hg.1
      rw [List.getElem?_eq_some_iff] at this
      obtain ⟨_, e⟩ := this
      have e' : (lsCells (List.replicate n lt0))[q * 3 + 0]'(by simpa using h2) = .int .i64 lt0.x := e
      simp only [List.getElem_toArray, e']
      simp [madeCells, lt0, Nat.mul_mod_left]
    · have := hg.2.1
      rw [List.getElem?_eq_some_iff] at this
      obtain ⟨_, e⟩ := this
      simp only [List.getElem_toArray, e]
      simp [madeCells, lt0, show (q * 3 + 1) % 3 = 1 by omega]
    · have := hg.2.2
      rw [List.getElem?_eq_some_iff] at this
      obtain ⟨_, e⟩ := this
      simp only [List.getElem_toArray, e]
      simp [madeCells, lt0, show (q * 3 + 2) % 3 = 2 by omega]
theorem LitsAt.src {w : World} {a : Option Addr} {ls : List Lt} (h : LitsAt w a ls) : lsCells ls = [] ∨ ∃ ad, a = some ad ∧ ∀ j v, (lsCells ls)[j]? = some v → w.cell? (ad.add j) = some v := by
  rcases h with rfl | ⟨b, o, rfl, h⟩
  · exact .inl rfl
  · refine .inr ⟨_, rfl, fun j v hj => ?_⟩
    have hadd : (⟨b, o, none⟩ : Addr).add j = ⟨b, o + j, none⟩ := by unfold Addr.add; split <;> simp_all
    by_cases hl : j < ls.length * 3
    · obtain ⟨q, r, hr, rfl⟩ : ∃ q r, r < 3 ∧ j = q * 3 + r := ⟨j / 3, j % 3, Nat.mod_lt _ (by omega), by omega⟩
      have hq : q < ls.length := by omega
      have hg := lsCells_get ls q hq
      obtain ⟨c1, c2, c3⟩ := h q hq
      rw [hadd]
      rcases (show r = 0 ∨ r = 1 ∨ r = 2 by omega) with rfl | rfl | rfl
      · rw [Nat.add_zero] at *; rw [hg.1] at hj; rw [c1]; exact hj
      · rw [hg.2.1] at hj; rw [← Nat.add_assoc, c2]; exact hj
      · rw [hg.2.2] at hj; rw [← Nat.add_assoc, c3]; exact hj
    · rw [List.getElem?_eq_none (by rw [lsCells_length]; omega)] at hj; cases hj
theorem lsCells_one (ls : List Lt) : ∀ u ∈ lsCells ls, u.oneCell' = true := by
  intro u hu
  simp only [lsCells, List.mem_flatMap] at hu
  obtain ⟨l, _, hl⟩ := hu
  exact ltCells_one l u hl
set_option maxRecDepth 100000 in
set_option maxHeartbeats 400000 in
theorem fullLits_nil (w : World) : Calls Try.prog 36 #[.slice none 0 0] w fun e w' => e = .returned (.slice none 0 0) ∧ w' = w := by
  have qn := nil_eql 45 44 Try.underlying45
  go_enter Try.func36, Try.ntmps36
  go_wp2_with fail
  go_ret
  exact ⟨rfl, rfl⟩
set_option maxRecDepth 100000 in
set_option maxHeartbeats 400000 in
theorem fullLits_any (ad : Addr) (cap : Nat) (ls : List Lt) (w : World) (hx : LitsAt w (some ad) ls) (hlen : ls.length ≤ 5864062014634) :
    Calls Try.prog 36 #[.slice (some ad) ls.length cap] w fun e w' => e = .returned (.slice (some ⟨w.heap.size, 0, none⟩) (ls.length + 8) (ls.length + 8)) ∧ LRow w' w.heap.size (fullL ls) ∧ Below w.heap.size w w' := by
  obtain ⟨i1, hi1, hy0, hy1, hy2⟩ := info_parts info_lit
  have hsz : (Try.prog.info? 44).map (·.size) = some 3 := by rw [hi1]; simp [hy1]
  have qn := nil_eql 45 44 Try.underlying45
  go_enter Try.func36, Try.ntmps36
  go_upto_region 4 with (at_make; refine wpList_make_any _ rfl _ _ 45 rfl 44 i1 (.agg #[.int .i64 0, .int .i64 0, .bool false]) 3 Try.underlying45 hi1 hy0 hy1 _ _ _ _ (ls.length + 8) rfl rfl (by omega) (by omega) (by rw [hy2]; omega) (by omega) ?_)
  have hb0 : Below w.heap.size w (w.alloc (.cells (madeCells #[.int .i64 0, .int .i64 0, .bool false] ((ls.length + 8) * 3)) 44)) := (Below.refl _ _).alloc (Nat.le_refl _) _
  have hg0 : (w.alloc (.cells (madeCells #[.int .i64 0, .int .i64 0, .bool false] ((ls.length + 8) * 3)) 44)).heap[w.heap.size]? = some (.cells (lsCells (List.replicate (ls.length + 8) lt0)).toArray 44 (0, 0)) := by
    rw [made_lits]
    exact heap_at_new _ _ _ rfl
  have hsrc := (hx.below hb0).src
  go_wp2_with (refine wpList_copy_rows rfl (.tmp 11) (.tmp 12) 45 45 rfl 44 3 Try.underlying45 hsz (by decide) w.heap.size (ls.length + 8) (ls.length + 8) (some ad) ls.length cap rfl rfl (lsCells (List.replicate (ls.length + 8) lt0)) 44 hg0 (lsCells ls) (by rw [lsCells_length]; simp) hsrc (by rw [lsCells_length, lsCells_length, List.length_replicate]; omega) (lsCells_one _) ?_)
  intro w1 hg1 hgr1
  have hrow1 : LRow w1 w.heap.size (fullToL ls 0) := by
    unfold LRow
    rw [hg1]
    congr 3
    rw [← List.replicate_append_replicate, lsCells_append, show (lsCells ls).length = (lsCells (List.replicate ls.length lt0)).length by rw [lsCells_length, lsCells_length, List.length_replicate], List.drop_left]
    simp [fullToL, lsCells_append]
  have hb1 : Below w.heap.size w w1 := hb0.grown hgr1 (by simp) (fun k hk => by injection hk with hk; omega)
  clear hg1 hgr1 hg0 hb0 hsrc
  go_wp2_with fail
  go_loopg [4] 8 (fun q s wx => ∃ k : Nat, q = 8 - k ∧ k ≤ 8 ∧ s = .int .i64 ((ls.length + k : Nat) : Int) ∧ LRow wx w.heap.size (fullToL ls k) ∧ Below w.heap.size w wx)
  case atStart => exact ⟨0, rfl, by omega, rfl, hrow1, hb1⟩
  case round =>
    obtain ⟨k, rfl, hk, rfl, hrow, hbx⟩ := hrel
    by_cases hlt : k < 8
    · obtain ⟨ck0, ck1, ck2⟩ := hrow.cell (k := ls.length + k) (by rw [fullToL_length _ _ hk]; omega)
      have fk0 := hrow.frozen ((ls.length + k) * 3)
      have fk1 := hrow.frozen ((ls.length + k) * 3 + 1)
      have fk2 := hrow.frozen ((ls.length + k) * 3 + 2)
      have Hs : Hid ((fullToL ls k).set (ls.length + k) (ltM (-77)) = fullToL ls (k + 1)) := fullToL_set ls k hlt
      have Hl : Hid (ls.length + k < (fullToL ls k).length) := by show _ < _; rw [fullToL_length _ _ hk]; omega
      generalize ((fullToL ls k).getD (ls.length + k) lt0).x = o1 at *
      generalize ((fullToL ls k).getD (ls.length + k) lt0).y = o2 at *
      generalize ((fullToL ls k).getD (ls.length + k) lt0).n = o3 at *
      generalize hi : ls.length + k = i at *
      have hil : i < ls.length + 8 := by omega
      have Hi := hide hi
      clear hi
      go_wp2_with fail
      go_roundg (8 - (k + 1))
      case measure => omega
      case rel => exact ⟨k + 1, rfl, by omega, by have := Hi.out; congr 1; omega, by rw [← Hs.out]; exact hrow.set Hl.out (ltM (-77)), ((hbx.setCell (Nat.le_refl _) _).setCell (Nat.le_refl _) _).setCell (Nat.le_refl _) _⟩
    · have Hk : Hid (k = 8) := by show k = 8; omega
      generalize hi : ls.length + k = i at *
      have hil : ¬ i < ls.length + 8 := by omega
      clear hi
      go_wp2_with fail
      go_ret
      exact ⟨rfl, by rw [← fullToL_all]; rw [Hk.out] at hrow; exact hrow, hbx⟩
end Go.Proofs.Ytiobmhfpnhjmcaa
namespace Go.Proofs.Ytiobmhfpnhjmcaa
open Go.RowKit
def overL (os : List Lt) (k : Nat) : List Lt := List.replicate k (ltM (-99)) ++ os.drop k
theorem overL_length (os : List Lt) {k : Nat} (h : k ≤ os.length) : (overL os k).length = os.length := by simp [overL]; omega
theorem overL_get (os : List Lt) {k : Nat} : (overL os k).getD k lt0 = os.getD k lt0 := by
  simp [overL, List.getElem?_append_right]
theorem overL_set (os : List Lt) {k : Nat} (h : k < os.length) : (overL os k).set k (ltM (-99)) = overL os (k + 1) := by
  unfold overL
  rw [List.set_append_right _ _ (by simp), List.length_replicate, Nat.sub_self, List.drop_eq_getElem_cons h, List.set_cons_zero, List.replicate_succ']
  simp
theorem grown_alloc {w w' : World} {row : Option Nat} (h : w.grownBy w' row) (o : Obj) : w.grownBy (w'.alloc o) row :=
  ⟨h.os, h.tape, h.output, Nat.le_trans h.size (by simp), fun k hk hne => by rw [Below.heap_alloc _ _ _ (Nat.lt_of_lt_of_le hk h.size)]; exact h.block k hk hne⟩
theorem grown_drewN {w w' : World} {row : Option Nat} (h : w.grownBy w' row) (n : Nat) : w.grownBy (w'.drewN n) row := ⟨h.os, h.tape, h.output, h.size, h.block⟩
theorem grown_trans {w w' w'' : World} {row : Option Nat} (h : w.grownBy w' row) (h' : w'.grownBy w'' row) : w.grownBy w'' row :=
  ⟨h'.os.trans h.os, h'.tape.trans h.tape, h'.output.trans h.output, Nat.le_trans h.size h'.size, fun k hk hne => (h'.block k (Nat.lt_of_lt_of_le hk h.size) hne).trans (h.block k hk hne)⟩
theorem stillLits_nil (la : Option Addr) (n lc : Nat) (w : World) : Calls Try.prog 37 #[.slice none 0 0, .slice la n lc] w fun e w' => e = .returned (.bool true) ∧ w' = w := by
  go_enter Try.func37, Try.ntmps37
  go_wp2_with fail
  refine wp_loop_rounds 1 ?_
  rw [rounds_succ]
  go_wp2_with fail
  go_ret
  exact ⟨rfl, rfl⟩
set_option maxRecDepth 100000 in
set_option maxHeartbeats 1000000 in
theorem stillLits_any (W : World) (g m cap : Nat) (os : List Lt) (la : Option Addr) (lc : Nat) (xs : List Lt) (w : World) (hW : Below W.heap.size W w) (hg : W.heap.size ≤ g) (hx : LitsAt W la xs) (hrow : LRow w g os) (hm : m ≤ os.length)
    (hbig : os.length ≤ 4611686018427387904) (hmt : ∀ i, i < m → os.getD i lt0 = if i < xs.length then xs.getD i lt0 else ltM (-77)) :
    Calls Try.prog 37 #[.slice (some ⟨g, 0, none⟩) m cap, .slice la xs.length lc] w fun e w' => e = .returned (.bool true) ∧ LRow w' g (overL os m) ∧ w.grownBy w' (some g) := by
  have Hmt := hide hmt
  clear hmt
  have hglt := hrow.lt
  go_enter Try.func37, Try.ntmps37
  go_wp2_with fail
  go_loopg [5] m (fun q s wx => ∃ k : Nat, q = m - k ∧ k ≤ m ∧ s = .int .i64 k ∧ LRow wx g (overL os k) ∧ w.grownBy wx (some g))
  case atStart => exact ⟨0, rfl, by omega, rfl, hrow, World.grownBy.refl _ _⟩
  case round =>
    obtain ⟨k, rfl, hk, rfl, hr, hgr⟩ := hrel
    by_cases hlt : k < m
    · obtain ⟨c0, c1, c2⟩ := hr.cell (k := k) (by rw [overL_length _ (by omega)]; omega)
      have f0 := hr.frozen (k * 3)
      have f1 := hr.frozen (k * 3 + 1)
      have f2 := hr.frozen (k * 3 + 2)
      have hgw := hr.lt
      rw [overL_get] at c0 c1 c2
      have hk1 := Hmt.out k hlt
      have Hs : Hid ((overL os k).set k (ltM (-99)) = overL os (k + 1)) := overL_set os (by omega)
      have Hl : Hid (k < (overL os k).length) := by show _ < _; rw [overL_length _ (by omega)]; omega
      by_cases hl : k < xs.length
      · rw [if_pos hl] at hk1
        have hbx : Below W.heap.size W wr := hW.grown hgr hW.size (fun q hq => by injection hq with hq; omega)
        obtain ⟨b, o, rfl, xc⟩ := (hx.below hbx).get hl
        obtain ⟨x0, x1, x2⟩ := xc k hl
        have hbw := block_lt x0
        rw [hk1] at c0 c1 c2
        clear hk1 xc
        have hg1 : decide ((xs.length : Int) ≤ (k : Int)) = false := by simp; omega
        have hg2 : decide (xs.length ≤ k) = false := by simp; omega
        generalize (xs.getD k lt0).x = v1 at *
        generalize (xs.getD k lt0).y = v2 at *
        generalize (xs.getD k lt0).n = v3 at *
        go_upto_region 5 with fail
        go_quiet (fail)
        go_wp2_with fail
        go_roundg (m - (k + 1))
        case measure => omega
        case rel => exact ⟨k + 1, rfl, by omega, by go_num, by rw [← Hs.out]; exact LRow.set (heap_at_old _ _ hr) Hl.out (ltM (-99)), grown_set (grown_set (grown_set (grown_drewN (grown_alloc hgr _) _)))⟩
      · rw [if_neg hl] at hk1
        rw [hk1] at c0 c1 c2
        clear hk1
        simp only [ltM] at c0 c1 c2
        have hg1 : decide ((k : Int) < (xs.length : Int)) = false := by simp; omega
        have hg2 : decide (xs.length ≤ k) = true := by simp; omega
        have hg3 : decide (k < xs.length) = false := by simp; omega
        go_upto_region 5 with fail
        go_quiet (fail)
        go_wp2_with fail
        go_roundg (m - (k + 1))
        case measure => omega
        case rel => exact ⟨k + 1, rfl, by omega, by go_num, by rw [← Hs.out]; exact LRow.set (heap_at_old _ _ hr) Hl.out (ltM (-99)), grown_set (grown_set (grown_set (grown_drewN (grown_alloc hgr _) _)))⟩
    · have Hkm : Hid (k = m) := by show k = m; omega
      go_wp2_with fail
      go_ret
      exact ⟨rfl, by rw [Hkm.out] at hr; exact hr, hgr⟩
end Go.Proofs.Ytiobmhfpnhjmcaa
namespace Go.Proofs.Ytiobmhfpnhjmcaa
open Go.RowKit
def tabG {α : Type} (n : Nat) (f : Nat → α) : List α := (List.range n).map f
theorem tabG_length {α : Type} (n : Nat) (f : Nat → α) : (tabG n f).length = n := by simp [tabG]
theorem tabG_getD {α : Type} (n : Nat) (f : Nat → α) (d : α) {t : Nat} (h : t < n) : (tabG n f).getD t d = f t := by simp [tabG, h]
theorem tabG_congr {α : Type} {n : Nat} {f g : Nat → α} (h : ∀ t, t < n → f t = g t) : tabG n f = tabG n g := List.map_congr_left (fun t ht => h t (by simpa using ht))
theorem tabG_set {α : Type} (n : Nat) (f : Nat → α) (k : Nat) (v : α) : (tabG n f).set k v = tabG n (fun t => if t = k then v else f t) := by
  apply List.ext_getElem (by simp [tabG])
  intro t h1 h2
  simp only [tabG, List.length_set, List.length_map, List.length_range] at h1
  by_cases h : t = k
  · subst h; simp [tabG]
  · simp [tabG, h, Ne.symm h]
def TRow (w : World) (g : Nat) (ts : List Tm) : Prop := w.heap[g]? = some (.cells (tsCells ts).toArray 61 (0, 0))
theorem TRow.cell {w : World} {g : Nat} {ts : List Tm} (h : TRow w g ts) {k : Nat} (hk : k < ts.length) :
    w.cell? ⟨g, k * 2, none⟩ = some (.int .i64 (ts.getD k tm0).sym) ∧ w.cell? ⟨g, k * 2 + 1, none⟩ = some (.slice (ts.getD k tm0).a (ts.getD k tm0).args.length (ts.getD k tm0).cap) := by
  have := tsCells_get ts k hk
  rw [cell_of_row _ _ _ _ _ _ h, cell_of_row _ _ _ _ _ _ h]
  simpa using this
theorem TRow.frozen {w : World} {g : Nat} {ts : List Tm} (h : TRow w g ts) (k : Nat) : w.frozen? ⟨g, k, none⟩ = false := frozen_of_row _ _ _ _ _ h
theorem TRow.lt {w : World} {g : Nat} {ts : List Tm} (h : TRow w g ts) : g < w.heap.size := (Array.getElem?_eq_some_iff.1 h).1
theorem TRow.below {w w' : World} {g : Nat} {ts : List Tm} (h : TRow w g ts) (hb : Below w.heap.size w w') : TRow w' g ts := by
  unfold TRow; rw [hb.block g h.lt]; exact h
theorem tsCells_set (ts : List Tm) (l : Tm) : ∀ i, i < ts.length → ((tsCells ts).set (i * 2) (.int .i64 l.sym)).set (i * 2 + 1) (.slice l.a l.args.length l.cap) = tsCells (ts.set i l) := by
  induction ts with
  | nil => intro i hi; simp at hi
  | cons t ts ih =>
    intro i hi
    cases i with
    | zero => rfl
    | succ i =>
      have := ih i (by simpa using hi)
      have e1 : (i + 1) * 2 = i * 2 + 2 := by omega
      have hc : ∀ q qs, tsCells (q :: qs) = .int .i64 q.sym :: .slice q.a q.args.length q.cap :: tsCells qs := fun _ _ => rfl
      show _ = tsCells (t :: ts.set i l)
      rw [e1, hc, hc, ← this]
      rfl
theorem TRow.set {w : World} {g : Nat} {ts : List Tm} (h : TRow w g ts) {k : Nat} (hk : k < ts.length) (l : Tm) :
    TRow ((w.setCell ⟨g, k * 2, none⟩ (.int .i64 l.sym)).setCell ⟨g, k * 2 + 1, none⟩ (.slice l.a l.args.length l.cap)) g (ts.set k l) := by
  unfold TRow
  have h1 := heap_setCell_same w g (k * 2) _ _ (.int .i64 l.sym) h
  have h2 := heap_setCell_same _ g (k * 2 + 1) _ _ (.slice l.a l.args.length l.cap) h1
  rw [h2, ← tsCells_set ts l k hk]
  simp
theorem made_terms (n : Nat) : madeCells #[.int .i64 0, .slice none 0 0] (n * 2) = (tsCells (List.replicate n tm0)).toArray := by
  apply Array.ext
  · rw [size_madeCells]; simp [tsCells_length]
  · intro i h1 h2
    rw [size_madeCells] at h1
    obtain ⟨q, r, hr, rfl⟩ : ∃ q r, r < 2 ∧ i = q * 2 + r := ⟨i / 2, i % 2, Nat.mod_lt _ (by omega), by omega⟩
    have hq : q < n := by omega
    have hg := tsCells_get (List.replicate n tm0) q (by simpa using hq)
    have e0 : (List.replicate n tm0).getD q tm0 = tm0 := by simp [hq]
    rw [e0] at hg
    rcases (show r = 0 ∨ r = 1 by omega) with rfl | rfl
    · have := hg.1
      rw [List.getElem?_eq_some_iff] at this
      obtain ⟨_, e⟩ := this
      have e' : (tsCells (List.replicate n tm0))[q * 2 + 0]'(by simpa using h2) = .int .i64 tm0.sym := e
      simp only [List.getElem_toArray, e']
      simp [madeCells, tm0, Nat.mul_mod_left]
    · have := hg.2
      rw [List.getElem?_eq_some_iff] at this
      obtain ⟨_, e⟩ := this
      simp only [List.getElem_toArray, e]
      simp [madeCells, tm0, show (q * 2 + 1) % 2 = 1 by omega]
def tmM (x : Int) : Tm := ⟨x, none, 0, []⟩
def hTm (t : Tm) (b : Nat) : Tm := match t.a with
  | none => ⟨t.sym, none, 0, t.args⟩
  | some _ => ⟨t.sym, some ⟨b, 0, none⟩, t.args.length + 8, t.args⟩
def hArg (t : Tm) (b : Nat) : Value := match t.a with
  | none => .slice none 0 0
  | some _ => .slice (some ⟨b, 0, none⟩) (t.args.length + 8) (t.args.length + 8)
def tDone (ts : List Tm) (bs : List Nat) (i : Nat) : List Tm := tabG (ts.length + 8) (fun j => if j < i then if j < ts.length then hTm (ts.getD j tm0) (bs.getD j 0) else tmM (-77) else tm0)
def aDone (ts : List Tm) (bs : List Nat) (i : Nat) : List Value := tabG (min i ts.length) (fun j => hArg (ts.getD j tm0) (bs.getD j 0))
theorem tDone_length (ts : List Tm) (bs : List Nat) (i : Nat) : (tDone ts bs i).length = ts.length + 8 := tabG_length _ _
theorem tDone_zero (ts : List Tm) : tDone ts [] 0 = List.replicate (ts.length + 8) tm0 := by
  unfold tDone tabG
  rw [List.map_congr_left (g := fun _ => tm0) (fun t _ => by rw [if_neg (by omega)]), List.map_const', List.length_range]
def HT (B g : Nat) (w : World) (ts : List Tm) (bs : List Nat) (A : Value) (i : Nat) : Prop :=
  B ≤ g ∧ bs.length = min i ts.length ∧ TRow w g (tDone ts bs i) ∧ w.ownsRow B 24 1 A (min i ts.length) (aDone ts bs i) ∧
  (∀ j, j < bs.length → g < bs.getD j 0 ∧ (∀ x, (ts.getD j tm0).a = some x → Row w (bs.getD j 0) (full (ts.getD j tm0).args))) ∧
  (∀ j k, j < k → k < bs.length → (ts.getD j tm0).a ≠ none → bs.getD j 0 < bs.getD k 0)
end Go.Proofs.Ytiobmhfpnhjmcaa
namespace Go.Proofs.Ytiobmhfpnhjmcaa
open Go.RowKit
theorem own_kept {w w' : World} {base : Nat} {e e' : TypeId} {size : Nat} {v : Value} {n : Nat} {xs : List Value} {g : Nat} {cur : Array Value} (h : w.ownsRow base e size v n xs) (hg : w.grownBy w' (some g)) (hr : w.heap[g]? = some (.cells cur e' (0, 0))) (hne : e' ≠ e) : w'.ownsRow base e size v n xs :=
  own_apart h hg (fun k hk => by injection hk with hk; subst hk; exact ⟨cur, e', hr, hne⟩)
theorem own_low {w w' : World} {base : Nat} {e : TypeId} {size : Nat} {v : Value} {n : Nat} {xs : List Value} {g : Nat} (h : w.ownsRow base e size v n xs) (hg : w.grownBy w' (some g)) (hlt : g < base) : w'.ownsRow base e size v n xs := by
  refine h.kept hg ?_
  cases hv : v.ownBlock with
  | none => exact .inl rfl
  | some k => have := (h.lt k hv).1; exact .inr (fun e => by injection e with e; omega)
theorem Row.apart {w w' : World} {b : Nat} {c : List Int} {row : Option Nat} (h : Row w b c) (hg : w.grownBy w' row) (hr : ∀ g, row = some g → ∃ cur e', w.heap[g]? = some (.cells cur e' (0, 0)) ∧ e' ≠ 3) : Row w' b c := by
  refine h.kept hg (fun e => ?_)
  obtain ⟨cur, e', h1, h2⟩ := hr b e.symm
  unfold Row at h
  rw [h] at h1
  injection h1 with h1
  injection h1 with _ h1
  exact h2 h1.symm
theorem Row.up {w w' : World} {b : Nat} {c : List Int} (h : Row w b c) (hb : Below w.heap.size w w') : Row w' b c := h.below hb h.lt
theorem grown_one {w : World} {g k : Nat} {v : Value} : w.grownBy (w.setCell ⟨g, k, none⟩ v) (some g) := grown_set (World.grownBy.refl _ _)
theorem tDone_mark (ts : List Tm) (bs : List Nat) (i : Nat) (hi : ts.length ≤ i) : (tDone ts bs i).set i (tmM (-77)) = tDone ts bs (i + 1) := by
  unfold tDone
  rw [tabG_set]
  refine tabG_congr (fun t _ => ?_)
  by_cases h : t = i
  · subst h; rw [if_pos rfl, if_pos (by omega), if_neg (by omega)]
  · rw [if_neg h]
    by_cases h2 : t < i
    · have h3 : t < i + 1 := by omega
      simp only [h2, h3, if_true]
    · have h3 : ¬ t < i + 1 := by omega
      simp only [h2, h3, if_false]
theorem tDone_add (ts : List Tm) (bs : List Nat) (i b : Nat) (x : Tm) (hi : i < ts.length) (hb : bs.length = i) : ((tDone ts bs i).set i x).set i (hTm (ts.getD i tm0) b) = tDone ts (bs ++ [b]) (i + 1) := by
  unfold tDone
  rw [tabG_set, tabG_set]
  refine tabG_congr (fun t _ => ?_)
  by_cases h : t = i
  · subst h
    rw [if_pos rfl, if_pos (by omega), if_pos hi, ← hb, getD_snoc_eq]
  · rw [if_neg h, if_neg h]
    by_cases h2 : t < i
    · have h4 : t < i + 1 := by omega
      have h3 : t < ts.length := by omega
      simp only [h2, h4, h3, if_true]
      rw [getD_snoc_lt _ _ _ (by omega)]
    · have h4 : ¬ t < i + 1 := by omega
      simp only [h2, h4, if_false]
theorem aDone_add (ts : List Tm) (bs : List Nat) (i b : Nat) (hi : i < ts.length) (hb : bs.length = i) : aDone ts bs i ++ [hArg (ts.getD i tm0) b] = aDone ts (bs ++ [b]) (i + 1) := by
  unfold aDone
  rw [Nat.min_eq_left (by omega), Nat.min_eq_left (by omega)]
  unfold tabG
  rw [List.range_succ, List.map_append]
  congr 1
  · refine List.map_congr_left (fun t ht => ?_)
    rw [getD_snoc_lt _ _ _ (by have := List.mem_range.1 ht; omega)]
  · simp [← hb]
theorem aDone_mark (ts : List Tm) (bs : List Nat) (i : Nat) (hi : ts.length ≤ i) : aDone ts bs (i + 1) = aDone ts bs i ∧ min (i + 1) ts.length = min i ts.length := by
  unfold aDone
  rw [Nat.min_eq_right (by omega), Nat.min_eq_right (by omega)]
  exact ⟨rfl, rfl⟩
theorem HT.mark {B g : Nat} {w w' : World} {ts : List Tm} {bs : List Nat} {A : Value} {i : Nat} (h : HT B g w ts bs A i) (hi : ts.length ≤ i) (hg : w.grownBy w' (some g)) (ht : TRow w' g (tDone ts bs (i + 1))) : HT B g w' ts bs A (i + 1) := by
  obtain ⟨h1, h2, h3, h4, h5, h6⟩ := h
  obtain ⟨e1, e2⟩ := aDone_mark ts bs i hi
  refine ⟨h1, by rw [e2]; exact h2, ht, by rw [e1, e2]; exact own_kept h4 hg h3 (by decide), fun j hj => ⟨(h5 j hj).1, fun x hx => ?_⟩, h6⟩
  exact ((h5 j hj).2 x hx).kept hg (fun e => by injection e with e; have := (h5 j hj).1; omega)
theorem HT.add {B g H : Nat} {w w1 w2 w3 w4 w5 : World} {ts : List Tm} {bs : List Nat} {A A' : Value} {i : Nat} {x : Tm} {o : Obj} (h : HT B g w ts bs A i) (hi : i < ts.length) (hH : H < B)
    (hg1 : w.grownBy w1 (some g)) (ht1 : TRow w1 g ((tDone ts bs i).set i x)) (hb2 : Below w1.heap.size w1 w2) (hr2 : ∀ y, (ts.getD i tm0).a = some y → Row w2 w1.heap.size (full (ts.getD i tm0).args))
    (hg3 : (w2.alloc o).grownBy w3 A.ownBlock) (ho3 : w3.ownsRow B 24 1 A' (i + 1) (aDone ts bs i ++ [hArg (ts.getD i tm0) w1.heap.size])) (hg4 : w3.grownBy w4 (some H))
    (hg5 : w4.grownBy w5 (some g)) (ht5 : TRow w4 g ((tDone ts bs i).set i x) → TRow w5 g (((tDone ts bs i).set i x).set i (hTm (ts.getD i tm0) w1.heap.size))) : HT B g w5 ts (bs ++ [w1.heap.size]) A' (i + 1) := by
  obtain ⟨h1, h2, h3, h4, h5, h6⟩ := h
  rw [Nat.min_eq_left (by omega)] at h2 h4
  have hA1 := own_kept h4 hg1 h3 (by decide)
  have hA2 := own_below hA1 hb2
  have hAt : ∀ e0, 24 ≠ e0 → ∀ k, A.ownBlock = some k → ∃ cur e', (w2.alloc o).heap[k]? = some (.cells cur e' (0, 0)) ∧ e' ≠ e0 := fun e0 hne => own_type (hA2.alloc o) hne
  have hlift : ∀ {b c}, b ≠ g → b ≠ H → Row w2 b c → Row w5 b c := by
    intro b c hb hbH hr
    have r3 : Row w3 b c := Row.apart (heap_at_old _ _ hr) hg3 (hAt _ (by decide))
    have r4 : Row w4 b c := r3.kept hg4 (fun e => hbH (by injection e))
    exact r4.kept hg5 (fun e => hb (by injection e))
  have ht2 := ht1.below hb2
  have ht3 : TRow w3 g ((tDone ts bs i).set i x) := by
    unfold TRow
    rw [hg3.block g (by have := ht2.lt; simp; omega) (fun e => ?_)]
    · exact heap_at_old _ _ ht2
    · obtain ⟨cur, e', q1, q2⟩ := hAt 61 (by decide) g e.symm
      rw [heap_at_old _ _ ht2] at q1
      injection q1 with q1
      injection q1 with _ q1
      exact q2 q1.symm
  have ht4 : TRow w4 g ((tDone ts bs i).set i x) := by
    unfold TRow
    rw [hg4.block g ht3.lt (fun e => by injection e with e; omega)]; exact ht3
  have hgw1 : g < w1.heap.size := ht1.lt
  have hlt0 := h3.lt
  refine ⟨h1, by rw [List.length_append, h2, Nat.min_eq_left (by omega)]; rfl, ?_, ?_, ?_, ?_⟩
  · rw [← tDone_add ts bs i _ x hi h2]; exact ht5 ht4
  · rw [Nat.min_eq_left (by omega), ← aDone_add ts bs i _ hi h2]
    exact own_kept (own_low ho3 hg4 hH) hg5 ht4 (by decide)
  · intro j hj
    simp only [List.length_append, List.length_cons, List.length_nil] at hj
    by_cases hjl : j < bs.length
    · rw [getD_snoc_lt _ _ _ hjl]
      have q := h5 j hjl
      refine ⟨q.1, fun y hy => hlift (by omega) (by omega) ((q.2 y hy |>.kept hg1 (fun e => by injection e with e; omega)).up hb2)⟩
    · have : j = bs.length := by omega
      subst this
      rw [getD_snoc_eq, h2]
      exact ⟨hgw1, fun y hy => hlift (by omega) (by omega) (hr2 y hy)⟩
  · intro j k hjk hk hn
    simp only [List.length_append, List.length_cons, List.length_nil] at hk
    by_cases hkl : k < bs.length
    · rw [getD_snoc_lt _ _ _ hkl, getD_snoc_lt _ _ _ (by omega)]; exact h6 j k hjk hkl hn
    · have : k = bs.length := by omega
      subst this
      rw [getD_snoc_eq, getD_snoc_lt _ _ _ hjk]
      cases ha : (ts.getD j tm0).a with
      | none => exact absurd ha hn
      | some y =>
        have r := ((h5 j hjk).2 y ha).kept hg1 (fun e => by injection e with e; have := (h5 j hjk).1; omega)
        exact r.lt
end Go.Proofs.Ytiobmhfpnhjmcaa
namespace Go.Proofs.Ytiobmhfpnhjmcaa
open Go.RowKit
theorem HT.kept {B g H : Nat} {w w' : World} {ts : List Tm} {bs : List Nat} {A : Value} {i : Nat} (h : HT B g w ts bs A i) (hH : H < B) (hg : w.grownBy w' (some H)) : HT B g w' ts bs A i := by
  obtain ⟨h1, h2, h3, h4, h5, h6⟩ := h
  refine ⟨h1, h2, ?_, own_low h4 hg hH, fun j hj => ⟨(h5 j hj).1, fun x hx => ((h5 j hj).2 x hx).kept hg (fun e => by injection e with e; have := (h5 j hj).1; omega)⟩, h6⟩
  unfold TRow
  rw [hg.block g h3.lt (fun e => by injection e with e; omega)]; exact h3
theorem LRow.kept {w w' : World} {g : Nat} {c : List Lt} {row : Option Nat} (h : LRow w g c) (hg : w.grownBy w' row) (hne : some g ≠ row) : LRow w' g c := by
  unfold LRow
  rw [hg.block g h.lt hne]; exact h
theorem LRow.up {w w' : World} {b : Nat} {c : List Lt} (h : LRow w b c) (hb : Below w.heap.size w w') : LRow w' b c := by
  unfold LRow; rw [hb.block b h.lt]; exact h
theorem LRow.apart {w w' : World} {b : Nat} {c : List Lt} {row : Option Nat} (h : LRow w b c) (hg : w.grownBy w' row) (hr : ∀ g, row = some g → ∃ cur e', w.heap[g]? = some (.cells cur e' (0, 0)) ∧ e' ≠ 44) : LRow w' b c := by
  refine h.kept hg (fun e => ?_)
  obtain ⟨cur, e', h1, h2⟩ := hr b e.symm
  unfold LRow at h
  rw [h] at h1
  injection h1 with h1
  injection h1 with _ h1
  exact h2 h1.symm
def CRow (w : World) (g : Nat) (vs : List Value) : Prop := w.heap[g]? = some (.cells vs.toArray 45 (0, 0))
theorem CRow.cell {w : World} {g : Nat} {vs : List Value} (h : CRow w g vs) {k : Nat} (hk : k < vs.length) : w.cell? ⟨g, k, none⟩ = some (vs.getD k undef) := by
  rw [cell_of_row _ _ _ _ _ _ h]; simp [hk]
theorem CRow.frozen {w : World} {g : Nat} {vs : List Value} (h : CRow w g vs) (k : Nat) : w.frozen? ⟨g, k, none⟩ = false := frozen_of_row _ _ _ _ _ h
theorem CRow.lt {w : World} {g : Nat} {vs : List Value} (h : CRow w g vs) : g < w.heap.size := (Array.getElem?_eq_some_iff.1 h).1
theorem CRow.set {w : World} {g : Nat} {vs : List Value} (h : CRow w g vs) (k : Nat) (v : Value) : CRow (w.setCell ⟨g, k, none⟩ v) g (vs.set k v) := by
  unfold CRow
  rw [heap_setCell_same _ _ _ _ _ _ h]
  simp
theorem CRow.kept {w w' : World} {g : Nat} {vs : List Value} {row : Option Nat} (h : CRow w g vs) (hg : w.grownBy w' row) (hne : some g ≠ row) : CRow w' g vs := by
  unfold CRow
  rw [hg.block g h.lt hne]; exact h
theorem CRow.up {w w' : World} {g : Nat} {vs : List Value} (h : CRow w g vs) (hb : Below w.heap.size w w') : CRow w' g vs := by
  unfold CRow; rw [hb.block g h.lt]; exact h
def hCl (q : Cl) (b : Nat) : Value := match q.a with
  | none => .slice none 0 0
  | some _ => .slice (some ⟨b, 0, none⟩) q.ls.length (q.ls.length + 8)
def hLit (q : Cl) (b : Nat) : Value := match q.a with
  | none => .slice none 0 0
  | some _ => .slice (some ⟨b, 0, none⟩) (q.ls.length + 8) (q.ls.length + 8)
def cVal (cs : List Cl) (bs : List Nat) (j : Nat) : Value := if j < cs.length then hCl (cs.getD j cl0) (bs.getD j 0) else .slice (some ⟨bs.getD j 0, 0, none⟩) 1 1
def cDone (cs : List Cl) (bs : List Nat) (i : Nat) : List Value := tabG (cs.length + 8) (fun j => if j < i then cVal cs bs j else .slice none 0 0)
def lDone (cs : List Cl) (bs : List Nat) (i : Nat) : List Value := tabG (min i cs.length) (fun j => hLit (cs.getD j cl0) (bs.getD j 0))
theorem cDone_length (cs : List Cl) (bs : List Nat) (i : Nat) : (cDone cs bs i).length = cs.length + 8 := tabG_length _ _
theorem cDone_zero (cs : List Cl) : cDone cs [] 0 = List.replicate (cs.length + 8) (.slice none 0 0) := by
  unfold cDone tabG
  rw [List.map_congr_left (g := fun _ => Value.slice none 0 0) (fun t _ => by rw [if_neg (by omega)]), List.map_const', List.length_range]
def cRowLits (cs : List Cl) (j : Nat) : List Lt := if j < cs.length then fullL (cs.getD j cl0).ls else [ltM (-77)]
def cHas (cs : List Cl) (j : Nat) : Prop := cs.length ≤ j ∨ (cs.getD j cl0).a ≠ none
def HC (B g : Nat) (w : World) (cs : List Cl) (bs : List Nat) (L : Value) (i : Nat) : Prop :=
  B ≤ g ∧ bs.length = i ∧ CRow w g (cDone cs bs i) ∧ w.ownsRow (g + 1) 45 1 L (min i cs.length) (lDone cs bs i) ∧
  (∀ j, j < i → g < bs.getD j 0 ∧ (cHas cs j → LRow w (bs.getD j 0) (cRowLits cs j))) ∧ (∀ j k, j < k → k < i → cHas cs j → bs.getD j 0 < bs.getD k 0)
theorem cDone_add (cs : List Cl) (bs : List Nat) (i b : Nat) (hb : bs.length = i) (hi : i < cs.length + 8) : (cDone cs bs i).set i (cVal cs (bs ++ [b]) i) = cDone cs (bs ++ [b]) (i + 1) := by
  unfold cDone
  rw [tabG_set]
  refine tabG_congr (fun t _ => ?_)
  by_cases h : t = i
  · subst h
    rw [if_pos rfl, if_pos (by omega)]
  · rw [if_neg h]
    by_cases h2 : t < i
    · have h4 : t < i + 1 := by omega
      simp only [h2, h4, if_true, cVal]
      rw [getD_snoc_lt _ _ _ (by omega)]
    · have h4 : ¬ t < i + 1 := by omega
      simp only [h2, h4, if_false]
theorem cDone_twice (cs : List Cl) (bs : List Nat) (i : Nat) (x y : Value) : ((cDone cs bs i).set i x).set i y = (cDone cs bs i).set i y := List.set_set ..
theorem lDone_add (cs : List Cl) (bs : List Nat) (i b : Nat) (hi : i < cs.length) (hb : bs.length = i) : lDone cs bs i ++ [hLit (cs.getD i cl0) b] = lDone cs (bs ++ [b]) (i + 1) := by
  unfold lDone
  rw [Nat.min_eq_left (by omega), Nat.min_eq_left (by omega)]
  unfold tabG
  rw [List.range_succ, List.map_append]
  congr 1
  · refine List.map_congr_left (fun t ht => ?_)
    rw [getD_snoc_lt _ _ _ (by have := List.mem_range.1 ht; omega)]
  · simp [← hb]
theorem lDone_mark (cs : List Cl) (bs : List Nat) (i b : Nat) (hb : bs.length = i) (hi : cs.length ≤ i) : lDone cs (bs ++ [b]) (i + 1) = lDone cs bs i ∧ min (i + 1) cs.length = min i cs.length := by
  unfold lDone
  rw [Nat.min_eq_right (by omega), Nat.min_eq_right (by omega)]
  refine ⟨tabG_congr (fun t ht => ?_), rfl⟩
  rw [getD_snoc_lt _ _ _ (by omega)]
theorem HC.next {B g : Nat} {w w5 : World} {cs : List Cl} {bs : List Nat} {L L' : Value} {i b : Nat} (h : HC B g w cs bs L i)
    (hold : ∀ j, j < i → ∀ c, LRow w (bs.getD j 0) c → LRow w5 (bs.getD j 0) c) (hc : CRow w5 g (cDone cs (bs ++ [b]) (i + 1))) (hL : w5.ownsRow (g + 1) 45 1 L' (min (i + 1) cs.length) (lDone cs (bs ++ [b]) (i + 1)))
    (hb : w.heap.size ≤ b) (hn : cHas cs i → LRow w5 b (cRowLits cs i)) : HC B g w5 cs (bs ++ [b]) L' (i + 1) := by
  obtain ⟨h1, h2, h3, h4, h5, h6⟩ := h
  have hglt := h3.lt
  refine ⟨h1, by simp [h2], hc, hL, fun j hj => ?_, fun j k hjk hk hh => ?_⟩
  · by_cases hjl : j < i
    · rw [getD_snoc_lt _ _ _ (by omega)]
      exact ⟨(h5 j hjl).1, fun q => hold j hjl _ ((h5 j hjl).2 q)⟩
    · have : j = i := by omega
      subst this
      rw [show (bs ++ [b]).getD j 0 = b by rw [← h2]; exact getD_snoc_eq _ _ _]
      exact ⟨by omega, hn⟩
  · by_cases hkl : k < i
    · rw [getD_snoc_lt _ _ _ (by omega), getD_snoc_lt _ _ _ (by omega)]; exact h6 j k hjk hkl hh
    · have : k = i := by omega
      subst this
      rw [getD_snoc_lt _ _ _ (by omega), show (bs ++ [b]).getD k 0 = b by rw [← h2]; exact getD_snoc_eq _ _ _]
      have := ((h5 j hjk).2 hh).lt
      omega
end Go.Proofs.Ytiobmhfpnhjmcaa
