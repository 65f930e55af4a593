import Derived.Test.YtmampmbnjdncjaaDMLt
import Derived.Test.YtmampmbnjdncjaaDMKp
namespace Go.Proofs.Ytmampmbnjdncjaa
open Go.RowKit
set_option maxHeartbeats 400000 in
theorem bothWays_any (x y : Int) (w : World) :
    Calls Try.prog 69 #[.int .i64 x, .int .i64 y] w fun e w' => e = .returned (.agg #[.int .i64 x, .int .i64 y, .bool false, .int .i64 x, .int .i64 y, .bool true]) ∧ Below w.heap.size w w' := by
  go_enter Try.func69, Try.ntmps69
  go_wp2_with fail
  refine bodyPost_ret (v := .agg #[.int .i64 x, .int .i64 y, .bool false, .int .i64 x, .int .i64 y, .bool true]) (by simp [results, Try.results69, go_sem]) rfl ⟨rfl, ?_⟩
  exact (Below.refl _ _).alloc (Nat.le_refl _) _
def pairL (l g : Nat) : List Lt := [⟨l, g, false⟩, ⟨l, g, true⟩]
def rowL (l : Nat) : Nat → List Lt
  | 0 => []
  | k + 1 => rowL l k ++ pairL l (l + k)
def allL : Nat → List Lt
  | 0 => []
  | n + 1 => allL n ++ rowL n (9 - n)
def inOrd (E A : Nat) : List Lt := (allL 9).filter (hasS E A)
theorem rowL_length (l : Nat) : ∀ k, (rowL l k).length = k * 2
  | 0 => rfl
  | k + 1 => by simp [rowL, rowL_length l k, pairL]; omega
theorem allL_length : ∀ n, (allL n).length ≤ n * 18
  | 0 => by simp [allL]
  | n + 1 => by
    have := allL_length n
    simp only [allL, List.length_append, rowL_length]
    omega
theorem below_alloc' (w : World) (o : Obj) : Below w.heap.size w (w.alloc o) := (Below.refl _ _).alloc (Nat.le_refl _) _
theorem alloc_new' {w : World} {vs : Array Value} {t : TypeId} {i : Nat} {v : Value} (hv : vs[i]? = some v) : (w.alloc (.cells vs t)).cell? ⟨w.heap.size, i, none⟩ = some v := by simp [hv]
def IW (w : World) (B E A : Nat) (v : Value) (ls : List Lt) (W : World) : Prop :=
  W.cell? ⟨B, 0, none⟩ = some (.int .u64 E) ∧ W.cell? ⟨B, 1, none⟩ = some (.int .u64 A) ∧ W.ownsRow (B + 1) 50 3 v ls.length (lsCells ls) ∧ B + 1 ≤ W.heap.size ∧ Below B w W
theorem IW.below {w W W' : World} {B E A : Nat} {v : Value} {ls : List Lt} (h : IW w B E A v ls W) (hb : Below W.heap.size W W') : IW w B E A v ls W' :=
  ⟨cell_below hb h.1, cell_below hb h.2.1, own_below h.2.2.1 hb, Nat.le_trans h.2.2.2.1 hb.size, h.2.2.2.2.trans (hb.mono (by have := h.2.2.2.1; omega))⟩
theorem IW.append {w W W' : World} {B E A : Nat} {v v' : Value} {ls : List Lt} {t : Lt} (h : IW w B E A v ls W) (hg : W.grownBy W' v.ownBlock) (ho : W'.ownsRow (B + 1) 50 3 v' (ls.length + 1) (lsCells ls ++ ltCells t)) :
    IW w B E A v' (ls ++ [t]) W' := by
  obtain ⟨h0, h1, h2, h3, h4⟩ := h
  have hv : some B ≠ v.ownBlock := fun e => by have := (h2.lt B e.symm).1; omega
  refine ⟨hg.cell h0 hv, hg.cell h1 hv, ?_, by have := hg.size; omega, h4.grown hg (by omega) (fun k hk => by have := (h2.lt k hk).1; omega)⟩
  rw [lsCells_snoc]; simpa using ho
theorem filter_snoc (p : Lt → Bool) (l : List Lt) (t : Lt) : (l ++ [t]).filter p = if p t then l.filter p ++ [t] else l.filter p := by
  simp only [List.filter_append]
  cases h : p t <;> simp [h]
theorem ix_zero (x y : Int) (w : World) : Sem.run Try.prog (Instr.index 107 (.agg #[.int .i64 x, .int .i64 y, .bool false, .int .i64 x, .int .i64 y, .bool true]) (.int .i64 0)) w = .ok (.agg #[.int .i64 x, .int .i64 y, .bool false]) w := by
  simp [Instr.index, run_underlying Try.underlying107, asIntOf, go_sem]
theorem ix_one (x y : Int) (w : World) : Sem.run Try.prog (Instr.index 107 (.agg #[.int .i64 x, .int .i64 y, .bool false, .int .i64 x, .int .i64 y, .bool true]) (.int .i64 1)) w = .ok (.agg #[.int .i64 x, .int .i64 y, .bool true]) w := by
  simp [Instr.index, run_underlying Try.underlying107, asIntOf, go_sem]
set_option maxRecDepth 100000 in
set_option maxHeartbeats 1000000 in
theorem inOrder_any (E A : Nat) (w : World) (hE : E < 18446744073709551616) (hA : A < 18446744073709551616) :
    Calls Try.prog 51 #[.agg #[.int .u64 E, .int .u64 A]] w fun e w' => ∃ va vc, e = .returned (.slice va (inOrd E A).length vc) ∧ w'.ownsRow w.heap.size 50 3 (.slice va (inOrd E A).length vc) (inOrd E A).length (lsCells (inOrd E A)) ∧ Below w.heap.size w w' := by
  obtain ⟨i1, hi1, hy0, hy1, hy2⟩ := info_parts info_lit
  obtain ⟨W, hW⟩ : ∃ W, W = w.alloc (.cells #[.int .u64 E, .int .u64 A] 80) := ⟨_, rfl⟩
  have hI0 : IW w w.heap.size E A (.slice none 0 0) [] W := by
    rw [hW]
    exact ⟨by simp, by simp, World.ownsRow_nil _ _ _ _, by simp, below_alloc' _ _⟩
  go_enter Try.func51, Try.ntmps51
  go_upto_region 1 with fail
  rw [← hW]
  clear hW
  generalize hB : w.heap.size = B at *
  have HB := hide hB
  clear hB
  go_wp2_with fail
  go_loopg [3, 8] 9 (fun g s3 s8 wr => ∃ (i : Nat) (va : Option Addr) (vc : Nat) (ls : List Lt), g = 9 - i ∧ i ≤ 9 ∧ s8 = .int .i64 i ∧ s3 = .slice va ls.length vc ∧ Hid (ls = (allL i).filter (hasS E A)) ∧ IW w B E A (.slice va ls.length vc) ls wr)
  case atStart => exact ⟨0, none, 0, [], rfl, by omega, rfl, rfl, rfl, hI0⟩
  case round =>
    obtain ⟨i, va, vc, ls, rfl, hi, rfl, rfl, Hls, hI⟩ := hrel
    by_cases hlt : i < 9
    · clear hI0
      have hi9 : (i : Int) < 9 := by omega
      go_wp2_with fail
      go_loopg [3, 5] (9 - i) (fun g s3 s5 wr => ∃ (k : Nat) (va : Option Addr) (vc : Nat) (ls : List Lt), g = 9 - i - k ∧ k ≤ 9 - i ∧ s5 = .int .i64 (i + k : Nat) ∧ s3 = .slice va ls.length vc ∧ Hid (ls = (allL i ++ rowL i k).filter (hasS E A)) ∧ IW w B E A (.slice va ls.length vc) ls wr)
      case atStart => exact ⟨0, va, vc, ls, rfl, by omega, rfl, rfl, (by show _ = _; rw [Hls.out]; simp [rowL]), hI⟩
      case round =>
        clear Hls hI
        obtain ⟨k, va, vc, ls, rfl, hk, rfl, rfl, Hls, hI⟩ := hrel
        by_cases hk9 : k < 9 - i
        · obtain ⟨j, hj⟩ : ∃ j : Nat, j = i + k := ⟨_, rfl⟩
          rw [← hj]
          have hj9 : j ≤ 8 := by omega
          have Hj := hide hj
          clear hj
          go_wp2_with fail
          refine (bothWays_any i j _).mono ?_
          rintro e w2 ⟨rfl, hb2⟩
          have hI2 := hI.below hb2
          clear hI hb2
          go_wp2_with fail
          go_loopg [3, 19] 2 (fun g s3 s19 wr => ∃ (b : Nat) (va : Option Addr) (vc : Nat) (ls : List Lt), g = 2 - b ∧ b ≤ 2 ∧ s19 = .int .i64 b ∧ s3 = .slice va ls.length vc ∧ Hid (ls = (allL i ++ rowL i k ++ (pairL i j).take b).filter (hasS E A)) ∧ IW w B E A (.slice va ls.length vc) ls wr)
          case atStart => exact ⟨0, va, vc, ls, rfl, by omega, rfl, rfl, (by show _ = _; rw [Hls.out]; simp), hI2⟩
          case round =>
            clear Hls hI2
            obtain ⟨b, va, vc, ls, rfl, hb, rfl, rfl, Hls, hI⟩ := hrel
            have hb3 : b = 0 ∨ b = 1 ∨ b = 2 := by omega
            clear hb
            rcases hb3 with rfl | rfl | rfl
            · have Hst : Hid ((allL i ++ rowL i k ++ (pairL i j).take 1).filter (hasS E A) = if hasS E A ⟨i, j, false⟩ then ls ++ [⟨i, j, false⟩] else ls) := by
                show _ = _
                rw [Hls.out, ← filter_snoc]; simp [pairL]
              have hIa := hI.below (below_alloc' wr (.cells #[.int .i64 i, .int .i64 j, .bool false] 50))
              have hcon := has_any i j false E A (wr.alloc (.cells #[.int .i64 i, .int .i64 j, .bool false] 50)) (by omega) (by omega) (by omega) (by omega) hE hA
              have Hcon := hide hcon
              obtain ⟨c0, c1, _, hsz, _⟩ := id hI
              have z0 : B < wr.heap.size := by omega
              have z1 : ¬ B = wr.heap.size := by omega
              clear hcon
              have ix0 := ix_zero i j
              have ix1 := ix_one i j
              go_wp2_with fail
              refine Hcon.out.mono ?_
              rintro e w3 ⟨rfl, hb3⟩
              have hI3 := hIa.below hb3
              have m0 := cell_below hb3 (alloc_new' (w := wr) (vs := #[.int .i64 i, .int .i64 j, .bool false]) (t := 50) (i := 0) rfl)
              have m1 := cell_below hb3 (alloc_new' (w := wr) (vs := #[.int .i64 i, .int .i64 j, .bool false]) (t := 50) (i := 1) rfl)
              have m2 := cell_below hb3 (alloc_new' (w := wr) (vs := #[.int .i64 i, .int .i64 j, .bool false]) (t := 50) (i := 2) rfl)
              clear Hcon hIa hb3 c0 c1 hsz z0 z1 hI
              cases hh : hasS E A ⟨i, j, false⟩
              · have Hst' : Hid (ls = (allL i ++ rowL i k ++ (pairL i j).take 1).filter (hasS E A)) := by show _ = _; rw [Hst.out, hh]; rfl
                go_wp2_with fail
                go_roundg (2 - 1)
                case measure => omega
                case rel => exact ⟨1, va, vc, ls, rfl, by omega, by go_num, rfl, Hst', hI3⟩
              · have Hst' : Hid (ls ++ [⟨i, j, false⟩] = (allL i ++ rowL i k ++ (pairL i j).take 1).filter (hasS E A)) := by show _ = _; rw [Hst.out, hh]; rfl
                have hll : ls.length ≤ 200 := by
                  rw [Hls.out]
                  refine Nat.le_trans (List.length_filter_le _ _) ?_
                  have h1 := allL_length i
                  have h2 := rowL_length i k
                  simp only [List.length_append, List.length_take, h2]
                  omega
                have hI4 := hI3.below (below_alloc' w3 (.cells #[.int .i64 i, .int .i64 j, .bool false] 50))
                have hown := hI4.2.2.1
                have hsz4 := hI4.2.2.2.1
                have HI4 := hide hI4
                clear hI3 hI4 hh
                go_upto_region 13 with (at_builtin; refine wpList_append_own _ rfl (.tmp 25) (.tmp 27) 43 rfl (B + 1) 50 i1 (.agg #[.int .i64 0, .int .i64 0, .bool false]) 3 24 Try.underlying43 hi1 hy0 hy1 hy2 rfl (by decide) (.slice va ls.length vc) ls.length (lsCells ls) rfl hown ⟨w3.heap.size, 0, none⟩ 1 1 (ltCells ⟨i, j, false⟩) rfl rfl (new_lt w3 ⟨i, j, false⟩ 50) (ltCells_one _) (by unfold maxLen; omega) (by omega) (by omega) ?_)
                intro qv w5 hown5 hgr5 hz5
                clear hz5
                have hI5 := HI4.out.append hgr5 hown5
                obtain ⟨va', vc', hqv⟩ := own_val hown5
                subst hqv
                clear hown5 hgr5 hown hsz4 HI4
                go_wp2_with fail
                go_roundg (2 - 1)
                case measure => omega
                case rel => exact ⟨1, va', vc', ls ++ [⟨i, j, false⟩], rfl, by omega, by go_num, by simp, Hst', by simpa using hI5⟩
            · have Hst : Hid ((allL i ++ rowL i k ++ (pairL i j).take 2).filter (hasS E A) = if hasS E A ⟨i, j, true⟩ then ls ++ [⟨i, j, true⟩] else ls) := by
                show _ = _
                rw [Hls.out, ← filter_snoc]; simp [pairL]
              have hIa := hI.below (below_alloc' wr (.cells #[.int .i64 i, .int .i64 j, .bool true] 50))
              have hcon := has_any i j true E A (wr.alloc (.cells #[.int .i64 i, .int .i64 j, .bool true] 50)) (by omega) (by omega) (by omega) (by omega) hE hA
              have Hcon := hide hcon
              obtain ⟨c0, c1, _, hsz, _⟩ := id hI
              have z0 : B < wr.heap.size := by omega
              have z1 : ¬ B = wr.heap.size := by omega
              clear hcon
              have ix0 := ix_zero i j
              have ix1 := ix_one i j
              go_wp2_with fail
              refine Hcon.out.mono ?_
              rintro e w3 ⟨rfl, hb3⟩
              have hI3 := hIa.below hb3
              have m0 := cell_below hb3 (alloc_new' (w := wr) (vs := #[.int .i64 i, .int .i64 j, .bool true]) (t := 50) (i := 0) rfl)
              have m1 := cell_below hb3 (alloc_new' (w := wr) (vs := #[.int .i64 i, .int .i64 j, .bool true]) (t := 50) (i := 1) rfl)
              have m2 := cell_below hb3 (alloc_new' (w := wr) (vs := #[.int .i64 i, .int .i64 j, .bool true]) (t := 50) (i := 2) rfl)
              clear Hcon hIa hb3 c0 c1 hsz z0 z1 hI
              cases hh : hasS E A ⟨i, j, true⟩
              · have Hst' : Hid (ls = (allL i ++ rowL i k ++ (pairL i j).take 2).filter (hasS E A)) := by show _ = _; rw [Hst.out, hh]; rfl
                go_wp2_with fail
                go_roundg (2 - 2)
                case measure => omega
                case rel => exact ⟨2, va, vc, ls, rfl, by omega, by go_num, rfl, Hst', hI3⟩
              · have Hst' : Hid (ls ++ [⟨i, j, true⟩] = (allL i ++ rowL i k ++ (pairL i j).take 2).filter (hasS E A)) := by show _ = _; rw [Hst.out, hh]; rfl
                have hll : ls.length ≤ 200 := by
                  rw [Hls.out]
                  refine Nat.le_trans (List.length_filter_le _ _) ?_
                  have h1 := allL_length i
                  have h2 := rowL_length i k
                  simp only [List.length_append, List.length_take, h2]
                  omega
                have hI4 := hI3.below (below_alloc' w3 (.cells #[.int .i64 i, .int .i64 j, .bool true] 50))
                have hown := hI4.2.2.1
                have hsz4 := hI4.2.2.2.1
                have HI4 := hide hI4
                clear hI3 hI4 hh
                go_upto_region 13 with (at_builtin; refine wpList_append_own _ rfl (.tmp 25) (.tmp 27) 43 rfl (B + 1) 50 i1 (.agg #[.int .i64 0, .int .i64 0, .bool false]) 3 24 Try.underlying43 hi1 hy0 hy1 hy2 rfl (by decide) (.slice va ls.length vc) ls.length (lsCells ls) rfl hown ⟨w3.heap.size, 0, none⟩ 1 1 (ltCells ⟨i, j, true⟩) rfl rfl (new_lt w3 ⟨i, j, true⟩ 50) (ltCells_one _) (by unfold maxLen; omega) (by omega) (by omega) ?_)
                intro qv w5 hown5 hgr5 hz5
                clear hz5
                have hI5 := HI4.out.append hgr5 hown5
                obtain ⟨va', vc', hqv⟩ := own_val hown5
                subst hqv
                clear hown5 hgr5 hown hsz4 HI4
                go_wp2_with fail
                go_roundg (2 - 2)
                case measure => omega
                case rel => exact ⟨2, va', vc', ls ++ [⟨i, j, true⟩], rfl, by omega, by go_num, by simp, Hst', by simpa using hI5⟩
            · have Hend : Hid (ls = (allL i ++ rowL i (k + 1)).filter (hasS E A)) := by
                show _ = _
                rw [Hls.out, Hj.out]; simp [rowL, pairL]
              go_wp2_with fail
              go_roundg (9 - i - (k + 1))
              case measure => omega
              case rel => exact ⟨k + 1, va, vc, ls, rfl, by omega, by have := Hj.out; go_num, rfl, Hend, hI⟩
        · have hke : k = 9 - i := by omega
          have Hend : Hid (ls = (allL (i + 1)).filter (hasS E A)) := by show _ = _; rw [Hls.out, hke]; rfl
          have hik : ¬ ((i + k : Nat) : Int) < 9 := by omega
          clear hke
          go_wp2_with fail
          go_roundg (9 - (i + 1))
          case measure => omega
          case rel => exact ⟨i + 1, va, vc, ls, rfl, by omega, by go_num, rfl, Hend, hI⟩
    · have Hend : Hid (ls = inOrd E A) := by
        show _ = _
        have : i = 9 := by omega
        rw [Hls.out, this]; rfl
      go_wp2_with fail
      go_ret
      refine ⟨va, vc, by rw [← Hend.out]; rfl, ?_, ?_⟩
      · rw [← Hend.out, HB.out]; exact own_base hI.2.2.1 (by omega)
      · rw [HB.out]; exact hI.2.2.2.2
end Go.Proofs.Ytmampmbnjdncjaa
