import Derived.Test.YtjebhhoibofmfaaGreatBXSvD
import Derived.Test.YtjebhhoibofmfaaGreatBMMd
import Derived.BigRegion
import Derived.Laws.Cover2
namespace Go.Proofs.YtjebhhoibofmfaaGreat
open Go.RowKit
def flCells(ws:List Nat):List Value:=ws.map (Value.float .f32)
def FRow(w:World)(g:Nat)(ws:List Nat):Prop:=w.heap[g]?=some (.cells (flCells ws).toArray 200 (0,0))
theorem FRow.cell{w:World}{g:Nat}{ws:List Nat}(h:FRow w g ws){k:Nat}(hk:k < ws.length):w.cell? ⟨g,k,none⟩=some (.float .f32 (ws.getD k 0)):=by
 rw[cell_of_row _ _ _ _ _ _ h]
 simp[flCells,hk]
def lessF(ws:List Nat)(a b:Nat):Bool:=if FloatKind.f32.format.order (ws.getD a 0) (ws.getD b 0) == some .eq then decide (a < b)else FloatKind.f32.format.order (ws.getD a 0) (ws.getD b 0) == some .gt
def Qu(w:World)(q gw gp:Nat)(va:Option Addr)(vc:Nat)(ws:List Nat)(wt pl:List Int):Prop:=
 w.heap[q]?=some (.cells #[.slice (some ⟨gw,0,none⟩) ws.length ws.length,.slice va wt.length vc,.slice (some ⟨gp,0,none⟩) pl.length pl.length] 178 (0,0)) /\
 FRow w gw ws/\Row w gp pl/\w.ownsRow (gp+1) 3 1 (.slice va wt.length vc) wt.length (intCells wt)
theorem own_ints{w:World}{base:Nat}{va:Option Addr}{vc:Nat}{wt:List Int}(h:w.ownsRow base 3 1 (.slice va wt.length vc) wt.length (intCells wt)){i:Nat}(hi:i < wt.length) :
 ∃ g,va=some ⟨g,0,none⟩/\base<=g/\(∃ cur,w.heap[g]?=some (.cells cur 3 (0,0)))/\∀ k,k < wt.length->w.cell? ⟨g,k,none⟩=some (.int .i64 (wt.getD k 0)):=by
 rcases h.2 with⟨_,hn⟩ | ⟨g,cap,cur,hv,hb,hg,h1,h2,h3,h4⟩
 ·rw[hn]at hi;omega
 ·injection hv with hv _ _
  subst hv
  refine⟨g,rfl,hb,⟨cur,hg⟩,fun k hk=>?_⟩
  have hc:(intCells wt)[k]?=some (.int .i64 (wt.getD k 0)):=by simp[intCells,hk]
  rw[<-h4,List.getElem?_take,if_pos (by omega)]at hc
  rw[cell_of_row w g _ cur 3 (0,0) hg]
  simpa using hc
set_option maxRecDepth 100000 in
set_option maxHeartbeats 1000000 in
theorem less_any(q gw gp:Nat)(va:Option Addr)(vc:Nat)(ws:List Nat)(wt pl:List Int)(i j a b:Nat)(w:World)(h:Qu w q gw gp va vc ws wt pl)(hi:i < wt.length)(hj:j < wt.length)
 (ha:wt.getD i 0=(a:Int)) (hb:wt.getD j 0=(b:Int)) (ha':a < ws.length) (hb':b < ws.length) :
 Calls Tryz.prog 169 #[.pointer (some ⟨q,0,none⟩),.int .i64 i,.int .i64 j] w fun e w'=>e=.returned (.bool (lessF ws a b))/\Below w.heap.size w w':=by
 obtain⟨h1,h2,h3,h4⟩:=h
 obtain⟨g,rfl,hg,⟨cur,hcur⟩,hc⟩:=own_ints h4 hi
 have ci:=hc i hi
 have cj:=hc j hj
 rw[ha]at ci
 rw[hb]at cj
 have wa:=h2.cell ha'
 have wb:=h2.cell hb'
 have s0:w.cell? ⟨q,0,none⟩=some (.slice (some ⟨gw,0,none⟩) ws.length ws.length):=by rw[cell_of_row _ _ _ _ _ _ h1];rfl
 have s1:w.cell? ⟨q,1,none⟩=some (.slice (some ⟨g,0,none⟩) wt.length vc):=by rw[cell_of_row _ _ _ _ _ _ h1];rfl
 have HL:Hid (lessF ws a b=if FloatKind.f32.format.order (ws.getD a 0) (ws.getD b 0) == some .eq then decide (a < b)else FloatKind.f32.format.order (ws.getD a 0) (ws.getD b 0) == some .gt):=rfl
 generalize ws.getD a 0=fa at *
 generalize ws.getD b 0=fb at *
 clear hc h1 h2 h3 h4 ha hb
 go_enter Tryz.func169,Tryz.ntmps169
 go_upto_region 1 with fail
 go_quiet (fail)
 go_upto_region 2 with fail
 go_quiet (fail)
 cases he:(FloatKind.f32.format.order fa fb == some .eq)
 ·have HE:=hide he
  go_upto_region 4 with fail
  go_quiet (fail)
  go_wp2_with fail
  go_ret
  exact⟨ret_bool (by rw[HL.out,HE.out];rfl),below_drewN (below_drewN (below_drewN (Below.refl _ _) _) _) _⟩
 ·have HE:=hide he
  go_wp2_with fail
  go_ret
  exact⟨ret_bool (by rw[HL.out,HE.out];simp),below_drewN (Below.refl _ _) _⟩
set_option maxRecDepth 100000 in
set_option maxHeartbeats 1000000 in
theorem len_any(q gw gp:Nat)(va:Option Addr)(vc:Nat)(ws:List Nat)(wt pl:List Int)(w:World)(h:Qu w q gw gp va vc ws wt pl) :
 Calls Tryz.prog 118 #[.pointer (some ⟨q,0,none⟩)] w fun e w'=>e=.returned (.int .i64 wt.length)/\w'=w:=by
 obtain⟨h1,h2,h3,h4⟩:=h
 have s1:w.cell? ⟨q,1,none⟩=some (.slice va wt.length vc):=by rw[cell_of_row _ _ _ _ _ _ h1];rfl
 go_enter Tryz.func118,Tryz.ntmps118
 go_wp2_with fail
 go_ret
 exact⟨rfl,rfl⟩
theorem Qu.below{w w':World}{q gw gp:Nat}{va:Option Addr}{vc:Nat}{ws:List Nat}{wt pl:List Int}(h:Qu w q gw gp va vc ws wt pl)(hb:Below w.heap.size w w'):Qu w' q gw gp va vc ws wt pl:=
 ⟨(hb.block _ (Array.getElem?_eq_some_iff.1 h.1).1).trans h.1,(hb.block _ (Array.getElem?_eq_some_iff.1 h.2.1).1).trans h.2.1,h.2.2.1.below hb h.2.2.1.lt,own_below h.2.2.2 hb⟩
structure Keeps (F:List Nat) (w w':World):Prop where
 os:w'.os=w.os
 tape:w'.tape=w.tape
 output:w'.output=w.output
 size:w.heap.size<=w'.heap.size
 block:∀ k,k < w.heap.size->k ∉ F->w'.heap[k]?=w.heap[k]?
theorem Keeps.of{F:List Nat}{w w':World}(h:Below w.heap.size w w'):Keeps F w w':=⟨h.os,h.tape,h.output,h.size,fun k hk _=>h.block k hk⟩
theorem Keeps.refl(F:List Nat)(w:World):Keeps F w w:=⟨rfl,rfl,rfl,Nat.le_refl _,fun _ _ _=>rfl⟩
theorem Keeps.trans{F G:List Nat}{w w1 w2:World}(h:Keeps F w w1)(h':Keeps G w1 w2)(hG:∀ k∈G,k∈F\/w.heap.size<=k):Keeps F w w2:=
 ⟨h'.os.trans h.os,h'.tape.trans h.tape,h'.output.trans h.output,Nat.le_trans h.size h'.size,fun k hk hn=>(h'.block k (Nat.lt_of_lt_of_le hk h.size) (fun hg=>by rcases hG k hg with h1 | h1;exact hn h1;omega)).trans (h.block k hk hn)⟩
theorem Keeps.set{F:List Nat}{w w1:World}(h:Keeps F w w1){g i:Nat}(hg:g∈F)(v:Value):Keeps F w (w1.setCell ⟨g,i,none⟩ v):=by
 refine⟨h.os,h.tape,h.output,by simpa using h.size,fun k hk hn=>?_⟩
 rw[heap_setCell_other _ _ _ _ (fun e=>hn (by subst e;exact hg))]
 exact h.block k hk hn
theorem Keeps.drew{F:List Nat}{w w1:World}(h:Keeps F w w1):Keeps F w w1.drew:=⟨h.os,h.tape,h.output,h.size,h.block⟩
theorem own_set{w:World}{base g:Nat}{vc:Nat}{wt:List Int}(h:w.ownsRow base 3 1 (.slice (some ⟨g,0,none⟩) wt.length vc) wt.length (intCells wt)){i:Nat}(x:Int) :
 (w.setCell ⟨g,i,none⟩ (.int .i64 x)).ownsRow base 3 1 (.slice (some ⟨g,0,none⟩) (wt.set i x).length vc) (wt.set i x).length (intCells (wt.set i x)):=by
 rcases h.2 with⟨hv,_⟩ | ⟨g',cap,cur,hv,hb,hg,h1,h2,h3,h4⟩
 ·injection hv with hv;cases hv
 ·injection hv with hv hv2 hv3
  injection hv with hv
  injection hv with hv
  subst hv
  subst hv3
  have hl:(wt.set i x).length=wt.length:=List.length_set ..
  refine⟨by simp[intCells],.inr ⟨g,vc,cur.set! i (.int .i64 x),by rw[hl],hb,?_,by rw[hl];exact h1,h2,by simpa using h3,?_⟩⟩
  ·exact heap_setCell_same w g i cur _ _ hg
  ·have h4':cur.toList.take (wt.length*1)=intCells wt:=h4
   rw[hl]
   show(cur.set! i (.int .i64 x)).toList.take (wt.length*1)=intCells (wt.set i x)
   rw[Array.set!_eq_setIfInBounds,Array.toList_setIfInBounds,List.take_set,h4']
   simp[intCells,List.map_set]
end Go.Proofs.YtjebhhoibofmfaaGreat
namespace Go.Proofs.YtjebhhoibofmfaaGreat
open Go.RowKit
set_option maxRecDepth 100000 in
set_option maxHeartbeats 2000000 in
theorem swap_ne(q gw gp:Nat)(va:Option Addr)(vc:Nat)(ws:List Nat)(wt pl:List Int)(i j a b:Nat)(w:World)(h:Qu w q gw gp va vc ws wt pl)(hi:i < wt.length)(hj:j < wt.length)
 (ha:wt.getD i 0=(a:Int)) (hb:wt.getD j 0=(b:Int)) (ha':a < pl.length) (hb':b < pl.length) (hij:i≠j) (hab:a≠b) :
 Calls Tryz.prog 172 #[.pointer (some ⟨q,0,none⟩),.int .i64 i,.int .i64 j] w fun e w'=>e=.returned (.tuple #[])/\∃ g,va=some ⟨g,0,none⟩/\Qu w' q gw gp va vc ws ((wt.set i b).set j a) ((pl.set b i).set a j)/\Keeps [g,gp] w w':=by
 obtain⟨h1,h2,h3,h4⟩:=h
 obtain⟨g,rfl,hg,⟨cur,hcur⟩,hc⟩:=own_ints h4 hi
 have ci:=hc i hi
 have cj:=hc j hj
 rw[ha]at ci
 rw[hb]at cj
 have hgp:g≠gp:=by omega
 have s1:w.cell? ⟨q,1,none⟩=some (.slice (some ⟨g,0,none⟩) wt.length vc):=by rw[cell_of_row _ _ _ _ _ _ h1];rfl
 have s2:w.cell? ⟨q,2,none⟩=some (.slice (some ⟨gp,0,none⟩) pl.length pl.length):=by rw[cell_of_row _ _ _ _ _ _ h1];rfl
 have pa:=h3.cell ha'
 have pb:=h3.cell hb'
 have hqg:q≠g:=by
  intro e
  subst e
  rw[h1]at hcur
  injection hcur with hcur
  injection hcur with _ hcur
  exact absurd hcur (by decide)
 have fi:w.frozen? ⟨g,i,none⟩=false:=frozen_of_row _ _ _ _ _ hcur
 have fj:w.frozen? ⟨g,j,none⟩=false:=frozen_of_row _ _ _ _ _ hcur
 have fa:w.frozen? ⟨gp,a,none⟩=false:=frozen_of_row _ _ _ _ _ h3
 have fb:w.frozen? ⟨gp,b,none⟩=false:=frozen_of_row _ _ _ _ _ h3
 generalize pl.getD a 0=oa at *
 generalize pl.getD b 0=ob at *
 clear hc
 go_enter Tryz.func172,Tryz.ntmps172
 obtain⟨W1,hW1⟩:∃ W1,W1=((w.setCell ⟨g,i,none⟩ (.int .i64 b)).setCell ⟨g,j,none⟩ (.int .i64 a)).drew:=⟨_,rfl⟩
 go_upto_region 0 with fail
 go_cut [6]from 6 to 31 (fun s6 wx=>W1=wx)
 case first=>
  go_region
  go_wp2_with fail
  go_meet
  exact hW1
 case rest=>
  subst hcut
  have hji:j≠i:=fun e=>hij e.symm
  have o1:=own_set (i:=i) h4 b
  have o2:=own_set (i:=j) o1 a
  have k1:Keeps [g,gp] w W1:=by rw[hW1];exact(((Keeps.refl _ _).set (List.mem_cons_self ..) _).set (List.mem_cons_self ..) _).drew
  have hlq:=(Array.getElem?_eq_some_iff.1 h1).1
  have hlw:=(Array.getElem?_eq_some_iff.1 h2).1
  have hlp:=h3.lt
  have hgw:gw≠g:=by
   intro e
   subst e
   rw[h2]at hcur
   injection hcur with hcur
   injection hcur with _ hcur
   exact absurd hcur (by decide)
  have hwp:gw≠gp:=by
   intro e
   subst e
   unfold Row at h3
   rw[h2]at h3
   injection h3 with h3
   injection h3 with _ h3
   exact absurd h3 (by decide)
  have hqp:q≠gp:=by
   intro e
   subst e
   unfold Row at h3
   rw[h1]at h3
   injection h3 with h3
   injection h3 with _ h3
   exact absurd h3 (by decide)
  have h1':=(k1.block q hlq (by simp[hqg,hqp])).trans h1
  have h2':FRow W1 gw ws:=(k1.block gw hlw (by simp[hgw,hwp])).trans h2
  have h3':Row W1 gp pl:=by
   unfold Row
   rw[hW1]
   show((w.setCell ⟨g,i,none⟩ (.int .i64 b)).setCell ⟨g,j,none⟩ (.int .i64 a)).heap[gp]?=_
   rw[heap_setCell_other _ _ _ _ (fun e=>hgp e.symm),heap_setCell_other _ _ _ _ (fun e=>hgp e.symm)]
   exact h3
  have h4':W1.ownsRow (gp+1) 3 1 (.slice (some ⟨g,0,none⟩) ((wt.set i b).set j a).length vc) ((wt.set i b).set j a).length (intCells ((wt.set i b).set j a)):=by rw[hW1];exact own_below o2 (Below.refl _ _).drew
  have r1:W1.cell? ⟨q,1,none⟩=some (.slice (some ⟨g,0,none⟩) wt.length vc):=by rw[cell_of_row _ _ _ _ _ _ h1'];rfl
  have r2:W1.cell? ⟨q,2,none⟩=some (.slice (some ⟨gp,0,none⟩) pl.length pl.length):=by rw[cell_of_row _ _ _ _ _ _ h1'];rfl
  have di:W1.cell? ⟨g,i,none⟩=some (.int .i64 b):=by
   rw[hW1]
   exact set_other (.inr hij) (set_same ci)
  have dj:W1.cell? ⟨g,j,none⟩=some (.int .i64 a):=by
   rw[hW1]
   exact set_same (set_other (.inr hji) cj)
  have qa:=h3'.cell ha'
  have qb:=h3'.cell hb'
  have ea:W1.frozen? ⟨gp,a,none⟩=false:=frozen_of_row _ _ _ _ _ h3'
  have eb:W1.frozen? ⟨gp,b,none⟩=false:=frozen_of_row _ _ _ _ _ h3'
  generalize pl.getD a 0=oa' at *
  generalize pl.getD b 0=ob' at *
  clear hW1 ci cj s1 s2 pa pb fi fj fa fb o1 o2 h1 h2 h3 h4 hcur
  have H1:=hide h1'
  have H2:=hide h2'
  have H3:=hide h3'
  have H4:=hide h4'
  have K1:=hide k1
  have hpg:gp≠g:=fun e=>hgp e.symm
  have hpq:gp≠q:=fun e=>hqp e.symm
  have hba:b≠a:=fun e=>hab e.symm
  have Hwp:=hide hwp
  clear h1' h2' h3' h4' k1 hlq hlw hlp hgw hwp ha hb
  go_upto_region 1 with fail
  go_region
  go_wp2_with fail
  go_end0
  refine⟨rfl,g,rfl,⟨?_,?_,?_,?_⟩,?_⟩
  ·show((W1.setCell ⟨gp,b,none⟩ (.int .i64 i)).setCell ⟨gp,a,none⟩ (.int .i64 j)).heap[q]?=_
   rw[heap_setCell_other _ _ _ _ hqp,heap_setCell_other _ _ _ _ hqp]
   rw[List.length_set,List.length_set,List.length_set,List.length_set]
   exact H1.out
  ·show((W1.setCell ⟨gp,b,none⟩ (.int .i64 i)).setCell ⟨gp,a,none⟩ (.int .i64 j)).heap[gw]?=_
   rw[heap_setCell_other _ _ _ _ Hwp.out,heap_setCell_other _ _ _ _ Hwp.out]
   exact H2.out
  ·exact(H3.out.set b i).set a j
  ·exact own_below (own_setCell (own_setCell H4.out (Nat.lt_succ_self gp) _) (Nat.lt_succ_self gp) _) (Below.refl _ _).drew
  ·exact((K1.out.set (by simp) _).set (by simp) _).drew
end Go.Proofs.YtjebhhoibofmfaaGreat
namespace Go.Proofs.YtjebhhoibofmfaaGreat
open Go.RowKit
set_option maxRecDepth 100000 in
set_option maxHeartbeats 2000000 in
theorem swap_eq(q gw gp:Nat)(va:Option Addr)(vc:Nat)(ws:List Nat)(wt pl:List Int)(i a:Nat)(w:World)(h:Qu w q gw gp va vc ws wt pl)(hi:i < wt.length)
 (ha:wt.getD i 0=(a:Int)) (ha':a < pl.length) :
 Calls Tryz.prog 172 #[.pointer (some ⟨q,0,none⟩),.int .i64 i,.int .i64 i] w fun e w'=>e=.returned (.tuple #[])/\∃ g,va=some ⟨g,0,none⟩/\Qu w' q gw gp va vc ws ((wt.set i a).set i a) ((pl.set a i).set a i)/\Keeps [g,gp] w w':=by
 obtain⟨h1,h2,h3,h4⟩:=h
 obtain⟨g,rfl,hg,⟨cur,hcur⟩,hc⟩:=own_ints h4 hi
 have ci:=hc i hi
 rw[ha]at ci
 have hgp:g≠gp:=by omega
 have s1:w.cell? ⟨q,1,none⟩=some (.slice (some ⟨g,0,none⟩) wt.length vc):=by rw[cell_of_row _ _ _ _ _ _ h1];rfl
 have s2:w.cell? ⟨q,2,none⟩=some (.slice (some ⟨gp,0,none⟩) pl.length pl.length):=by rw[cell_of_row _ _ _ _ _ _ h1];rfl
 have hqg:q≠g:=by
  intro e
  subst e
  rw[h1]at hcur
  injection hcur with hcur
  injection hcur with _ hcur
  exact absurd hcur (by decide)
 have fi:w.frozen? ⟨g,i,none⟩=false:=frozen_of_row _ _ _ _ _ hcur
 clear hc
 go_enter Tryz.func172,Tryz.ntmps172
 obtain⟨W1,hW1⟩:∃ W1,W1=((w.setCell ⟨g,i,none⟩ (.int .i64 a)).setCell ⟨g,i,none⟩ (.int .i64 a)).drew:=⟨_,rfl⟩
 go_upto_region 0 with fail
 go_cut [6]from 6 to 31 (fun s6 wx=>W1=wx)
 case first=>
  go_region
  go_wp2_with fail
  go_meet
  exact hW1
 case rest=>
  subst hcut
  have o1:=own_set (i:=i) h4 a
  have o2:=own_set (i:=i) o1 a
  have k1:Keeps [g,gp] w W1:=by rw[hW1];exact(((Keeps.refl _ _).set (List.mem_cons_self ..) _).set (List.mem_cons_self ..) _).drew
  have hlq:=(Array.getElem?_eq_some_iff.1 h1).1
  have hlw:=(Array.getElem?_eq_some_iff.1 h2).1
  have hgw:gw≠g:=by
   intro e
   subst e
   rw[h2]at hcur
   injection hcur with hcur
   injection hcur with _ hcur
   exact absurd hcur (by decide)
  have hwp:gw≠gp:=by
   intro e
   subst e
   unfold Row at h3
   rw[h2]at h3
   injection h3 with h3
   injection h3 with _ h3
   exact absurd h3 (by decide)
  have hqp:q≠gp:=by
   intro e
   subst e
   unfold Row at h3
   rw[h1]at h3
   injection h3 with h3
   injection h3 with _ h3
   exact absurd h3 (by decide)
  have h1':=(k1.block q hlq (by simp[hqg,hqp])).trans h1
  have h2':FRow W1 gw ws:=(k1.block gw hlw (by simp[hgw,hwp])).trans h2
  have h3':Row W1 gp pl:=by
   unfold Row
   rw[hW1]
   show((w.setCell ⟨g,i,none⟩ (.int .i64 a)).setCell ⟨g,i,none⟩ (.int .i64 a)).heap[gp]?=_
   rw[heap_setCell_other _ _ _ _ (fun e=>hgp e.symm),heap_setCell_other _ _ _ _ (fun e=>hgp e.symm)]
   exact h3
  have h4':W1.ownsRow (gp+1) 3 1 (.slice (some ⟨g,0,none⟩) ((wt.set i a).set i a).length vc) ((wt.set i a).set i a).length (intCells ((wt.set i a).set i a)):=by rw[hW1];exact own_below o2 (Below.refl _ _).drew
  have r1:W1.cell? ⟨q,1,none⟩=some (.slice (some ⟨g,0,none⟩) wt.length vc):=by rw[cell_of_row _ _ _ _ _ _ h1'];rfl
  have r2:W1.cell? ⟨q,2,none⟩=some (.slice (some ⟨gp,0,none⟩) pl.length pl.length):=by rw[cell_of_row _ _ _ _ _ _ h1'];rfl
  have di:W1.cell? ⟨g,i,none⟩=some (.int .i64 a):=by
   rw[hW1]
   exact set_same (set_same ci)
  have qa:=h3'.cell ha'
  have ea:W1.frozen? ⟨gp,a,none⟩=false:=frozen_of_row _ _ _ _ _ h3'
  generalize pl.getD a 0=oa' at *
  clear hW1 ci s1 s2 fi o1 o2 h1 h2 h3 h4 hcur
  have H1:=hide h1'
  have H2:=hide h2'
  have H3:=hide h3'
  have H4:=hide h4'
  have K1:=hide k1
  have hpg:gp≠g:=fun e=>hgp e.symm
  have hpq:gp≠q:=fun e=>hqp e.symm
  have Hwp:=hide hwp
  clear h1' h2' h3' h4' k1 hlq hlw hgw hwp ha
  go_upto_region 1 with fail
  go_region
  go_wp2_with fail
  go_end0
  refine⟨rfl,g,rfl,⟨?_,?_,?_,?_⟩,?_⟩
  ·show((W1.setCell ⟨gp,a,none⟩ (.int .i64 i)).setCell ⟨gp,a,none⟩ (.int .i64 i)).heap[q]?=_
   rw[heap_setCell_other _ _ _ _ hqp,heap_setCell_other _ _ _ _ hqp]
   rw[List.length_set,List.length_set,List.length_set,List.length_set]
   exact H1.out
  ·show((W1.setCell ⟨gp,a,none⟩ (.int .i64 i)).setCell ⟨gp,a,none⟩ (.int .i64 i)).heap[gw]?=_
   rw[heap_setCell_other _ _ _ _ Hwp.out,heap_setCell_other _ _ _ _ Hwp.out]
   exact H2.out
  ·exact(H3.out.set a i).set a i
  ·exact own_below (own_setCell (own_setCell H4.out (Nat.lt_succ_self gp) _) (Nat.lt_succ_self gp) _) (Below.refl _ _).drew
  ·exact((K1.out.set (by simp) _).set (by simp) _).drew
end Go.Proofs.YtjebhhoibofmfaaGreat
namespace Go.Proofs.YtjebhhoibofmfaaGreat
open Go.RowKit
def intL(ns:List Nat):List Int:=ns.map (fun(n:Nat)=>(n:Int))
theorem intL_length(ns:List Nat):(intL ns).length=ns.length:=by simp[intL]
theorem intL_get(ns:List Nat){i:Nat}(hi:i < ns.length):(intL ns).getD i 0=((ns.getD i 0:Nat):Int):=by simp[intL,hi]
theorem intL_set(ns:List Nat)(i x:Nat):intL (ns.set i x)=(intL ns).set i (x:Int):=by simp[intL,List.map_set]
def plOf(n:Nat)(ns:List Nat):List Int:=tab n (fun x=>if x∈ns then(ns.idxOf x:Int)else -1)
theorem plOf_length(n:Nat)(ns:List Nat):(plOf n ns).length=n:=tab_length _ _
def swapL(ns:List Nat)(i j:Nat):List Nat:=(ns.set i (ns.getD j 0)).set j (ns.getD i 0)
theorem swapL_length(ns:List Nat)(i j:Nat):(swapL ns i j).length=ns.length:=by simp[swapL]
theorem swapL_get(ns:List Nat){i j k:Nat}(hi:i < ns.length)(hj:j < ns.length)(hk:k < ns.length):(swapL ns i j).getD k 0=if k=j then ns.getD i 0 else if k=i then ns.getD j 0 else ns.getD k 0:=by
 unfold swapL
 simp only[List.getD_eq_getElem?_getD,List.getElem?_set,List.length_set]
 by_cases h1:j=k
 ·subst h1;simp[hj]
 ·have h1':¬ k=j:=fun e=>h1 e.symm
  by_cases h2:i=k
  ·subst h2;simp[h1,h1',hi]
  ·have h2':¬ k=i:=fun e=>h2 e.symm
   simp[h1,h1',h2,h2']
theorem swapL_perm(ns:List Nat){i j:Nat}(hi:i < ns.length)(hj:j < ns.length):(swapL ns i j).Perm ns:=by
 unfold swapL
 rw[List.getD_eq_getElem?_getD,List.getElem?_eq_getElem hj,List.getD_eq_getElem?_getD,List.getElem?_eq_getElem hi]
 simp only[Option.getD_some]
 exact List.set_set_perm hi hj
theorem idx_get{ns:List Nat}(h:ns.Nodup){k:Nat}(hk:k < ns.length):ns.idxOf (ns.getD k 0)=k:=by
 rw[List.getD_eq_getElem?_getD,List.getElem?_eq_getElem hk,Option.getD_some]
 exact List.Nodup.idxOf_getElem h k hk
theorem mem_get{ns:List Nat}{k:Nat}(hk:k < ns.length):ns.getD k 0∈ns:=by
 rw[List.getD_eq_getElem?_getD,List.getElem?_eq_getElem hk,Option.getD_some]
 exact List.getElem_mem hk
theorem plOf_swap{n:Nat}{ns:List Nat}(h:ns.Nodup){i j:Nat}(hi:i < ns.length)(hj:j < ns.length)(hn:∀ x∈ns,x < n) :
 plOf n (swapL ns i j)=((plOf n ns).set (ns.getD j 0) i).set (ns.getD i 0) j:=by
 have hp:=swapL_perm ns hi hj
 have hs:(swapL ns i j).Nodup:=hp.nodup_iff.2 h
 apply List.ext_getElem?
 intro x
 simp only[List.getElem?_set,List.length_set,plOf_length]
 by_cases hx:x < n
 ·have hg:∀ l:List Nat,(plOf n l)[x]?=some (if x∈l then(l.idxOf x:Int)else -1):=by
   intro l
   have:=tab_getD n (fun x=>if x∈l then(l.idxOf x:Int)else -1) hx
   unfold plOf
   rw[List.getD_eq_getElem?_getD]at this
   have hl:x < (tab n (fun x=>if x∈l then(l.idxOf x:Int)else -1)).length:=by rw[tab_length];exact hx
   rw[List.getElem?_eq_getElem hl]at this ⊢
   simpa using this
  rw[hg,hg]
  by_cases h1:ns.getD i 0=x
  ·have hm:x∈swapL ns i j:=hp.mem_iff.2 (h1 ▸ mem_get hi)
   have hjx:(swapL ns i j).getD j 0=x:=by rw[swapL_get ns hi hj hj,if_pos rfl];exact h1
   have:=idx_get hs (k:=j) (by rw[swapL_length];exact hj)
   rw[hjx]at this
   rw[if_pos hm,if_pos h1,if_pos (show ns.getD i 0 < n by rw[h1];exact hx),this]
  ·rw[if_neg h1]
   by_cases h2:ns.getD j 0=x
   ·have hm:x∈swapL ns i j:=hp.mem_iff.2 (h2 ▸ mem_get hj)
    have hne:i≠j:=fun e=>h1 (by rw[e];exact h2)
    have hix:(swapL ns i j).getD i 0=x:=by rw[swapL_get ns hi hj hi,if_neg hne,if_pos rfl];exact h2
    have:=idx_get hs (k:=i) (by rw[swapL_length];exact hi)
    rw[hix]at this
    rw[if_pos hm,if_pos h2,if_pos (show ns.getD j 0 < n by rw[h2];exact hx),this]
   ·rw[if_neg h2]
    by_cases hm:x∈ns
    ·have hm':=hp.mem_iff.2 hm
     rw[if_pos hm,if_pos hm']
     have hk:=List.idxOf_lt_length_iff.2 hm
     generalize hkk:ns.idxOf x=k at *
     have hkx:ns.getD k 0=x:=by
      rw[List.getD_eq_getElem?_getD,List.getElem?_eq_getElem hk,Option.getD_some]
      subst hkk
      exact List.getElem_idxOf hk
     have e:(swapL ns i j).getD k 0=x:=by
      rw[swapL_get ns hi hj hk,if_neg (fun e=>h2 (by rw[<-e];exact hkx)),if_neg (fun e=>h1 (by rw[<-e];exact hkx))];exact hkx
     have:=idx_get hs (k:=k) (by rw[swapL_length];exact hk)
     rw[e]at this
     rw[this]
    ·rw[if_neg hm,if_neg (fun h'=>hm (hp.mem_iff.1 h'))]
 ·have hl:∀ l:List Nat,(plOf n l)[x]?=none:=fun l=>List.getElem?_eq_none (by rw[plOf_length];omega)
  have a1:ns.getD i 0≠x:=fun e=>hx (e ▸ hn _ (mem_get hi))
  have a2:ns.getD j 0≠x:=fun e=>hx (e ▸ hn _ (mem_get hj))
  rw[hl,hl,if_neg a1,if_neg a2]
def QS(w:World)(q gw gp:Nat)(va:Option Addr)(vc:Nat)(ws ns:List Nat):Prop:=
 Qu w q gw gp va vc ws (intL ns) (plOf ws.length ns)/\ns.Nodup/\∀ x∈ns,x < ws.length
theorem QS.below{w w':World}{q gw gp:Nat}{va:Option Addr}{vc:Nat}{ws ns:List Nat}(h:QS w q gw gp va vc ws ns)(hb:Below w.heap.size w w'):QS w' q gw gp va vc ws ns:=⟨h.1.below hb,h.2⟩
theorem swapS_any(q gw gp:Nat)(va:Option Addr)(vc:Nat)(ws ns:List Nat)(i j:Nat)(w:World)(h:QS w q gw gp va vc ws ns)(hi:i < ns.length)(hj:j < ns.length) :
 Calls Tryz.prog 172 #[.pointer (some ⟨q,0,none⟩),.int .i64 i,.int .i64 j] w fun e w'=>e=.returned (.tuple #[])/\∃ g,va=some ⟨g,0,none⟩/\QS w' q gw gp va vc ws (swapL ns i j)/\Keeps [g,gp] w w':=by
 obtain⟨h1,h2,h3⟩:=h
 have hp:=swapL_perm ns hi hj
 have hi':i < (intL ns).length:=by rw[intL_length];exact hi
 have hj':j < (intL ns).length:=by rw[intL_length];exact hj
 have ha':ns.getD i 0 < (plOf ws.length ns).length:=by rw[plOf_length];exact h3 _ (mem_get hi)
 have hb':ns.getD j 0 < (plOf ws.length ns).length:=by rw[plOf_length];exact h3 _ (mem_get hj)
 have e1:((intL ns).set i ((ns.getD j 0:Nat):Int)).set j ((ns.getD i 0:Nat):Int)=intL (swapL ns i j):=by
  unfold swapL
  rw[intL_set,intL_set]
 have e2:=plOf_swap h2 hi hj h3
 have hq2:(swapL ns i j).Nodup/\∀ x∈swapL ns i j,x < ws.length:=⟨hp.nodup_iff.2 h2,fun x hx=>h3 x (hp.mem_iff.1 hx)⟩
 by_cases hij:i=j
 ·subst hij
  refine(swap_eq q gw gp va vc ws (intL ns) (plOf ws.length ns) i (ns.getD i 0) w h1 hi' (intL_get ns hi) ha').mono ?_
  rintro e w' ⟨rfl,g,hg,hQ,hK⟩
  rw[e1,<-e2]at hQ
  exact⟨rfl,g,hg,⟨hQ,hq2⟩,hK⟩
 ·have hab:ns.getD i 0≠ns.getD j 0:=by
   intro e
   have a1:=idx_get h2 hi
   have a2:=idx_get h2 hj
   rw[e,a2]at a1
   exact hij a1.symm
  refine(swap_ne q gw gp va vc ws (intL ns) (plOf ws.length ns) i j (ns.getD i 0) (ns.getD j 0) w h1 hi' hj' (intL_get ns hi) (intL_get ns hj) ha' hb' hij hab).mono ?_
  rintro e w' ⟨rfl,g,hg,hQ,hK⟩
  rw[e1,<-e2]at hQ
  exact⟨rfl,g,hg,⟨hQ,hq2⟩,hK⟩
theorem lessS_any(q gw gp:Nat)(va:Option Addr)(vc:Nat)(ws ns:List Nat)(i j:Nat)(w:World)(h:QS w q gw gp va vc ws ns)(hi:i < ns.length)(hj:j < ns.length) :
 Calls Tryz.prog 169 #[.pointer (some ⟨q,0,none⟩),.int .i64 i,.int .i64 j] w fun e w'=>e=.returned (.bool (lessF ws (ns.getD i 0) (ns.getD j 0)))/\Below w.heap.size w w':=
 less_any q gw gp va vc ws (intL ns) (plOf ws.length ns) i j (ns.getD i 0) (ns.getD j 0) w h.1 (by rw[intL_length];exact hi) (by rw[intL_length];exact hj) (intL_get ns hi) (intL_get ns hj) (h.2.2 _ (mem_get hi)) (h.2.2 _ (mem_get hj))
end Go.Proofs.YtjebhhoibofmfaaGreat
