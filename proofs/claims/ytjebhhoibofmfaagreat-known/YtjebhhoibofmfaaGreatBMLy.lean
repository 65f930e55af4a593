import Derived.Test.YtjebhhoibofmfaaGreatBMLx
import Derived.Test.YtjebhhoibofmfaaGreatBXLtQ
import Derived.Test.YtjebhhoibofmfaaGreatBXLtL
namespace Go.Proofs.YtjebhhoibofmfaaGreat
open Go.RowKit
theorem cutHolds:CutHolds:=fun n sa sc ss s w hn hss h64=>cut_any n sa sc ss s w hn hss h64
def folE(ts:List Tm)(cs:List Cl)(sts:List St):Int:=if refuseI ts cs=0 then if(followL ts cs sts []).length < sts.length then 4 else 0 else refuseI ts cs
def folN(ts:List Tm)(cs:List Cl)(sts:List St):Int:=if refuseI ts cs=0 then((followL ts cs sts []).length:Nat)else 0
def folS(ts:List Tm)(cs:List Cl)(sts:List St):Nat×Nat:=if refuseI ts cs=0 then if(followL ts cs sts []).length < sts.length then(0,0)else lastS (followL ts cs sts [])else(0,0)
set_option maxRecDepth 100000 in
set_option maxHeartbeats 1000000 in
theorem fol_any(ta sa la:Option Addr)(tc sc lc:Nat)(ts:List Tm)(cs:List Cl)(sts:List St)(w:World)(ht:TermsAt w ta ts)(hcs:ClausesAt w sa cs)(hst:StepsAt w la sts)(hlen:sts.length<=3518437208883) :
 Calls Tryz.prog 44 #[.agg #[.slice ta ts.length tc,.slice sa cs.length sc],.slice la sts.length lc] w fun e w'=>
  e=.returned (.tuple #[.agg #[.int .u64 (folS ts cs sts).1,.int .u64 (folS ts cs sts).2],.int .i64 (folN ts cs sts),.int .i64 (folE ts cs sts)])/\Below w.heap.size w w':=by
 obtain⟨W,hW⟩:∃ W,W=(w.alloc (.cells #[.slice ta ts.length tc,.slice sa cs.length sc] 25)).alloc (.cells #[.int .u64 0,.int .u64 0] 95):=⟨_,rfl⟩
 have hs2:W.heap.size=w.heap.size+1+1:=by rw[hW];simp
 have p0:W.cell? ⟨w.heap.size,0,none⟩=some (.slice ta ts.length tc):=by rw[hW];simp
 have p1:W.cell? ⟨w.heap.size,1,none⟩=some (.slice sa cs.length sc):=by rw[hW];simp
 have r0:W.cell? ⟨w.heap.size+1,0,none⟩=some (.int .u64 0):=by rw[hW];simp
 have r1:W.cell? ⟨w.heap.size+1,1,none⟩=some (.int .u64 0):=by rw[hW];simp
 have f0:W.frozen? ⟨w.heap.size+1,0,none⟩=false:=by rw[hW];simp
 have f1:W.frozen? ⟨w.heap.size+1,1,none⟩=false:=by rw[hW];simp
 have hb0:Below w.heap.size w W:=by rw[hW];exact((Below.refl _ _).alloc (Nat.le_refl _) _).alloc (by simp) _
 go_enter Tryz.func44,Tryz.ntmps44
 go_upto_region 1 with fail
 rw[<-hW]
 clear hW
 generalize hB:w.heap.size=B at *
 have HB:=hide hB
 have hbw:Below w.heap.size w W:=by rw[hB];exact hb0
 have ht1:=ht.below hbw
 have hcs1:=hcs.below hbw
 have hst1:=hst.below hbw
 clear hB hbw
 go_wp2_with fail
 refine(refuse_any ta sa tc sc ts cs _ ht1 hcs1).mono ?_
 rintro e w1 ⟨rfl,hb⟩
 have hB1:B+1 < W.heap.size:=by omega
 replace p0:=cell_below hb p0
 replace p1:=cell_below hb p1
 replace r0:=cell_below hb r0
 replace r1:=cell_below hb r1
 replace f0:=frozen_below hb hB1 f0
 replace f1:=frozen_below hb hB1 f1
 have hb1:Below B w w1:=hb0.trans (hb.mono (by omega))
 have hs1:B+1 < w1.heap.size:=by have:=hb.size;omega
 have ht2:=ht1.below hb
 have hcs2:=hcs1.below hb
 have hst2:=hst1.below hb
 clear hb hb0 ht1 hcs1 hst1 hB1 hs2
 by_cases he:refuseI ts cs=0
 ·have hbe:(refuseI ts cs != 0)=false:=by simp[he]
  have hts:termsB ts=true:=by cases h:termsB ts;simp[refuseI,h]at he;rfl
  have hcl:clausesB ts.length cs=true:=by cases h:clausesB ts.length cs;simp[refuseI,hts,h]at he;rfl
  have He:=hide he
  have hcon:=followS_any cutHolds ta sa la tc sc lc ts cs sts w1 ht2 hcs2 hst2 hts hcl hlen
  have Hcon:=hide hcon
  clear he hts hcl hcon
  go_wp2_with fail
  refine Hcon.out.mono ?_
  rintro e w2 ⟨rfl,hb⟩
  replace r0:=cell_below hb r0
  replace r1:=cell_below hb r1
  replace f0:=frozen_below hb hs1 f0
  replace f1:=frozen_below hb hs1 f1
  have hb2:Below B w w2:=hb1.trans (hb.mono (by omega))
  have hs2:B+1 < w2.heap.size:=by have:=hb.size;omega
  have HE:Hid (folE ts cs sts=if(followL ts cs sts []).length < sts.length then 4 else 0):=by show _=_;unfold folE;rw[if_pos He.out]
  have HN:Hid (folN ts cs sts=((followL ts cs sts []).length:Nat)):=by show _=_;unfold folN;rw[if_pos He.out]
  have HS:Hid (folS ts cs sts=if(followL ts cs sts []).length < sts.length then(0,0)else lastS (followL ts cs sts [])):=by show _=_;unfold folS;rw[if_pos He.out]
  clear hb hb1 hs1 ht2 hcs2 hst2 Hcon hbe p0 p1
  generalize followL ts cs sts []=L at *
  obtain⟨W3,hW3⟩:∃ W3,W3=w2.alloc (.cells #[.int .u64 (lastS L).1,.int .u64 (lastS L).2] 95):=⟨_,rfl⟩
  have hb3:Below w2.heap.size w2 W3:=by rw[hW3];exact below_alloc _ _
  have t0:W3.cell? ⟨w2.heap.size,0,none⟩=some (.int .u64 (lastS L).1):=by rw[hW3];simp
  have t1:W3.cell? ⟨w2.heap.size,1,none⟩=some (.int .u64 (lastS L).2):=by rw[hW3];simp
  replace r0:=cell_below hb3 r0
  replace r1:=cell_below hb3 r1
  replace f0:=frozen_below hb3 hs2 f0
  replace f1:=frozen_below hb3 hs2 f1
  have hb4:Below B w W3:=hb2.trans (hb3.mono (by omega))
  go_upto_region 5 with fail
  rw[<-hW3]
  clear hW3 hb2 hb3
  by_cases hl:L.length < sts.length
  ·have HE':=hide (HE.out.trans (if_pos hl))
   have HS':=hide (HS.out.trans (if_pos hl))
   go_wp2_with fail
   exact bodyPost_ret (v:=.tuple #[.agg #[.int .u64 0,.int .u64 0],.int .i64 L.length,.int .i64 4]) (by simp[results,Tryz.results44,go_sem,r0,r1]) rfl
    ⟨by rw[HE'.out,HS'.out,HN.out];rfl,by rw[HB.out];exact(hb4.setCell (p:=⟨B+1,0,none⟩) (by show B<=B+1;omega) _).setCell (p:=⟨B+1,1,none⟩) (by show B<=B+1;omega) _⟩
  ·have HE':=hide (HE.out.trans (if_neg hl))
   have HS':=hide (HS.out.trans (if_neg hl))
   generalize hq:lastS L=q at *
   obtain⟨q1,q2⟩:=q
   go_wp2_with fail
   exact bodyPost_ret (v:=.tuple #[.agg #[.int .u64 q1,.int .u64 q2],.int .i64 L.length,.int .i64 0]) (by simp[results,Tryz.results44,go_sem,set_same r0,set_other,r1]) rfl
    ⟨by rw[HE'.out,HS'.out,HN.out],by rw[HB.out];exact(hb4.setCell (p:=⟨B+1,0,none⟩) (by show B<=B+1;omega) _).setCell (p:=⟨B+1,1,none⟩) (by show B<=B+1;omega) _⟩
 ·have hbe:(refuseI ts cs != 0)=true:=by simp[he]
  have HE:Hid (folE ts cs sts=refuseI ts cs):=by show _=_;unfold folE;rw[if_neg he]
  have HN:Hid (folN ts cs sts=0):=by show _=_;unfold folN;rw[if_neg he]
  have HS:Hid (folS ts cs sts=(0,0)):=by show _=_;unfold folS;rw[if_neg he]
  clear he
  generalize refuseI ts cs=r at *
  go_wp2_with fail
  exact bodyPost_ret (v:=.tuple #[.agg #[.int .u64 0,.int .u64 0],.int .i64 0,.int .i64 r]) (by simp[results,Tryz.results44,go_sem,r0,r1]) rfl
   ⟨by rw[HE.out,HS.out,HN.out];rfl,by rw[HB.out];exact(hb1.setCell (p:=⟨B+1,0,none⟩) (by show B<=B+1;omega) _).setCell (p:=⟨B+1,1,none⟩) (by show B<=B+1;omega) _⟩
end Go.Proofs.YtjebhhoibofmfaaGreat
namespace Go.Proofs.YtjebhhoibofmfaaGreat
open Go.RowKit
theorem followL_lt{ts:List Tm}{cs:List Cl}(hts:termsB ts=true)(hcl:clausesB ts.length cs=true):∀(sts:List St) (ss:List (Nat×Nat)),(∀ p∈ss,p.1 < 18446744073709551616/\p.2 < 18446744073709551616) ->
 ∀ p∈followL ts cs sts ss,p.1 < 18446744073709551616/\p.2 < 18446744073709551616
 | [],_,h=>h
 | s :: l,ss,h=>by
   unfold followL
   split
   ·rename_i hn
    refine followL_lt hts hcl l _ ?_
    intro p hp
    rcases List.mem_append.1 hp with h1 | h1
    ·exact h p h1
    ·simp at h1;rw[h1];exact next_lt hts hcl h hn
   ·exact h
theorem of_refuse{ts:List Tm}{cs:List Cl}(he:refuseI ts cs=0):termsB ts=true/\clausesB ts.length cs=true:=by
 have hts:termsB ts=true:=by cases h:termsB ts;simp[refuseI,h]at he;rfl
 have hcl:clausesB ts.length cs=true:=by cases h:clausesB ts.length cs;simp[refuseI,hts,h]at he;rfl
 exact⟨hts,hcl⟩
theorem lastS_mem{L:List (Nat×Nat)}:lastS L=(0,0)\/lastS L∈L:=by
 unfold lastS
 rw[List.getLastD_eq_getLast?]
 cases h:L.getLast? with
 | none=>exact .inl rfl
 | some p=>exact .inr (List.mem_of_getLast? h)
theorem folS_lt(ts:List Tm)(cs:List Cl)(sts:List St):(folS ts cs sts).1 < 18446744073709551616/\(folS ts cs sts).2 < 18446744073709551616:=by
 unfold folS
 split
 ·rename_i he
  split
  ·decide
  ·rcases lastS_mem (L:=followL ts cs sts [])with h | h
   ·rw[h];decide
   ·exact followL_lt (of_refuse he).1 (of_refuse he).2 sts [] (fun p hp=>by cases hp) _ h
 ·decide
def chkE(ts:List Tm)(cs:List Cl)(sts:List St):Int:=if folE ts cs sts=0 then if folN ts cs sts=0 then 5 else if emptyB (folS ts cs sts).1 (folS ts cs sts).2 then 0 else 5 else folE ts cs sts
theorem ret_ii{x y x' y':Int}(hx:x=x')(hy:y=y'):Ending.returned (.tuple #[.int .i64 x,.int .i64 y])=.returned (.tuple #[.int .i64 x',.int .i64 y']):=by rw[hx,hy]
set_option maxRecDepth 100000 in
set_option maxHeartbeats 1000000 in
theorem check_any(ta sa la:Option Addr)(tc sc lc:Nat)(ts:List Tm)(cs:List Cl)(sts:List St)(w:World)(ht:TermsAt w ta ts)(hcs:ClausesAt w sa cs)(hst:StepsAt w la sts)(hlen:sts.length<=3518437208883) :
 Calls Tryz.prog 16 #[.agg #[.slice ta ts.length tc,.slice sa cs.length sc],.slice la sts.length lc] w fun e w'=>
  e=.returned (.tuple #[.int .i64 (folN ts cs sts),.int .i64 (chkE ts cs sts)])/\Below w.heap.size w w':=by
 have hb0:=below_alloc w (.cells #[.slice ta ts.length tc,.slice sa cs.length sc] 25)
 have hcon:=fol_any ta sa la tc sc lc ts cs sts _ (ht.below hb0) (hcs.below hb0) (hst.below hb0) hlen
 have Hcon:=hide hcon
 have HE:Hid (chkE ts cs sts=if folE ts cs sts=0 then if folN ts cs sts=0 then 5 else if emptyB (folS ts cs sts).1 (folS ts cs sts).2 then 0 else 5 else folE ts cs sts):=rfl
 clear hcon
 go_enter Tryz.func16,Tryz.ntmps16
 go_wp2_with fail
 refine Hcon.out.mono ?_
 rintro e w1 ⟨rfl,hb⟩
 have hb1:Below w.heap.size w w1:=hb0.trans (hb.mono hb0.size)
 clear Hcon hb hb0
 generalize hE:folE ts cs sts=E at *
 generalize hN:folN ts cs sts=N at *
 generalize folS ts cs sts=q at *
 obtain⟨q1,q2⟩:=q
 have HN:=hide hN
 clear hE hN
 by_cases h1:E=0
 ·subst h1
  by_cases h2:N=0
  ·subst h2
   have HE':=hide (HE.out.trans ((if_pos rfl).trans (if_pos rfl)))
   go_wp2_with fail
   go_ret2
   exact⟨ret_ii HN.out.symm HE'.out.symm,hb1.trans ((below_alloc w1 _).mono hb1.size)⟩
  ·have HE1:=hide (HE.out.trans ((if_pos rfl).trans (if_neg h2)))
   have hb2:(N == 0)=false:=by simp[h2]
   clear h2
   go_wp2_with fail
   refine(isEmpty_any q1 q2 _).mono ?_
   rintro e w2 ⟨rfl,hb3⟩
   have hb4:Below w.heap.size w w2:=(hb1.trans ((below_alloc w1 _).mono hb1.size)).trans (hb3.mono (by have:=hb1.size;simp;omega))
   cases hem:emptyB q1 q2
   ·have HE2:Hid (chkE ts cs sts=5):=by show _=_;rw[HE1.out,hem];rfl
    go_wp2_with fail
    go_ret2
    exact⟨ret_ii HN.out.symm HE2.out.symm,hb4⟩
   ·have HE2:Hid (chkE ts cs sts=0):=by show _=_;rw[HE1.out,hem];rfl
    go_wp2_with fail
    go_ret2
    exact⟨ret_ii HN.out.symm HE2.out.symm,hb4⟩
 ·have HE1:=hide (HE.out.trans (if_neg h1))
  have hbe:(E != 0)=true:=by simp[h1]
  clear h1
  go_wp2_with fail
  go_ret2
  exact⟨ret_ii HN.out.symm HE1.out.symm,hb1.trans ((below_alloc w1 _).mono hb1.size)⟩
def clsE(ts:List Tm)(cs:List Cl)(sts:List St):Int:=if folE ts cs sts=0 then if folN ts cs sts=0 then 5 else 0 else folE ts cs sts
def clsN(ts:List Tm)(cs:List Cl)(sts:List St):Int:=if folE ts cs sts=0 then if folN ts cs sts=0 then 0 else folN ts cs sts - 1 else folN ts cs sts
def clsL(ts:List Tm)(cs:List Cl)(sts:List St):List Lt:=if clsE ts cs sts=0 then inOrd (folS ts cs sts).1 (folS ts cs sts).2 else []
theorem folN_bd(ts:List Tm)(cs:List Cl)(sts:List St):0<=folN ts cs sts/\folN ts cs sts<=sts.length:=by
 have hl:∀(sts:List St) (ss:List (Nat×Nat)),(followL ts cs sts ss).length<=ss.length+sts.length:=by
  intro sts
  induction sts with
  | nil=>intro ss;simp[followL]
  | cons s l ih=>
    intro ss
    unfold followL
    split
    ·have:=ih (ss++[nextS ts cs ss s]);simp at this ⊢; omega
    ·simp
 unfold folN
 have:=hl sts []
 split
 ·simp at this;omega
 ·omega
set_option maxRecDepth 100000 in
set_option maxHeartbeats 1000000 in
theorem clause_any(ta sa la:Option Addr)(tc sc lc:Nat)(ts:List Tm)(cs:List Cl)(sts:List St)(w:World)(ht:TermsAt w ta ts)(hcs:ClausesAt w sa cs)(hst:StepsAt w la sts)(hlen:sts.length<=3518437208883) :
 Calls Tryz.prog 17 #[.agg #[.slice ta ts.length tc,.slice sa cs.length sc],.slice la sts.length lc] w fun e w'=>∃ va vc,
  e=.returned (.tuple #[.slice va (clsL ts cs sts).length vc,.int .i64 (clsN ts cs sts),.int .i64 (clsE ts cs sts)])/\w'.ownsRow w.heap.size 60 3 (.slice va (clsL ts cs sts).length vc) (clsL ts cs sts).length (lsCells (clsL ts cs sts)) /\
  (clsE ts cs sts≠0->va=none/\vc=0)/\Below w.heap.size w w':=by
 have hb0:=below_alloc w (.cells #[.slice ta ts.length tc,.slice sa cs.length sc] 25)
 have hcon:=fol_any ta sa la tc sc lc ts cs sts _ (ht.below hb0) (hcs.below hb0) (hst.below hb0) hlen
 have Hcon:=hide hcon
 have HE:Hid (clsE ts cs sts=if folE ts cs sts=0 then if folN ts cs sts=0 then 5 else 0 else folE ts cs sts):=rfl
 have HN:Hid (clsN ts cs sts=if folE ts cs sts=0 then if folN ts cs sts=0 then 0 else folN ts cs sts - 1 else folN ts cs sts):=rfl
 have HL:Hid (clsL ts cs sts=if clsE ts cs sts=0 then inOrd (folS ts cs sts).1 (folS ts cs sts).2 else []):=rfl
 have hq64:=folS_lt ts cs sts
 have hNb:=folN_bd ts cs sts
 clear hcon
 go_enter Tryz.func17,Tryz.ntmps17
 go_wp2_with fail
 refine Hcon.out.mono ?_
 rintro e w1 ⟨rfl,hb⟩
 have hb1:Below w.heap.size w w1:=hb0.trans (hb.mono hb0.size)
 clear Hcon hb hb0
 generalize hE:folE ts cs sts=E at *
 generalize hNN:folN ts cs sts=N at *
 generalize folS ts cs sts=q at *
 obtain⟨q1,q2⟩:=q
 clear hE hNN
 by_cases h1:E=0
 ·subst h1
  by_cases h2:N=0
  ·subst h2
   have HE':=hide (HE.out.trans ((if_pos rfl).trans (if_pos rfl)))
   have HN':=hide (HN.out.trans ((if_pos rfl).trans (if_pos rfl)))
   have HL':Hid (clsL ts cs sts=[]):=by show _=_;rw[HL.out,HE'.out];rfl
   go_wp2_with fail
   refine bodyPost_ret (v:=.tuple #[.slice none 0 0,.int .i64 0,.int .i64 5]) (by simp[results,Tryz.results17,go_sem]) rfl ?_
   rw[HE'.out,HN'.out,HL'.out]
   exact⟨none,0,rfl,World.ownsRow_nil _ _ _ _,fun _=>⟨rfl,rfl⟩,hb1.trans ((below_alloc w1 _).mono hb1.size)⟩
  ·have HE1:=hide (HE.out.trans ((if_pos rfl).trans (if_neg h2)))
   have HN1:=hide (HN.out.trans ((if_pos rfl).trans (if_neg h2)))
   have HL1:Hid (clsL ts cs sts=inOrd q1 q2):=by show _=_;rw[HL.out,HE1.out];rfl
   have hb2:(N == 0)=false:=by simp[h2]
   clear h2
   go_wp2_with fail
   refine(inOrder_any q1 q2 _ hq64.1 hq64.2).mono ?_
   rintro e w2 ⟨va,vc,rfl,hown,hb3⟩
   have hb4:Below w.heap.size w w2:=(hb1.trans ((below_alloc w1 _).mono hb1.size)).trans (hb3.mono (by have:=hb1.size;simp;omega))
   have hown':=own_base hown (show w.heap.size<=_ by have:=hb1.size;simp;omega)
   clear hown hb3
   generalize inOrd q1 q2=out at *
   go_wp2_with fail
   refine bodyPost_ret (v:=.tuple #[.slice va out.length vc,.int .i64 (N - 1),.int .i64 0]) (by simp[results,Tryz.results17,go_sem]) rfl ?_
   rw[HE1.out,HN1.out,HL1.out]
   exact⟨va,vc,rfl,hown',fun h=>absurd rfl h,hb4⟩
 ·have HE1:=hide (HE.out.trans (if_neg h1))
  have HN1:=hide (HN.out.trans (if_neg h1))
  have HL1:Hid (clsL ts cs sts=[]):=by show _=_;rw[HL.out,HE1.out,if_neg h1]
  have hbe:(E != 0)=true:=by simp[h1]
  clear h1
  go_wp2_with fail
  refine bodyPost_ret (v:=.tuple #[.slice none 0 0,.int .i64 N,.int .i64 E]) (by simp[results,Tryz.results17,go_sem]) rfl ?_
  rw[HE1.out,HN1.out,HL1.out]
  exact⟨none,0,rfl,World.ownsRow_nil _ _ _ _,fun _=>⟨rfl,rfl⟩,hb1.trans ((below_alloc w1 _).mono hb1.size)⟩
end Go.Proofs.YtjebhhoibofmfaaGreat
namespace Go.Proofs.YtjebhhoibofmfaaGreat
open Go.RowKit
theorem mustB_swap(ts:List Tm)(c:List Int)(i j:Nat):mustB ts c i j=mustB ts c j i:=by
 rw[Bool.eq_iff_iff]
 simp only[mustB,alikeB,argsEq,Bool.and_eq_true,decide_eq_true_eq,allB_iff,eqB]
 constructor
 ·rintro⟨⟨h1,h2⟩,h3⟩
  exact⟨⟨h1.symm,h2.symm⟩,fun t ht=>(h3 t (by omega)).symm⟩
 ·rintro⟨⟨h1,h2⟩,h3⟩
  exact⟨⟨h1.symm,h2.symm⟩,fun t ht=>(h3 t (by omega)).symm⟩
theorem forcedB_swap(ts:List Tm)(c:List Int)(i j:Nat):forcedB ts c i j=forcedB ts c j i:=by
 rw[forcedB,forcedB,mustB_swap ts c i j]
 congr 2
 rw[Bool.eq_iff_iff];simp[eq_comm]
def oneB(t u:Lt):Bool:=decide (t.n=u.n) && decide (ixN t.x t.y=ixN u.x u.y)
theorem bitN_bit(x y:Int)(p:Nat):(bitN x y).testBit p=decide (ixN x y=p):=two_bit _ _
theorem with_has(E A:Nat)(t u:Lt):hasS (withE E t) (withA A t) u=(hasS E A u || oneB t u):=by
 unfold hasS withE withA oneB
 cases ht:t.n <;> cases hu:u.n <;> simp[bitN_bit,Nat.testBit_or]
theorem wout_has(E A:Nat)(t u:Lt):hasS (woutE E t) (woutA A t) u=(hasS E A u && !oneB t u):=by
 unfold hasS woutE woutA oneB
 cases ht:t.n <;> cases hu:u.n <;> simp[bitN_bit,butN_bit]
theorem or_has(E A F B:Nat)(u:Lt):hasS (E ||| F) (A ||| B) u=(hasS E A u || hasS F B u):=by
 unfold hasS
 cases hu:u.n <;> simp[Nat.testBit_or]
theorem ofL_has:∀(ls:List Lt) (s:Nat×Nat) (u:Lt),hasS (ofL ls s).1 (ofL ls s).2 u=(hasS s.1 s.2 u || ls.any fun t=>oneB t u)
 | [],s,u=>by simp[ofL]
 | t :: ls,s,u=>by
   unfold ofL
   rw[ofL_has ls,with_has]
   simp[Bool.or_assoc]
theorem has_zero(u:Lt):hasS 0 0 u=false:=by unfold hasS;split <;> simp
theorem ixN_inj{x y x' y':Int}(hx:0<=x/\x < 9)(hy:0<=y/\y < 9)(hx':0<=x'/\x' < 9)(hy':0<=y'/\y' < 9)(h:ixN x y=ixN x' y'):(x=x'/\y=y')\/(x=y'/\y=x'):=by
 have:=tri_inj (l:=min x.toNat y.toNat) (g:=max x.toNat y.toNat) (l':=min x'.toNat y'.toNat) (g':=max x'.toNat y'.toNat) (by omega) (by omega) (by omega) (by omega) h
 omega
theorem eqB_comm(c:List Int)(x y:Int):eqB c x y=eqB c y x:=by unfold eqB;rw[Bool.eq_iff_iff];simp[eq_comm]
theorem one_lit{t u:Lt}(c:List Int)(ht:LowL 9 t)(hu:LowL 9 u)(h:oneB t u=true):litB c t=litB c u:=by
 simp only[oneB,Bool.and_eq_true,decide_eq_true_eq]at h
 obtain⟨h1,h2⟩:=h
 obtain⟨a1,a2,a3,a4⟩:=ht
 obtain⟨b1,b2,b3,b4⟩:=hu
 unfold litB
 rw[h1]
 rcases ixN_inj ⟨a1,a2⟩ ⟨a3,a4⟩ ⟨b1,b2⟩ ⟨b3,b4⟩ h2 with⟨e1,e2⟩ | ⟨e1,e2⟩
 ·rw[e1,e2]
 ·rw[e1,e2,eqB_comm]
theorem one_low{n:Int}{t u:Lt}(hn:n<=9)(ht:LowL n t)(hu:LowL 9 u)(h:oneB t u=true):LowL n u:=by
 simp only[oneB,Bool.and_eq_true,decide_eq_true_eq]at h
 obtain⟨a1,a2,a3,a4⟩:=ht
 obtain⟨b1,b2,b3,b4⟩:=hu
 rcases ixN_inj ⟨a1,by omega⟩ ⟨a3,by omega⟩ ⟨b1,b2⟩ ⟨b3,b4⟩ h.2 with⟨e1,e2⟩ | ⟨e1,e2⟩
 ·exact⟨by omega,by omega,by omega,by omega⟩
 ·exact⟨by omega,by omega,by omega,by omega⟩
theorem one_refl(t:Lt):oneB t t=true:=by simp[oneB]
def SHolds(n:Int)(c:List Int)(s:Nat×Nat):Prop:=∃ t,LowL n t/\hasS s.1 s.2 t=true/\litB c t=true
def SLow(n:Int)(s:Nat×Nat):Prop:=∀ t,LowL 9 t->hasS s.1 s.2 t=true->LowL n t
theorem slow_of{n:Int}{ls:List Lt}(hn:n<=9)(h:∀ t∈ls,LowL n t):SLow n (ofL ls (0,0)):=by
 intro u hu hh
 rw[ofL_has,has_zero,Bool.false_or,List.any_eq_true]at hh
 obtain⟨t,ht,h1⟩:=hh
 exact one_low hn (h t ht) hu h1
theorem sholds_of{n:Int}{c:List Int}{ls:List Lt}(h:∀ t∈ls,LowL n t)(hh:∃ t∈ls,litB c t=true):SHolds n c (ofL ls (0,0)):=by
 obtain⟨t,ht,h1⟩:=hh
 refine⟨t,h t ht,?_,h1⟩
 rw[ofL_has,Bool.or_eq_true]
 exact .inr (List.any_eq_true.2 ⟨t,ht,one_refl t⟩)
theorem holdsB_mem{c:List Int}{ls:List Lt}:holdsB c ls=true↔∃ t∈ls,litB c t=true:=by
 unfold holdsB
 rw[anyB_iff]
 constructor
 ·rintro⟨i,hi,h⟩;exact⟨_,getD_mem hi,h⟩
 ·rintro⟨t,ht,h⟩
  obtain⟨k,hk,e⟩:=List.getElem_of_mem ht
  refine⟨k,hk,?_⟩
  rw[List.getD_eq_getElem?_getD,List.getElem?_eq_getElem hk,Option.getD_some,e];exact h
theorem litsIn_mem{ls:List Lt}{n:Nat}(h:LitsIn ls n):∀ t∈ls,LowL n t:=by
 intro t ht
 obtain⟨k,hk,e⟩:=List.getElem_of_mem ht
 have h2:=h.2 k hk
 rw[List.getD_eq_getElem?_getD,List.getElem?_eq_getElem hk,Option.getD_some,e]at h2
 exact⟨h2.1.1,h2.1.2,h2.2.1,h2.2.2⟩
theorem lowL_of'{n x y:Int}{b:Bool}(hx:belowB x n=true)(hy:belowB y n=true):LowL n ⟨x,y,b⟩:=by
 simp[belowB]at hx hy
 exact⟨hx.1,hx.2,hy.1,hy.2⟩
theorem next_sure{ts:List Tm}{cs:List Cl}{ss:List (Nat×Nat)}{s:St}(hts:termsB ts=true)(hcl:clausesB ts.length cs=true)(hss:∀ p∈ss,SLow (ts.length:Nat) p)(h:nextB ts cs ss s=true) :
 SLow (ts.length:Nat) (nextS ts cs ss s)/\∀ c:List Int,soundB ts c=true->allHoldB c cs=true->(∀ p∈ss,SHolds (ts.length:Nat) c p)->SHolds (ts.length:Nat) c (nextS ts cs ss s):=by
 have h9:((ts.length:Nat):Int)<=9:=by have:=(len_of hts).2;omega
 unfold nextB at h
 unfold nextS
 split at h
 ·rename_i h0
  rw[if_pos h0]
  simp only[okG,Bool.and_eq_true]at h
  have ha:belowB s.a (cs.length:Nat)=true:=allB_iff.1 h.1 0 (by simp)
  simp[belowB]at ha
  have hi:s.a.toNat < cs.length:=by omega
  have hm:=litsIn_mem ((clausesIn_of hcl).2 s.a.toNat hi)
  exact⟨slow_of h9 hm,fun c _ hh _=>sholds_of hm (holdsB_mem.1 (allB_iff.1 hh s.a.toNat hi))⟩
 ·rename_i h0
  rw[if_neg h0]
  split at h
  ·rename_i h1
   rw[if_pos h1]
   simp only[okR,Bool.and_eq_true]at h
   have ha:belowB s.a (ts.length:Nat)=true:=allB_iff.1 h.1 0 (by simp)
   have hm:∀ t∈[(⟨s.a,s.a,false⟩:Lt)],LowL (ts.length:Nat) t:=by intro t ht;simp at ht;rw[ht];exact lowL_of' ha ha
   exact⟨slow_of h9 hm,fun c _ _ _=>sholds_of hm ⟨_,List.mem_cons_self ..,by simp[litB,eqB]⟩⟩
  ·rename_i h1
   rw[if_neg h1]
   split at h
   ·rename_i h2
    rw[if_pos h2]
    simp only[okT,Bool.and_eq_true]at h
    have ha:belowB s.a (ts.length:Nat)=true:=allB_iff.1 h.1 0 (by simp)
    have hb:belowB s.b (ts.length:Nat)=true:=allB_iff.1 h.1 1 (by simp)
    have hc:belowB s.c (ts.length:Nat)=true:=allB_iff.1 h.1 2 (by simp)
    have hm:∀ t∈[(⟨s.a,s.b,true⟩:Lt),⟨s.b,s.c,true⟩,⟨s.a,s.c,false⟩],LowL (ts.length:Nat) t:=by
     intro t ht
     simp at ht
     rcases ht with rfl | rfl | rfl
     ·exact lowL_of' ha hb
     ·exact lowL_of' hb hc
     ·exact lowL_of' ha hc
    refine⟨slow_of h9 hm,fun c _ _ _=>sholds_of hm ?_⟩
    by_cases e1:cls c s.a=cls c s.b
    ·by_cases e2:cls c s.b=cls c s.c
     ·exact⟨⟨s.a,s.c,false⟩,by simp,by simp[litB,eqB,e1,e2]⟩
     ·exact⟨⟨s.b,s.c,true⟩,by simp,by simp[litB,eqB,e2]⟩
    ·exact⟨⟨s.a,s.b,true⟩,by simp,by simp[litB,eqB,e1]⟩
   ·rename_i h2
    rw[if_neg h2]
    split at h
    ·rename_i h3
     rw[if_pos h3]
     simp only[okC,Bool.and_eq_true]at h
     have ha:belowB s.a (ts.length:Nat)=true:=allB_iff.1 h.1.1 0 (by simp)
     have hb:belowB s.b (ts.length:Nat)=true:=allB_iff.1 h.1.1 1 (by simp)
     have hal:=h.2
     have hal':=h.2
     simp only[alikeB,Bool.and_eq_true,decide_eq_true_eq]at hal'
     have ha':=ha
     have hb':=hb
     simp[belowB]at ha' hb'
     have hia:s.a.toNat < ts.length:=by omega
     have hib:s.b.toNat < ts.length:=by omega
     have ai:=argsIn_of hts (Nat.le_refl _) s.a.toNat hia
     have aj:=argsIn_of hts (Nat.le_refl _) s.b.toNat hib
     have hm:∀ t∈congL s.a s.b (ts.getD s.a.toNat tm0).args (ts.getD s.b.toNat tm0).args (ts.getD s.a.toNat tm0).args.length,LowL (ts.length:Nat) t:=by
      intro t ht
      simp only[congL,List.mem_cons,List.mem_map,List.mem_range]at ht
      rcases ht with rfl | ⟨i,hi,rfl⟩
      ·exact lowL_of' ha hb
      ·have x:=ai.2 i hi
       have y:=aj.2 i (by rw[<-hal'.2];exact hi)
       exact⟨x.1,x.2,y.1,y.2⟩
     refine⟨slow_of h9 hm,fun c hsd _ _=>sholds_of hm ?_⟩
     cases he:argsEq c (ts.getD s.a.toNat tm0).args (ts.getD s.b.toNat tm0).args with
     | true=>
       have hmu:mustB ts c s.a.toNat s.b.toNat=true:=by unfold mustB;rw[hal,he];rfl
       have hq:cls c s.a=cls c s.b:=by
        have hs:∀ i j,j < i->i < ts.length->forcedB ts c i j=false:=by
         intro i j hji hi
         have:=allB_iff.1 (allB_iff.1 hsd i hi) j hji
         simpa using this
        unfold cls
        rcases Nat.lt_trichotomy s.a.toNat s.b.toNat with hlt | heq | hgt
        ·have:=hs s.b.toNat s.a.toNat hlt hib
         rw[forcedB_swap]at this
         unfold forcedB at this
         rw[hmu]at this
         simpa using this
        ·rw[heq]
        ·have:=hs s.a.toNat s.b.toNat hgt hia
         unfold forcedB at this
         rw[hmu]at this
         simpa using this
       exact⟨⟨s.a,s.b,false⟩,by simp[congL],by simp[litB,eqB,hq]⟩
     | false=>
       have:¬ ∀ i,i < (ts.getD s.a.toNat tm0).args.length->eqB c ((ts.getD s.a.toNat tm0).args.getD i 0) ((ts.getD s.b.toNat tm0).args.getD i 0)=true:=by
        intro hall
        have:=allB_yes hall
        unfold argsEq at he
        rw[he]at this;cases this
       obtain⟨i,hi⟩:=Classical.not_forall.1 this
       obtain⟨hi1,hi2⟩:=Classical.not_imp.1 hi
       refine⟨⟨(ts.getD s.a.toNat tm0).args.getD i 0,(ts.getD s.b.toNat tm0).args.getD i 0,true⟩,?_,?_⟩
       ·simp only[congL,List.mem_cons,List.mem_map,List.mem_range]
        exact .inr ⟨i,hi1,rfl⟩
       ·unfold litB
        simp only[Bool.not_eq_true]at hi2
        rw[hi2];rfl
    ·rename_i h3
     rw[if_neg h3]
     split at h
     ·simp only[okX,Bool.and_eq_true]at h
      have ha:belowB s.a (ss.length:Nat)=true:=allB_iff.1 h.1.1.1 0 (by simp)
      have hb:belowB s.b (ss.length:Nat)=true:=allB_iff.1 h.1.1.1 1 (by simp)
      have hc:belowB s.c (ts.length:Nat)=true:=allB_iff.1 h.1.1.2 0 (by simp)
      have hd:belowB s.d (ts.length:Nat)=true:=allB_iff.1 h.1.1.2 1 (by simp)
      simp[belowB]at ha hb
      have mx:=getD_memS (ls:=ss) (k:=s.a.toNat) (by omega)
      have my:=getD_memS (ls:=ss) (k:=s.b.toNat) (by omega)
      have lx:=hss _ mx
      have ly:=hss _ my
      have l1:LowL (ts.length:Nat) ⟨s.c,s.d,false⟩:=lowL_of' hc hd
      have l2:LowL (ts.length:Nat) ⟨s.c,s.d,true⟩:=lowL_of' hc hd
      have up:∀ {t:Lt},LowL (ts.length:Nat) t->LowL 9 t:=fun ht=>⟨ht.1,by have:=ht.2.1;omega,ht.2.2.1,by have:=ht.2.2.2;omega⟩
      unfold setX
      generalize ss.getD s.a.toNat (0,0)=x at *
      generalize ss.getD s.b.toNat (0,0)=y at *
      refine⟨?_,fun c _ _ hall=>?_⟩
      ·intro t ht hh
       simp only[or_has,wout_has,Bool.or_eq_true,Bool.and_eq_true]at hh
       rcases hh with hh | hh
       ·exact lx t ht hh.1
       ·exact ly t ht hh.1
      ·obtain⟨t,ht,ht1,ht2⟩:=hall x mx
       cases h1:oneB ⟨s.c,s.d,false⟩ t with
       | false=>
         refine⟨t,ht,?_,ht2⟩
         simp[or_has,wout_has,ht1,h1]
       | true=>
         obtain⟨u,hu,hu1,hu2⟩:=hall y my
         cases h2:oneB ⟨s.c,s.d,true⟩ u with
         | false=>
           refine⟨u,hu,?_,hu2⟩
           simp[or_has,wout_has,hu1,h2]
         | true=>
           exfalso
           have e1:=one_lit c (up l1) (up ht) h1
           have e2:=one_lit c (up l2) (up hu) h2
           rw[ht2]at e1
           rw[hu2]at e2
           simp[litB]at e1 e2
           rw[e1]at e2;cases e2
     ·cases h
end Go.Proofs.YtjebhhoibofmfaaGreat
