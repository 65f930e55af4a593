import Derived.Test.YtjebhhoibofmfaaGreatAXWdD
namespace Go.Proofs.YtjebhhoibofmfaaGreat
open Go.RowKit
theorem over_5{a b c d v:Value}{k:Nat}{xs:List Value}(h:k*5+5<=xs.length):(((((marks [a,b,c,d,v] k++xs.drop (k*5)).set (k*5) a).set (k*5+1) b).set (k*5+2) c).set (k*5+3) d).set (k*5+4) v=marks [a,b,c,d,v] (k+1)++xs.drop ((k+1)*5):=by
 have hM:(marks [a,b,c,d,v] k).length=k*5:=marks_length rfl k
 have e:xs.drop (k*5)=xs[k*5+0] :: xs[k*5+1] :: xs[k*5+2] :: xs[k*5+3] :: xs[k*5+4] :: xs.drop (k*5+5):=by
  rw[List.drop_eq_getElem_cons (by omega),List.drop_eq_getElem_cons (by omega),List.drop_eq_getElem_cons (by omega),List.drop_eq_getElem_cons (by omega),List.drop_eq_getElem_cons (by omega)]
  simp
 rw[e,marks_succ,List.append_assoc,show(k+1)*5=k*5+5 by omega]
 generalize marks [a,b,c,d,v] k=M at *
 have s0:=fun(L:List Value) (v:Value)=>set_app M L hM 0 v
 have s1:=fun(L:List Value) (v:Value)=>set_app M L hM 1 v
 have s2:=fun(L:List Value) (v:Value)=>set_app M L hM 2 v
 have s3:=fun(L:List Value) (v:Value)=>set_app M L hM 3 v
 have s4:=fun(L:List Value) (v:Value)=>set_app M L hM 4 v
 simp only[Nat.add_zero]at s0
 rw[s0,s1,s2,s3,s4]
 rfl
set_option maxRecDepth 100000 in
set_option maxHeartbeats 4000000 in
theorem takeSteps_any(B H:Nat)(D:Wd)(w:World)(hW:Wo B w H D)(ca:Option Addr)(n cc:Nat)(xs:List Value)(hc:w.ownsRow B 36 5 (.slice ca n cc) n xs)(hfr:Apart' D ca)(hn:n<=3518437208880)(hI:(D.us 4).length<=1099511627776)(h3:(D.us 5).length=3*(D.us 4).length) :
 Calls Tryz.prog 37 #[.pointer (some ⟨H,0,none⟩),.slice ca n cc] w fun e w'=>e=.returned (.tuple #[])/\Taken B H w D 4 3 w':=by
 obtain⟨i1,hi1,hy0,hy1,hy2⟩:=info_parts info_step
 obtain⟨i2,hi2,hx0,hx1,hx2⟩:=info_parts info_steps
 have hWw:=hW
 obtain⟨m,hm⟩:∃ m:Int,m=-1 - ((D.us 4).length:Int):=⟨_,rfl⟩
 have hwm:IntKind.i64.wrap (-1 - ((D.us 4).length:Int))=m/\wrap64 (-1 - ((D.us 4).length:Int))=m:=by rw[hm];exact wrap_mark (by omega)
 obtain⟨hw1,hw2⟩:=hwm
 have hw3:-1 - ((D.us 4).length:Int)=m:=hm.symm
 have c0:=(hWw.cell (f:=4) (by omega)).1
 simp only[Wd.val]at c0
 have hlen:xs.length=n*5:=hc.1
 obtain⟨wA,hwA⟩:∃ wA,wA=w.alloc (.cells #[.int .i64 m,.int .i64 0,.int .i64 0,.int .i64 0,.int .i64 0] 36):=⟨_,rfl⟩
 have hbA:Below w.heap.size w wA:=by rw[hwA];exact below_alloc _ _
 have hbx:wA.cell? ⟨w.heap.size,0,none⟩=some (.int .i64 m)/\wA.cell? ⟨w.heap.size,1,none⟩=some (.int .i64 0)/\wA.cell? ⟨w.heap.size,2,none⟩=some (.int .i64 0)/\wA.cell? ⟨w.heap.size,3,none⟩=some (.int .i64 0)/\wA.cell? ⟨w.heap.size,4,none⟩=some (.int .i64 0):=by rw[hwA];refine⟨?_,?_,?_,?_,?_⟩ <;> exact alloc_new rfl rfl
 have hcA:=own_below hc hbA
 have hnA:w.heap.size ∉ blkOf ca:=fun hx=>by have:=(own_lt hc _ hx).2;omega
 have hNA:w.heap.size < wA.heap.size:=by rw[hwA];simp
 have hN0:B<=w.heap.size:=Nat.le_of_lt (Nat.lt_of_le_of_lt hW.hB (Array.getElem?_eq_some_iff.1 hW.box).1)
 have Hc:=hide hcA
 have Hfr:=hide hfr
 have HWA:=hide (hW.below hbA)
 clear hfr
 have Hm:=hide hm
 have HW:=hide hW
 have H3:=hide h3
 have Hlen:=hide hlen
 have HbA:=hide hbA
 have hge:∀ b∈blkOf ca,B<=b:=fun b hx=>(own_lt hc b hx).1
 clear hm hW h3 hlen hc hbA
 go_enter Tryz.func37,Tryz.ntmps37
 go_upto_region 1 with fail
 rw[<-hwA]
 clear hwA c0 hw1 hw2 hw3
 generalize hbxe:w.heap.size=bx at *
 have Hbx:=hide hbxe
 clear hbxe
 go_wp2_with fail
 go_loopg [5] n (fun q s5 wr=>∃ k:Nat,q=n - k/\k<=n/\s5=.int .i64 k/\wr.ownsRow B 36 5 (.slice ca n cc) n (marks [.int .i64 m,.int .i64 0,.int .i64 0,.int .i64 0,.int .i64 0] k++xs.drop (k*5))/\Keeps (blkOf ca) wA wr/\KeT 36 wA wr)
 case atStart=>exact⟨0,by omega,by omega,rfl,by simpa[marks] using hcA,Keeps.refl _ _,KeT.refl _ _⟩
 case round=>
  obtain⟨k,rfl,hk,rfl,ho,hkr,hke⟩:=hrel
  obtain⟨x0,x1,x2,x3,x4⟩:=hbx
  have y0:=hkr.cell hnA x0
  have y1:=hkr.cell hnA x1
  have y2:=hkr.cell hnA x2
  have y3:=hkr.cell hnA x3
  have y4:=hkr.cell hnA x4
  by_cases hlt:k < n
  ·obtain⟨g,hg⟩:∃ g,ca=some ⟨g,0,none⟩:=by
    rcases ho.2 with⟨_,h0⟩ | ⟨g,cap,cur,hv,_⟩
    ·omega
    ·injection hv with e1;exact⟨g,e1⟩
   subst hg
   have hl2:=ho.1
   have z0:=ho.cellAt (k*5) (by omega)
   rw[List.getElem?_eq_getElem (by omega)]at z0
   have f0:=ho.frozenAt (k*5)
   have z1:=ho.cellAt (k*5+1) (by omega)
   rw[List.getElem?_eq_getElem (by omega)]at z1
   have f1:=ho.frozenAt (k*5+1)
   have z2:=ho.cellAt (k*5+2) (by omega)
   rw[List.getElem?_eq_getElem (by omega)]at z2
   have f2:=ho.frozenAt (k*5+2)
   have z3:=ho.cellAt (k*5+3) (by omega)
   rw[List.getElem?_eq_getElem (by omega)]at z3
   have f3:=ho.frozenAt (k*5+3)
   have z4:=ho.cellAt (k*5+4) (by omega)
   rw[List.getElem?_eq_getElem (by omega)]at z4
   have f4:=ho.frozenAt (k*5+4)
   have t0:=ho.stored (k*5) (.int .i64 m)
   have t1:=t0.1.stored (k*5+1) (.int .i64 0)
   have t2:=t1.1.stored (k*5+2) (.int .i64 0)
   have t3:=t2.1.stored (k*5+3) (.int .i64 0)
   have t4:=t3.1.stored (k*5+4) (.int .i64 0)
   have hgr:=((((t0.2.trans t1.2).trans t2.2).trans t3.2).trans t4.2)
   have hst:=t4.1
   rw[over_5 (by have:=Hlen.out;omega)]at hst
   have hke2:KeT 36 wA (((((wr.setCell ⟨g,k*5,none⟩ (.int .i64 m)).setCell ⟨g,k*5+1,none⟩ (.int .i64 0)).setCell ⟨g,k*5+2,none⟩ (.int .i64 0)).setCell ⟨g,k*5+3,none⟩ (.int .i64 0)).setCell ⟨g,k*5+4,none⟩ (.int .i64 0)):=fun B' e' size' n' v' xs' hne hx=>own_apart (hke B' e' size' n' v' xs' hne hx) hgr (fun g' hg'=>own_type ho (fun e=>hne e.symm) g' hg')
   have hkr2:Keeps (blkOf (some (⟨g,0,none⟩:Addr))) wA (((((wr.setCell ⟨g,k*5,none⟩ (.int .i64 m)).setCell ⟨g,k*5+1,none⟩ (.int .i64 0)).setCell ⟨g,k*5+2,none⟩ (.int .i64 0)).setCell ⟨g,k*5+3,none⟩ (.int .i64 0)).setCell ⟨g,k*5+4,none⟩ (.int .i64 0)):=(((((hkr.set (by simp[blkOf]) _).set (by simp[blkOf]) _).set (by simp[blkOf]) _).set (by simp[blkOf]) _).set (by simp[blkOf]) _)
   have Hst:=hide (And.intro hst (And.intro hkr2 hke2))
   have hbg:bx≠g:=fun e=>hnA (by simp[blkOf,e])
   generalize (marks [Value.int .i64 m,.int .i64 0,.int .i64 0,.int .i64 0,.int .i64 0] k++xs.drop (k*5))[k*5]=old0 at *
   generalize (marks [Value.int .i64 m,.int .i64 0,.int .i64 0,.int .i64 0,.int .i64 0] k++xs.drop (k*5))[k*5+1]=old1 at *
   generalize (marks [Value.int .i64 m,.int .i64 0,.int .i64 0,.int .i64 0,.int .i64 0] k++xs.drop (k*5))[k*5+2]=old2 at *
   generalize (marks [Value.int .i64 m,.int .i64 0,.int .i64 0,.int .i64 0,.int .i64 0] k++xs.drop (k*5))[k*5+3]=old3 at *
   generalize (marks [Value.int .i64 m,.int .i64 0,.int .i64 0,.int .i64 0,.int .i64 0] k++xs.drop (k*5))[k*5+4]=old4 at *
   have klt:(k:Int) < (n:Int):=by omega
   clear hst hkr2 hke2 hgr ho hke hkr t0 t1 t2 t3 t4 hcA x0 x1 x2 x3 x4 hl2
   go_wp2_with fail
   go_roundg (n - (k+1))
   case measure=>omega
   case rel=>exact⟨k+1,rfl,by omega,by go_num,Hst.out.1,Hst.out.2.1,Hst.out.2.2⟩
  ·have hkn:k=n:=by omega
   subst hkn
   rw[List.drop_eq_nil_of_le (by have:=Hlen.out;omega),List.append_nil]at ho
   have hM:MG B 36 5 [.int .i64 m,.int .i64 0,.int .i64 0,.int .i64 0,.int .i64 0] wr [⟨ca,k,cc⟩]:=fun u hu=>by simp at hu;subst hu;exact ho
   have hNr:B<=wr.heap.size:=by have:=hkr.size;omega
   have HMk:Hid (∀ j,j<=3->∀ u∈marks [Value.int .i64 m,.int .i64 0,.int .i64 0,.int .i64 0,.int .i64 0] j,u.oneCell'=true):=fun j _=>marks_one (fun u hu=>by
    simp only[List.mem_cons,List.not_mem_nil,or_false]at hu
    rcases hu with rfl | rfl | rfl | rfl | rfl <;> rfl) j
   clear ho hcA x0 x1 x2 x3 x4
   go_upto_region 6 with(at_builtin;refine wpList_append_mark rfl (.tmp 26) (.tmp 28) 26 rfl B 36 i1 (.agg #[.int .i64 0,.int .i64 0,.int .i64 0,.int .i64 0,.int .i64 0]) 5 40 Tryz.underlying26 hi1 hy0 hy1 hy2 rfl (by decide) [.int .i64 m,.int .i64 0,.int .i64 0,.int .i64 0,.int .i64 0] rfl ⟨ca,k,cc⟩ [⟨ca,k,cc⟩] rfl (by simp) (hM.below (below_alloc _ _)) 1 (by omega) (by intro u hu;simp at hu;subst hu;simp) ⟨wr.heap.size,0,none⟩ 1 rfl (news_arr wr #[.int .i64 m,.int .i64 0,.int .i64 0,.int .i64 0,.int .i64 0] 36) (HMk.out 1 (by omega)) (by unfold maxLen;show k+1<=_;omega) (by show(k+1)*40<=_;omega) (by simp;omega) ?_;intro u1 w1 hn1 hM1 hb1 hk1 hg1)
   have hkr1:Keeps (blkOf ca) wA w1:=hkr.trans (app_keep' (below_alloc wr _) hg1) (fun x hx=>.inl hx)
   have hke1:KeT 36 wA w1:=(hke.alloc _).trans hk1
   have hN1:B<=w1.heap.size:=by have:=hkr1.size;omega
   have Hn1:=hide hn1
   have y1_0:=(app_keep' (below_alloc wr _) hg1).cell hnA y0
   have y1_1:=(app_keep' (below_alloc wr _) hg1).cell hnA y1
   have y1_2:=(app_keep' (below_alloc wr _) hg1).cell hnA y2
   have y1_3:=(app_keep' (below_alloc wr _) hg1).cell hnA y3
   have y1_4:=(app_keep' (below_alloc wr _) hg1).cell hnA y4
   clear hM hn1 hb1 hk1 hg1 hkr hke y0 y1 y2 y3 y4
   go_upto_region 7 with(at_builtin;refine wpList_append_mark rfl (.tmp 30) (.tmp 33) 26 rfl B 36 i1 (.agg #[.int .i64 0,.int .i64 0,.int .i64 0,.int .i64 0,.int .i64 0]) 5 40 Tryz.underlying26 hi1 hy0 hy1 hy2 rfl (by decide) [.int .i64 m,.int .i64 0,.int .i64 0,.int .i64 0,.int .i64 0] rfl ⟨ca,k,cc⟩ ([⟨ca,k,cc⟩]++[u1]) rfl (by simp) (hM1.below (below_alloc _ _)) 2 (by omega) (by intro u hu;have h1:u1.n=k+1:=Hn1.out;simp at hu;rcases hu with rfl | rfl;simp;show _<=k+2;omega) ⟨w1.heap.size,0,none⟩ 2 rfl (news_arr w1 #[.int .i64 m,.int .i64 0,.int .i64 0,.int .i64 0,.int .i64 0,.int .i64 m,.int .i64 0,.int .i64 0,.int .i64 0,.int .i64 0] 36) (HMk.out 2 (by omega)) (by unfold maxLen;show k+2<=_;omega) (by show(k+2)*40<=_;omega) (by simp;omega) ?_;intro u2 w2 hn2 hM2 hb2 hk2 hg2)
   have hkr2:Keeps (blkOf ca) wA w2:=hkr1.trans (app_keep' (below_alloc w1 _) hg2) (fun x hx=>.inl hx)
   have hke2:KeT 36 wA w2:=(hke1.alloc _).trans hk2
   have hN2:B<=w2.heap.size:=by have:=hkr2.size;omega
   have Hn2:=hide hn2
   have y2_0:=(app_keep' (below_alloc w1 _) hg2).cell hnA y1_0
   have y2_1:=(app_keep' (below_alloc w1 _) hg2).cell hnA y1_1
   have y2_2:=(app_keep' (below_alloc w1 _) hg2).cell hnA y1_2
   have y2_3:=(app_keep' (below_alloc w1 _) hg2).cell hnA y1_3
   have y2_4:=(app_keep' (below_alloc w1 _) hg2).cell hnA y1_4
   clear hM1 hn2 hb2 hk2 hg2 hkr1 hke1 y1_0 y1_1 y1_2 y1_3 y1_4
   go_upto_region 8 with(at_builtin;refine wpList_append_mark rfl (.tmp 35) (.tmp 39) 26 rfl B 36 i1 (.agg #[.int .i64 0,.int .i64 0,.int .i64 0,.int .i64 0,.int .i64 0]) 5 40 Tryz.underlying26 hi1 hy0 hy1 hy2 rfl (by decide) [.int .i64 m,.int .i64 0,.int .i64 0,.int .i64 0,.int .i64 0] rfl ⟨ca,k,cc⟩ ([⟨ca,k,cc⟩]++[u1]++[u2]) rfl (by simp) (hM2.below (below_alloc _ _)) 3 (by omega) (by intro u hu;have h1:u1.n=k+1:=Hn1.out;have h2:u2.n=k+2:=Hn2.out;simp at hu;rcases hu with rfl | rfl | rfl;simp;show _<=k+3;omega;show _<=k+3;omega) ⟨w2.heap.size,0,none⟩ 3 rfl (news_arr w2 #[.int .i64 m,.int .i64 0,.int .i64 0,.int .i64 0,.int .i64 0,.int .i64 m,.int .i64 0,.int .i64 0,.int .i64 0,.int .i64 0,.int .i64 m,.int .i64 0,.int .i64 0,.int .i64 0,.int .i64 0] 36) (HMk.out 3 (by omega)) (by unfold maxLen;show k+3<=_;omega) (by show(k+3)*40<=_;omega) (by simp;omega) ?_;intro u3 w3 hn3 hM3 hb3 hk3 hg3)
   have hkr3:Keeps (blkOf ca) wA w3:=hkr2.trans (app_keep' (below_alloc w2 _) hg3) (fun x hx=>.inl hx)
   have hke3:KeT 36 wA w3:=(hke2.alloc _).trans hk3
   have hN3:B<=w3.heap.size:=by have:=hkr3.size;omega
   have y3_0:=(app_keep' (below_alloc w2 _) hg3).cell hnA y2_0
   have y3_1:=(app_keep' (below_alloc w2 _) hg3).cell hnA y2_1
   have y3_2:=(app_keep' (below_alloc w2 _) hg3).cell hnA y2_2
   have y3_3:=(app_keep' (below_alloc w2 _) hg3).cell hnA y2_3
   have y3_4:=(app_keep' (below_alloc w2 _) hg3).cell hnA y2_4
   clear hM2 hn3 hb3 hk3 hg3 hkr2 hke2 y2_0 y2_1 y2_2 y2_3 y2_4
   have hBW:B<=B:=Nat.le_refl _
   have hei:(∀ i,i < 6->(36:TypeId)≠eR i)/\(36:TypeId)≠44:=⟨fun i hi=>type_ne (i:=4) (by omega) hi,by decide⟩
   have hb03:Below B w w3:=hkr3.below (HbA.out.mono hN0) (by omega) hge
   have hT0:Tk B H w D 4 0 0 3 ([⟨ca,k,cc⟩]++[u1]++[u2]++[u3]) w3 D:=by
    refine⟨HWA.out.keeps Hc.out hei hkr3 Hfr.out,rfl,rfl,fun _ _ _=>rfl,hb03.mono hBW,fun size n v xs hx=>?_,fun u hu=>?_,fun e' size n v xs a1 _ _ hx=>hke3 _ _ _ _ _ _ a1 (own_below hx (by rw[Hbx.out];exact HbA.out))⟩
    ·exact hke3 _ _ _ _ _ _ (by decide) (own_below hx (by rw[Hbx.out];exact HbA.out))
    ·have:=own_base (hM3 u hu) hBW
     rw[Hm.out]at this
     exact this
   have he:(∀ i,i < 6->(3:TypeId)≠eR i)/\(3:TypeId)≠44:=⟨fun i hi=>type_ne (i:=0) (by omega) hi,by decide⟩
   have He:=hide he
   have HT0:=hide hT0
   have hl0:(D.us 4).length<=1099511627776:=hI
   clear hM3 hb03 hke3 hkr3 he hT0 hei y3_0 y3_1 y3_2 y3_3 y3_4
   have hBw:B<=bx:=Nat.le_trans hBW hN0
   clear Hn1 Hn2
   obtain⟨ua1,un1,uc1⟩:=u1
   obtain⟨ua2,un2,uc2⟩:=u2
   obtain⟨ua3,un3,uc3⟩:=u3
   simp only[lsV]
   have p8:=(HT0.out.wo.cell (f:=4) (by omega)).1
   have r8:w3.ownsRow B 26 1 (.slice (D.a 4) (D.us 4).length (D.c 4)) (D.us 4).length ((D.us 4).map lsV):=HT0.out.wo.row 4 (by omega)
   have hB8:B<=w3.heap.size:=by have:=HT0.out.bel.size;have:=Hbx.out;omega
   simp only[Wd.val]at p8
   go_wp2_with (at_builtin;refine wpList_append_own_at _ rfl (.tmp 45) (.tmp 47) 42 rfl B 26 i2 (.slice none 0 0) 1 24 Tryz.underlying42 hi2 hx0 hx1 hx2 rfl (by decide) (.slice (D.a 4) (D.us 4).length (D.c 4)) (D.us 4).length ((D.us 4).map lsV) rfl (r8.alloc _) ⟨w3.heap.size,0,none⟩ 1 1 [lsV ⟨ca,k,cc⟩] rfl rfl (new_one w3 (lsV ⟨ca,k,cc⟩) 26) one_slice (by unfold maxLen;omega) (by omega) (by simp;omega) ?_)
   intro vv ww hoo hgg hzz haa
   clear hzz
   obtain⟨gg,gc,rfl⟩:=own_some hoo
   have hkk:=HT0.out.wo.kept (f:=4) (by omega) (below_alloc w3 _) hgg
   have k8:=hkk.1
   have f8:=hkk.2
   simp only[Wd.val]at k8
   have HT1:=hide (HT0.out.first (by decide) He.out (u:=⟨ca,k,cc⟩) (by simp) (below_alloc w3 _) hoo hgg (by rcases at_of haa with h | h;exact .inl h;exact .inr (by simpa using h)))
   obtain⟨w4,hw8⟩:∃ w4,w4=ww.setCell ⟨H,4,none⟩ (.slice (some ⟨gg,0,none⟩) ((D.us 4).length+1) gc):=⟨_,rfl⟩
   clear hkk hoo hgg haa p8 r8
   go_upto_region 9 with fail
   rw[<-hw8]
   rw[<-hw8]at HT1
   clear hw8 k8 f8
   generalize D.push 4 ⟨ca,k,cc⟩ gg gc=D1 at *
   have hl1:(D1.us 4).length<=1099511627777/\(D1.us 5).length<=3298534883333:=⟨by have:=HT1.out.la;omega,by have h1:(D1.us 5).length=(D.us 5).length+0:=HT1.out.lb;have h2:(D.us 5).length=3*(D.us 4).length:=H3.out;omega⟩
   obtain⟨hla1,hlb1⟩:=hl1
   have p9:=(HT1.out.wo.cell (f:=5) (by omega)).1
   have r9:w4.ownsRow B 26 1 (.slice (D1.a 5) (D1.us 5).length (D1.c 5)) (D1.us 5).length ((D1.us 5).map lsV):=HT1.out.wo.row 5 (by omega)
   have hB9:B<=w4.heap.size:=by have:=HT1.out.bel.size;have:=Hbx.out;omega
   simp only[Wd.val]at p9
   go_wp2_with (at_builtin;refine wpList_append_own_at _ rfl (.tmp 55) (.tmp 57) 42 rfl B 26 i2 (.slice none 0 0) 1 24 Tryz.underlying42 hi2 hx0 hx1 hx2 rfl (by decide) (.slice (D1.a 5) (D1.us 5).length (D1.c 5)) (D1.us 5).length ((D1.us 5).map lsV) rfl (r9.alloc _) ⟨w4.heap.size,0,none⟩ 1 1 [lsV ⟨ua1,un1,uc1⟩] rfl rfl (new_one w4 (lsV ⟨ua1,un1,uc1⟩) 26) one_slice (by unfold maxLen;omega) (by omega) (by simp;omega) ?_)
   intro vv ww hoo hgg hzz haa
   clear hzz
   obtain⟨gg,gc,rfl⟩:=own_some hoo
   have hkk:=HT1.out.wo.kept (f:=5) (by omega) (below_alloc w4 _) hgg
   have k9:=hkk.1
   have f9:=hkk.2
   simp only[Wd.val]at k9
   have HT2:=hide (HT1.out.next (by decide) H3.out (by omega) He.out (u:=⟨ua1,un1,uc1⟩) (by simp) (below_alloc w4 _) hoo hgg (by rcases at_of haa with h | h;exact .inl h;exact .inr (by simpa using h)))
   obtain⟨w5,hw9⟩:∃ w5,w5=ww.setCell ⟨H,5,none⟩ (.slice (some ⟨gg,0,none⟩) ((D1.us 5).length+1) gc):=⟨_,rfl⟩
   clear hkk hoo hgg haa p9 r9
   go_upto_region 10 with fail
   rw[<-hw9]
   rw[<-hw9]at HT2
   clear hw9 k9 f9
   generalize D1.push 5 ⟨ua1,un1,uc1⟩ gg gc=D2 at *
   have hl2:(D2.us 4).length<=1099511627777/\(D2.us 5).length<=3298534883333:=⟨by have:=HT2.out.la;omega,by have h1:(D2.us 5).length=(D.us 5).length+1:=HT2.out.lb;have h2:(D.us 5).length=3*(D.us 4).length:=H3.out;omega⟩
   obtain⟨hla2,hlb2⟩:=hl2
   have p10:=(HT2.out.wo.cell (f:=5) (by omega)).1
   have r10:w5.ownsRow B 26 1 (.slice (D2.a 5) (D2.us 5).length (D2.c 5)) (D2.us 5).length ((D2.us 5).map lsV):=HT2.out.wo.row 5 (by omega)
   have hB10:B<=w5.heap.size:=by have:=HT2.out.bel.size;have:=Hbx.out;omega
   simp only[Wd.val]at p10
   go_wp2_with (at_builtin;refine wpList_append_own_at _ rfl (.tmp 65) (.tmp 67) 42 rfl B 26 i2 (.slice none 0 0) 1 24 Tryz.underlying42 hi2 hx0 hx1 hx2 rfl (by decide) (.slice (D2.a 5) (D2.us 5).length (D2.c 5)) (D2.us 5).length ((D2.us 5).map lsV) rfl (r10.alloc _) ⟨w5.heap.size,0,none⟩ 1 1 [lsV ⟨ua2,un2,uc2⟩] rfl rfl (new_one w5 (lsV ⟨ua2,un2,uc2⟩) 26) one_slice (by unfold maxLen;omega) (by omega) (by simp;omega) ?_)
   intro vv ww hoo hgg hzz haa
   clear hzz
   obtain⟨gg,gc,rfl⟩:=own_some hoo
   have hkk:=HT2.out.wo.kept (f:=5) (by omega) (below_alloc w5 _) hgg
   have k10:=hkk.1
   have f10:=hkk.2
   simp only[Wd.val]at k10
   have HT3:=hide (HT2.out.next (by decide) H3.out (by omega) He.out (u:=⟨ua2,un2,uc2⟩) (by simp) (below_alloc w5 _) hoo hgg (by rcases at_of haa with h | h;exact .inl h;exact .inr (by simpa using h)))
   obtain⟨w6,hw10⟩:∃ w6,w6=ww.setCell ⟨H,5,none⟩ (.slice (some ⟨gg,0,none⟩) ((D2.us 5).length+1) gc):=⟨_,rfl⟩
   clear hkk hoo hgg haa p10 r10
   go_upto_region 11 with fail
   rw[<-hw10]
   rw[<-hw10]at HT3
   clear hw10 k10 f10
   generalize D2.push 5 ⟨ua2,un2,uc2⟩ gg gc=D3 at *
   have hl3:(D3.us 4).length<=1099511627777/\(D3.us 5).length<=3298534883333:=⟨by have:=HT3.out.la;omega,by have h1:(D3.us 5).length=(D.us 5).length+2:=HT3.out.lb;have h2:(D.us 5).length=3*(D.us 4).length:=H3.out;omega⟩
   obtain⟨hla3,hlb3⟩:=hl3
   have p11:=(HT3.out.wo.cell (f:=5) (by omega)).1
   have r11:w6.ownsRow B 26 1 (.slice (D3.a 5) (D3.us 5).length (D3.c 5)) (D3.us 5).length ((D3.us 5).map lsV):=HT3.out.wo.row 5 (by omega)
   have hB11:B<=w6.heap.size:=by have:=HT3.out.bel.size;have:=Hbx.out;omega
   simp only[Wd.val]at p11
   go_wp2_with (at_builtin;refine wpList_append_own_at _ rfl (.tmp 75) (.tmp 77) 42 rfl B 26 i2 (.slice none 0 0) 1 24 Tryz.underlying42 hi2 hx0 hx1 hx2 rfl (by decide) (.slice (D3.a 5) (D3.us 5).length (D3.c 5)) (D3.us 5).length ((D3.us 5).map lsV) rfl (r11.alloc _) ⟨w6.heap.size,0,none⟩ 1 1 [lsV ⟨ua3,un3,uc3⟩] rfl rfl (new_one w6 (lsV ⟨ua3,un3,uc3⟩) 26) one_slice (by unfold maxLen;omega) (by omega) (by simp;omega) ?_)
   intro vv ww hoo hgg hzz haa
   clear hzz
   obtain⟨gg,gc,rfl⟩:=own_some hoo
   have hkk:=HT3.out.wo.kept (f:=5) (by omega) (below_alloc w6 _) hgg
   have k11:=hkk.1
   have f11:=hkk.2
   simp only[Wd.val]at k11
   have HT4:=hide (HT3.out.next (by decide) H3.out (by omega) He.out (u:=⟨ua3,un3,uc3⟩) (by simp) (below_alloc w6 _) hoo hgg (by rcases at_of haa with h | h;exact .inl h;exact .inr (by simpa using h)))
   obtain⟨w7,hw11⟩:∃ w7,w7=ww.setCell ⟨H,5,none⟩ (.slice (some ⟨gg,0,none⟩) ((D3.us 5).length+1) gc):=⟨_,rfl⟩
   clear hkk hoo hgg haa p11 r11
   go_wp2_with fail
   rw[<-hw11]
   rw[<-hw11]at HT4
   clear hw11
   go_end0
   exact⟨rfl,_,_,HT4.out⟩
end Go.Proofs.YtjebhhoibofmfaaGreat
