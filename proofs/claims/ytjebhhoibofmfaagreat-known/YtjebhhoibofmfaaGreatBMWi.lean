import Derived.Test.YtjebhhoibofmfaaGreatBMWh
import Derived.Test.YtjebhhoibofmfaaGreatBMJn
import Derived.Test.YtjebhhoibofmfaaGreatBMLt
namespace Go.Proofs.YtjebhhoibofmfaaGreat
open Go.RowKit
theorem natL_snoc(L:List Pr)(p:Pr):natL (L++[p])=(p.x.toNat,p.y.toNat) :: natL L:=by simp[natL]
theorem mksOf_length(n:Nat)(L:List Pr):(mksOf n L).length=n:=by
 unfold mksOf
 have h:∀(L:List Pr) (m:List Int),(L.foldl joinP m).length=m.length:=by
  intro L
  induction L with
  | nil=>intro m;rfl
  | cons p L ih=>intro m;rw[List.foldl_cons,ih];exact joinL_length _ _ _
 rw[h];exact apart_length _
theorem conn_mks{n:Nat}:∀(k:Nat) (L:List Pr),L.length=k->LinksIn n L->∀ a b,a < n->b < n->(conn (natL L) a b=true↔(mksOf n L).getD a 0=(mksOf n L).getD b 0)
 | 0,L,hk,_,a,b,ha,hb=>by
   have:L=[]:=List.eq_nil_of_length_eq_zero hk
   subst this
   simp only[natL,List.map_nil,List.reverse_nil,conn,decide_eq_true_eq,mksOf_nil]
   rw[show(apart n).getD a 0=a from tab_getD _ _ ha,show(apart n).getD b 0=b from tab_getD _ _ hb]
   omega
 | k+1,L,hk,hin,a,b,ha,hb=>by
   obtain⟨L',p,rfl⟩:∃ L' p,L=L'++[p]:=by
    have hne:L≠[]:=by intro e;subst e;simp at hk
    exact⟨L.dropLast,L.getLast hne,(List.dropLast_concat_getLast hne).symm⟩
   have hk':L'.length=k:=by simpa using hk
   have hin':LinksIn n L':=by
    intro i hi
    have:=hin i (by simp;omega)
    rw[List.getD_eq_getElem?_getD,List.getElem?_append_left hi,<-List.getD_eq_getElem?_getD]at this
    exact this
   obtain⟨x,y,hxy,hx,hy⟩:=hin L'.length (by simp)
   have hp:p=⟨x,y⟩:=by
    rw[List.getD_eq_getElem?_getD,List.getElem?_append_right (Nat.le_refl _),Nat.sub_self]at hxy
    exact hxy
   subst hp
   have ih:=fun c d hc hd=>conn_mks k L' hk' hin' c d hc hd
   rw[natL_snoc,mksOf_snoc,joinP_nat]
   have hl:=mksOf_length n L'
   rw[joinL_getD (by rw[hl];exact ha),joinL_getD (by rw[hl];exact hb)]
   simp only[conn,Bool.or_eq_true,Bool.and_eq_true,Int.toNat_natCast]
   rw[ih a b ha hb,ih a x ha hx,ih y b hy hb,ih a y ha hy,ih x b hx hb]
   generalize (mksOf n L').getD a 0=ma
   generalize (mksOf n L').getD b 0=mb
   generalize (mksOf n L').getD x 0=mx
   generalize (mksOf n L').getD y 0=my
   constructor
   ·rintro((h | ⟨h1,h2⟩) | ⟨h1,h2⟩)
    ·rw[h]
    ·rw[h1,<-h2];simp
    ·rw[h1,<-h2];simp
   ·intro h
    by_cases h1:ma=my
    ·rw[if_pos h1]at h
     by_cases h2:mb=my
     ·exact .inl (.inl (h1.trans h2.symm))
     ·rw[if_neg h2]at h;exact .inr ⟨h1,h⟩
    ·rw[if_neg h1]at h
     by_cases h2:mb=my
     ·rw[if_pos h2]at h;exact .inl (.inr ⟨h,h2.symm⟩)
     ·rw[if_neg h2]at h;exact .inl (.inl h)
theorem LinksOk.in{ts:List Tm}{ps L:List Pr}(h:LinksOk ts ps L):LinksIn ts.length L:=fun i hi=>by
 obtain⟨a,b,h1,h2,h3,_⟩:=h i hi
 exact⟨a,b,h1,h2,h3⟩
theorem LinksOk.take{ts:List Tm}{ps L:List Pr}(h:LinksOk ts ps L)(k:Nat):LinksOk ts ps (L.take k):=by
 intro i hi
 rw[List.length_take]at hi
 obtain⟨a,b,h1,h2⟩:=h i (by omega)
 refine⟨a,b,?_,?_⟩
 ·rw[List.getD_eq_getElem?_getD,List.getElem?_take,if_pos (by omega),<-List.getD_eq_getElem?_getD];exact h1
 ·rw[List.take_take,Nat.min_eq_left (by omega)];exact h2
theorem natL_take_succ{L:List Pr}{k:Nat}(hk:k < L.length):natL (L.take (k+1))=((L.getD k pr0).x.toNat,(L.getD k pr0).y.toNat) :: natL (L.take k):=by
 rw[<-natL_snoc]
 congr 1
 rw[List.getD_eq_getElem?_getD,List.getElem?_eq_getElem hk,Option.getD_some]
 exact(List.take_succ_eq_append_getElem hk)
theorem LinksOk.forest{ts:List Tm}{ps L:List Pr}(h:LinksOk ts ps L):∀ k,k<=L.length->forest (natL (L.take k))
 | 0,_=>by simp[natL,Proofs.YtjebhhoibofmfaaGreat.forest]
 | k+1,hk=>by
   obtain⟨a,b,h1,h2,h3,h4,_⟩:=h k hk
   rw[natL_take_succ hk,h1]
   refine⟨h.forest k (by omega),?_⟩
   simp only[Int.toNat_natCast]
   cases hc:conn (natL (L.take k)) a b
   ·rfl
   ·exact absurd ((conn_mks _ _ rfl (h.take k).in a b h2 h3).1 hc) h4
theorem LinksOk.wz{ts:List Tm}{ps L:List Pr}(h:LinksOk ts ps L)(hts:termsB ts=true)(hl:L.length<=9):Wz ts (natL L) (prSet ps):=by
 refine⟨hts,?_,?_,by simpa[natL] using hl,?_⟩
 ·have:=h.forest L.length (Nat.le_refl _)
  rwa [List.take_length]at this
 ·intro e he
  obtain⟨x,y⟩:=e
  obtain⟨i,hi,e1⟩:=(natL_mem h.in).1 he
  obtain⟨a,b,e2,h3,h4⟩:=h.in i hi
  rw[e1]at e2
  injection e2 with e3 e4
  simp only
  omega
 ·intro K p q M' e
  have hlen:(natL L).length=L.length:=by simp[natL]
  have hM:M'.length < L.length:=by rw[<-hlen,e];simp;omega
  -- the link's own place
  have hsplit:natL L=natL (L.drop (M'.length+1))++natL (L.take (M'.length+1)):=by
   unfold natL
   rw[<-List.reverse_append,<-List.map_append,List.take_append_drop]
  have hl2:(natL (L.take (M'.length+1))).length=M'.length+1:=by simp[natL];omega
  have hcut:natL (L.take (M'.length+1))=(p,q) :: M':=by
   rw[e]at hsplit
   have:=List.append_inj_right' hsplit (by simp[hl2])
   exact this.symm
  rw[natL_take_succ hM]at hcut
  injection hcut with h1 h2
  obtain⟨a,b,e1,h3,h4,h5,h6⟩:=h M'.length hM
  rw[e1]at h1
  injection h1 with h7 h8
  simp at h7 h8
  subst h7
  subst h8
  rcases h6 with⟨t,ht,e3⟩ | ⟨_,h6⟩
  ·left
   unfold prSet
   rw[ofL_has,Bool.or_eq_true,List.any_eq_true]
   right
   refine⟨litP' (ps.getD t pr0),?_,?_⟩
   ·refine List.mem_map.2 ⟨ps.getD t pr0,?_,rfl⟩
    rw[List.getD_eq_getElem?_getD,List.getElem?_eq_getElem ht,Option.getD_some];exact List.getElem_mem ht
   ·rw[e3];exact one_refl _
  ·right
   unfold mustB at h6
   rw[Bool.and_eq_true]at h6
   refine⟨h6.1,fun i hi=>?_⟩
   have h7:=allB_iff.1 h6.2 i hi
   have hal:=h6.1
   simp only[alikeB,Bool.and_eq_true,decide_eq_true_eq]at hal
   have ai:=(argsIn_of hts (Nat.le_refl _) a h3).2 i hi
   have bi:=(argsIn_of hts (Nat.le_refl _) b h4).2 i (by omega)
   rw[<-h2]
   exact(conn_mks _ _ rfl (h.take _).in _ _ (by omega) (by omega)).2 (eqB_iff.1 h7)
end Go.Proofs.YtjebhhoibofmfaaGreat
namespace Go.Proofs.YtjebhhoibofmfaaGreat
open Go.RowKit
structure EnvAll (E:Env) (ts:List Tm) (cs:List Cl):Prop extends EnvOf E ts cs where
 lk:∀ ps,E.lk ps=linksF ts ps
 cl:∀ ps,E.cl ps=clsAll (mksOf ts.length (linksF ts ps))
theorem setRow_cells{w:World}{g:Nat}{x0 x1 x2 x3:Value}{t:TypeId}(h:w.heap[g]?=some (.cells #[x0,x1,x2,x3] t (0,0)))(u v:Value) :
 ((w.setCell ⟨g,2,none⟩ u).setCell ⟨g,3,none⟩ v).heap[g]?=some (.cells #[x0,x1,u,v] t (0,0)):=by
 have h1:(w.setCell ⟨g,2,none⟩ u).heap[g]?=some (.cells #[x0,x1,u,x3] t (0,0)):=(heap_setCell_same _ _ _ _ _ _ h).trans rfl
 exact(heap_setCell_same _ _ _ _ _ _ h1).trans rfl
set_option maxRecDepth 100000 in
set_option maxHeartbeats 4000000 in
theorem whyEqual_any(hX:CutHolds){E:Env}{ts:List Tm}{cs:List Cl}(hE:EnvAll E ts cs)(hts:termsB ts=true)(hcl:clausesB ts.length cs=true)(w0:World)(ta sa pa:Option Addr)(tc sc pc m:Nat)(F:List Nat)(ps:List Pr)(P P':Pf)(a b k:Nat)(w:World)
 (ht:TermsAt w0 ta ts) (hcs:ClausesAt w0 sa cs) (hb0:Below w0.heap.size w0 w) (hF:∀ k∈F,w0.heap.size<=k) (hP:PP w m F (.slice ta ts.length tc) (.slice sa cs.length sc) P) (hp:PairsAt w pa ps) (hpin:PairsIn ps ts.length)
 (hwhy:whyP E P ps a b=some (k,P')) :
 Calls Tryz.prog 140 #[.pointer (some ⟨m,0,none⟩),.slice ta ts.length tc,.slice pa ps.length pc,.int .i64 a,.int .i64 b] w fun e w'=>
  e=.returned (.int .i64 k)/\∃ F',PP w' m F' (.slice ta ts.length tc) (.slice sa cs.length sc) P'/\Fresh F F' w/\Keeps F w w':=by
 have h9:=(len_of hts).2
 have hin:=argsIn_of hts (Nat.le_refl _)
 have Hlk:=hide (links_exact ta pa tc pc ts ps w (ht.below hb0) hp h9 hin hpin)
 unfold whyP at hwhy
 rw[hE.lk]at hwhy
 have Hwhy:=hide hwhy
 have Hp:=hide hp
 have HP:=hide hP
 have Hpin:=hide hpin
 have H0:=hide (And.intro ht (And.intro hcs (And.intro hb0 hF)))
 have h60:=hpin.1
 clear hwhy hp hP hpin ht hcs hb0 hF hin
 go_enter Tryz.func140,Tryz.ntmps140
 go_wp2_with fail
 refine Hlk.out.mono ?_
 rintro e w1 ⟨L,la,lc,rfl,hpL,hbl,hL,hok,hl9,_,_,hb1⟩
 clear Hlk
 subst hL
 generalize hLL:linksF ts ps=L at *
 have HL:=hide (And.intro hpL (And.intro hbl (And.intro hok (And.intro hl9 hb1))))
 clear hpL hbl hok hl9 hLL
 obtain⟨W,hW⟩:∃ W,W=w1.alloc (.cells #[.pointer (some ⟨m,0,none⟩),.slice la L.length lc,.int .u64 0,.int .u64 0] 206):=⟨_,rfl⟩
 have hbW:Below w1.heap.size w1 W:=by rw[hW];exact below_alloc _ _
 have hrow:W.heap[w1.heap.size]?=some (.cells #[.pointer (some ⟨m,0,none⟩),.slice la L.length lc,.int .u64 ((0:Nat):Int),.int .u64 ((0:Nat):Int)] 206 (0,0)):=by rw[hW];exact heap_at_new _ _ _ rfl
 have HbW:=hide hbW
 have Hlw:Hid (∀ t∈ps,LowL 9 (litP' t)):=by
  intro t ht'
  obtain⟨i,hi,e⟩:=List.getElem_of_mem ht'
  have h1:=Hpin.out.2 i hi
  rw[List.getD_eq_getElem?_getD,List.getElem?_eq_getElem hi,Option.getD_some,e]at h1
  exact⟨h1.1.1,by show t.x < 9;omega,h1.2.1,by show t.y < 9;omega⟩
 go_upto_region 2 with fail
 rw[<-hW]
 clear hW hbW
 have hbx:=hide (show Keeps [w1.heap.size] W W from Keeps.refl _ _)
 go_wp2_with fail
 go_loopg [21] ps.length (fun q v wx=>∃(j e1 a1:Nat),q=ps.length - j/\j<=ps.length/\v=.int .i64 j/\e1 < 18446744073709551616/\a1 < 18446744073709551616/\Hid (ofL ((ps.drop j).map litP') (e1,a1)=prSet ps) /\
  wx.heap[w1.heap.size]?=some (.cells #[.pointer (some ⟨m,0,none⟩),.slice la L.length lc,.int .u64 (e1:Int),.int .u64 (a1:Int)] 206 (0,0))/\Hid (Keeps [w1.heap.size] W wx))
 case atStart=>exact⟨0,0,0,rfl,Nat.zero_le _,rfl,by omega,by omega,rfl,hrow,hbx⟩
 case round=>
  obtain⟨j,e1,a1,rfl,hj,rfl,he1,ha1,Hj,hr,Hk⟩:=hrel
  have hbw:Below w.heap.size w wr:=Hk.out.below (HL.out.2.2.2.2.trans (HbW.out.mono HL.out.2.2.2.2.size)) (Nat.le_trans HL.out.2.2.2.2.size HbW.out.size) (by intro k hk;simp at hk;rw[hk];exact HL.out.2.2.2.2.size)
  have r0:wr.cell? ⟨w1.heap.size,0,none⟩=some (.pointer (some ⟨m,0,none⟩)):=by rw[cell_of_row _ _ _ _ _ _ hr];rfl
  have r1:wr.cell? ⟨w1.heap.size,1,none⟩=some (.slice la L.length lc):=by rw[cell_of_row _ _ _ _ _ _ hr];rfl
  have r2:wr.cell? ⟨w1.heap.size,2,none⟩=some (.int .u64 (e1:Int)):=by rw[cell_of_row _ _ _ _ _ _ hr];rfl
  have r3:wr.cell? ⟨w1.heap.size,3,none⟩=some (.int .u64 (a1:Int)):=by rw[cell_of_row _ _ _ _ _ _ hr];rfl
  by_cases hlt:j < ps.length
  ·obtain⟨pb,po,hpa,pcell⟩:=(Hp.out.below hbw).get hlt
   obtain⟨g1,g2⟩:=pcell j hlt
   subst hpa
   have Hd:Hid (ps.drop j=ps.getD j pr0 :: ps.drop (j+1)):=by
    show _=_
    rw[List.drop_eq_getElem_cons hlt,List.getD_eq_getElem?_getD,List.getElem?_eq_getElem hlt,Option.getD_some]
   have hlow:LowL 9 (litP' (ps.getD j pr0)):=Hlw.out _ (by rw[List.getD_eq_getElem?_getD,List.getElem?_eq_getElem hlt,Option.getD_some];exact List.getElem_mem hlt)
   generalize ps.getD j pr0=p at *
   obtain⟨x,y⟩:=p
   obtain⟨k1,k2,k3,k4⟩:=hlow
   simp only[litP']at k1 k2 k3 k4 g1 g2
   have hgl:=block_lt g1
   have hrl:=block_lt r0
   obtain⟨W2,hW2⟩:∃ W2,W2=wr.alloc (.cells #[.int .i64 x,.int .i64 y] 58):=⟨_,rfl⟩
   have hbA:Below wr.heap.size wr W2:=by rw[hW2];exact below_alloc _ _
   have q0:W2.cell? ⟨wr.heap.size,0,none⟩=some (.int .i64 x):=by rw[hW2];simp
   have q1:W2.cell? ⟨wr.heap.size,1,none⟩=some (.int .i64 y):=by rw[hW2];simp
   have Hw:=hide (with_any x y false e1 a1 W2 k1 k2 k3 k4 he1 ha1)
   have hwE:=withE_lt he1 (t:=⟨x,y,false⟩) ⟨k1,k2,k3,k4⟩
   have hwA:=withA_lt ha1 (t:=⟨x,y,false⟩) ⟨k1,k2,k3,k4⟩
   have Hnx:Hid (ofL ((ps.drop (j+1)).map litP') (withE e1 ⟨x,y,false⟩,withA a1 ⟨x,y,false⟩)=prSet ps):=by
    have:=Hj.out
    rw[Hd.out,List.map_cons,ofL]at this
    exact this
   generalize withE e1 ⟨x,y,false⟩=e2 at *
   generalize withA a1 ⟨x,y,false⟩=a2 at *
   have HbA:=hide hbA
   have Hr:=hide hr
   clear pcell hr k1 k2 k3 k4
   go_upto_region 5 with fail
   rw[<-hW2]
   replace r2:=cell_below hbA r2
   replace r3:=cell_below hbA r3
   have hsz2:w1.heap.size < W2.heap.size:=by have:=hbA.size;omega
   clear hW2 g1 g2 hgl r0 r1 hbA
   go_wp2_with fail
   refine Hw.out.mono ?_
   rintro e w5 ⟨rfl,hb5⟩
   have hbC:=HbA.out.trans (hb5.mono HbA.out.size)
   have hr5:=(keeps_below hbC).row (by simp) Hr.out
   replace r2:=cell_below hb5 r2
   replace r3:=cell_below hb5 r3
   have f2:w5.frozen? ⟨w1.heap.size,2,none⟩=false:=frozen_of_row _ _ _ _ _ hr5
   have f3:w5.frozen? ⟨w1.heap.size,3,none⟩=false:=frozen_of_row _ _ _ _ _ hr5
   have Hr6:=hide (setRow_cells hr5 (.int .u64 (e2:Int)) (.int .u64 (a2:Int)))
   have Hk6:Hid (Keeps [w1.heap.size] W ((w5.setCell ⟨w1.heap.size,2,none⟩ (.int .u64 (e2:Int))).setCell ⟨w1.heap.size,3,none⟩ (.int .u64 (a2:Int)))):=((Hk.out.trans (Keeps.of (F:=[]) hbC) (by simp)).set (by simp) _).set (by simp) _
   clear Hw hb5 hbC hr5 q0 q1
   go_wp2_with fail
   go_roundg (ps.length - (j+1))
   case measure=>omega
   case rel=>exact⟨j+1,e2,a2,rfl,by omega,by go_num,hwE,hwA,Hnx,Hr6.out,Hk6⟩
  ·have Hfin:Hid (prSet ps=(e1,a1)):=by
    have:=Hj.out
    rw[List.drop_of_length_le (by omega)]at this
    exact this.symm
   have hAt:(⟨E,ts,cs,w0,ta,sa,tc,sc,m,la,lc,L,e1,a1⟩:Wc).At wr F P:=by
    refine⟨H0.out.2.2.1.trans (hbw.mono H0.out.2.2.1.size),H0.out.2.2.2,HP.out.keep (keeps_below hbw) (by simp),(HL.out.1.below HbW.out).keep Hk.out (fun b hb h7=>?_),fun b hb=>⟨fun h7=>?_,?_⟩⟩
    ·simp at h7
     have:=(HL.out.2.1 b hb).2
     omega
    ·have h1:=HP.out.lt b h7
     have h2:=(HL.out.2.1 b hb).1
     omega
    ·have h1:=(HL.out.2.1 b hb).2
     have h2:=Hk.out.size
     have h3:=HbW.out.size
     omega
   have hOk:(⟨E,ts,cs,w0,ta,sa,tc,sc,m,la,lc,L,e1,a1⟩:Wc).Ok:=⟨hX,hE.toEnvOf,hts,hcl,H0.out.1,H0.out.2.1,HL.out.2.2.1.in,by
    have:=HL.out.2.2.1.forest L.length (Nat.le_refl _)
    rwa [List.take_length]at this,HL.out.2.2.2.1,he1,ha1⟩
   have Hcall:=hide (eq_all _ hOk E.fu a b P P' k F wr hAt (by have:=Hwhy.out;rw[Hfin.out]at this;exact this))
   simp only at Hcall
   have Hbw:=hide hbw
   clear hAt hOk hbw hr
   go_wp2_with fail
   refine Hcall.out.mono ?_
   rintro e w' ⟨rfl,F',h1,h2,h3⟩
   have Hh:=hide (And.intro h1 (And.intro h2 h3))
   clear h1 h2 h3 Hcall
   go_wp2_with fail
   go_ret
   exact⟨rfl,F',Hh.out.1,fun x hx=>(Hh.out.2.1 x hx).imp id (fun h=>Nat.le_trans Hbw.out.size h),(Keeps.of Hbw.out).trans Hh.out.2.2 (fun x hx=>.inl hx)⟩
end Go.Proofs.YtjebhhoibofmfaaGreat
