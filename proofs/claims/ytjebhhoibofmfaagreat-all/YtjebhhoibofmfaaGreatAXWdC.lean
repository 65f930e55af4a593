import Derived.Test.YtjebhhoibofmfaaGreatAMQWdB
namespace Go.Proofs.YtjebhhoibofmfaaGreat
open Go.RowKit
theorem own_some{w:World}{B:Nat}{e:TypeId}{size n:Nat}{v:Value}{xs:List Value}(h:w.ownsRow B e size v (n+1) xs):∃ g c,v=.slice (some ⟨g,0,none⟩) (n+1) c:=by
 rcases h.2 with⟨_,h0⟩ | ⟨g,cap,cur,rfl,_⟩
 ·cases h0
 ·exact⟨g,cap,rfl⟩
theorem at_of{g n c:Nat}{v:Value}{N:Nat}(h:(Value.slice (some ⟨g,0,none⟩) n c).ownBlock=v.ownBlock\/(Value.slice (some ⟨g,0,none⟩) n c).ownBlock=some N):some g=v.ownBlock\/g=N:=by
 rcases h with h | h
 ·exact .inl h
 ·injection h with h;exact .inr h
theorem one_slice{l:Ls}:∀ u∈[lsV l],u.oneCell'=true:=fun u hu=>by simp at hu;subst hu;rfl
theorem wrap_mark{k:Nat}(h:k<=3298534883328):IntKind.i64.wrap (-1 - (k:Int))=-1 - (k:Int)/\wrap64 (-1 - (k:Int))=-1 - (k:Int):=by
 refine⟨?_,?_⟩
 ·rw[IntKind.wrap_i64];omega
 ·unfold wrap64;omega
theorem news_arr(w:World)(vs:Array Value)(t:TypeId):∀ j u,vs.toList[j]?=some u->(w.alloc (.cells vs t)).cell? ((⟨w.heap.size,0,none⟩:Addr).add j)=some u:=by
 intro j u hj
 have e:((⟨w.heap.size,0,none⟩:Addr).add j)=⟨w.heap.size,0+j,none⟩:=by simp[Addr.add];exact Eq.symm
 rw[e,Nat.zero_add]
 exact alloc_new rfl (by simpa using hj)
structure Tk (B H:Nat) (w:World) (D:Wd) (f a b:Nat) (e:TypeId) (L:List Ls) (w':World) (D':Wd):Prop where
 wo:Wo B w' H D'
 la:(D'.us f).length=(D.us f).length+a
 lb:(D'.us (f+1)).length=(D.us (f+1)).length+b
 lo:∀ i,i≠f->i≠f+1->D'.us i=D.us i
 bel:Below B w w'
 ke:∀(size n:Nat) (v:Value) (xs:List Value),w.ownsRow B e size v n xs->w'.ownsRow B e size v n xs
 ms:∀ u∈L,w'.ownsRow B (eL f) (szL f) (lsV u) u.n (marks (mkN f (D.us f).length) u.n)
 kg:∀(e':TypeId) (size n:Nat) (v:Value) (xs:List Value),e'≠eL f->(∀ i,i < 6->e'≠eR i)->e'≠44->w.ownsRow B e' size v n xs->w'.ownsRow B e' size v n xs
def Taken(B H:Nat)(w:World)(D:Wd)(f:Nat)(e:TypeId)(w':World):Prop:=∃ D' L,Tk B H w D f 1 3 e L w' D'
theorem Wo.kept{B H:Nat}{w W1 w2:World}{D:Wd}(h:Wo B w H D){f:Nat}(hf:f < 6)(hb:Below w.heap.size w W1)(hg:W1.grownBy w2 (D.val f).ownBlock):w2.cell? ⟨H,f,none⟩=some (D.val f)/\w2.frozen? ⟨H,f,none⟩=false:=by
 have hK:Keeps (blkOf (D.a f)) w w2:=app_keep' hb hg
 have hHn:H ∉ blkOf (D.a f):=own_not (h.row f hf) h.box (fun cur e=>by injection e with _ e;exact type_wR hf e)
 have hbox2:=hK.row hHn h.box
 refine⟨?_,frozen_of_row _ _ _ _ _ hbox2⟩
 rw[<-(h.cell hf).1,cell_of_row _ _ _ _ _ _ hbox2,cell_of_row _ _ _ _ _ _ h.box]
theorem Tk.first{B H:Nat}{w w1 W1 w2:World}{D D':Wd}{f:Nat}{e:TypeId}{L:List Ls}(h:Tk B H w D f 0 0 e L w1 D')(hf:f % 2=0/\f < 5)(he:(∀ i,i < 6->e≠eR i)/\e≠44){u:Ls}(hu:u∈L){g c:Nat}(hb:Below w1.heap.size w1 W1)
 (ho:w2.ownsRow B (eR f) 1 (.slice (some ⟨g,0,none⟩) ((D'.us f).length+1) c) ((D'.us f).length+1) ((D'.us f).map lsV++[lsV u])) (hg:W1.grownBy w2 (D'.val f).ownBlock) (hat:some g=(D'.val f).ownBlock\/g=W1.heap.size) :
 Tk B H w D f 1 0 e L (w2.setCell ⟨H,f,none⟩ (.slice (some ⟨g,0,none⟩) ((D'.us f).length+1) c)) (D'.push f u g c):=by
 have hf6:f < 6:=by omega
 have hmk:mkc f (D'.us f).length=mkN f (D.us f).length:=by
  unfold mkc
  rw[if_pos hf.1,h.la,Nat.add_zero]
 obtain⟨p1,p2,p3⟩:=h.wo.push hf6 hb (u:=u) (by rw[hmk];exact own_below (h.ms u hu) hb) ho hg hat
 have hBw:B<=w.heap.size\/True:=.inr trivial
 refine⟨p1,?_,?_,fun i h1 h2=>?_,?_,fun size n v xs hx=>p3 _ _ _ _ _ (h.ke _ _ _ _ hx) he.1 he.2,fun x hx=>p3 _ _ _ _ _ (h.ms x hx) (fun i hi=>type_ne hf6 hi) (fun e=>type_wL hf6 e.symm),fun e' size n v xs a1 a2 a3 hx=>p3 _ _ _ _ _ (h.kg _ _ _ _ _ a1 a2 a3 hx) a2 a3⟩
 ·simp[Wd.push,h.la]
 ·simp[Wd.push,h.lb]
 ·simp[Wd.push,h1,h.lo i h1 h2]
 ·exact h.bel.trans p2
theorem Tk.next{B H:Nat}{w w1 W1 w2:World}{D D':Wd}{f b:Nat}{e:TypeId}{L:List Ls}(h:Tk B H w D f 1 b e L w1 D')(hf:f % 2=0/\f < 5)(h3:(D.us (f+1)).length=3*(D.us f).length)(hb3:b < 3)(he:(∀ i,i < 6->e≠eR i)/\e≠44){u:Ls}(hu:u∈L){g c:Nat}(hb:Below w1.heap.size w1 W1)
 (ho:w2.ownsRow B (eR (f+1)) 1 (.slice (some ⟨g,0,none⟩) ((D'.us (f+1)).length+1) c) ((D'.us (f+1)).length+1) ((D'.us (f+1)).map lsV++[lsV u])) (hg:W1.grownBy w2 (D'.val (f+1)).ownBlock) (hat:some g=(D'.val (f+1)).ownBlock\/g=W1.heap.size) :
 Tk B H w D f 1 (b+1) e L (w2.setCell ⟨H,f+1,none⟩ (.slice (some ⟨g,0,none⟩) ((D'.us (f+1)).length+1) c)) (D'.push (f+1) u g c):=by
 have hf6:f < 6:=by omega
 have hf7:f+1 < 6:=by omega
 have hsame:eL (f+1)=eL f/\szL (f+1)=szL f/\∀ k,mkN (f+1) k=mkN f k:=by
  have:f=0\/f=2\/f=4:=by omega
  rcases this with rfl | rfl | rfl <;> exact⟨rfl,rfl,fun _=>rfl⟩
 have hmk:mkc (f+1) (D'.us (f+1)).length=mkN f (D.us f).length:=by
  unfold mkc
  rw[if_neg (by omega),hsame.2.2,h.lb,h3]
  congr 1
  omega
 obtain⟨p1,p2,p3⟩:=h.wo.push hf7 hb (u:=u) (by rw[hmk,hsame.1,hsame.2.1];exact own_below (h.ms u hu) hb) ho hg hat
 refine⟨p1,?_,?_,fun i h1 h2=>?_,?_,fun size n v xs hx=>p3 _ _ _ _ _ (h.ke _ _ _ _ hx) he.1 he.2,fun x hx=>p3 _ _ _ _ _ (h.ms x hx) (fun i hi=>type_ne hf6 hi) (fun e=>type_wL hf6 e.symm),fun e' size n v xs a1 a2 a3 hx=>p3 _ _ _ _ _ (h.kg _ _ _ _ _ a1 a2 a3 hx) a2 a3⟩
 ·simp[Wd.push,h.la]
 ·simp[Wd.push,h.lb]
  omega
 ·simp[Wd.push,h2,h.lo i h1 h2]
 ·exact h.bel.trans p2
theorem set_app(M L:List Value){n:Nat}(hM:M.length=n)(j:Nat)(v:Value):(M++L).set (n+j) v=M++L.set j v:=by
 rw[List.set_append_right _ _ (by omega),hM,Nat.add_sub_cancel_left]
theorem info_steps:(Tryz.prog.info? 26).map (fun i=>(i.zero,i.size,i.bytes))=some (some (.slice none 0 0),1,24):=by kernel_rfl
theorem marks_one{mk:List Value}(h:∀ u∈mk,u.oneCell'=true)(n:Nat):∀ u∈marks mk n,u.oneCell'=true:=by
 intro u hu
 unfold marks at hu
 rw[List.mem_flatten]at hu
 obtain⟨l,hl,hu⟩:=hu
 rw[(List.mem_replicate.1 hl).2]at hu
 exact h u hu
theorem marks_succ(mk:List Value)(k:Nat):marks mk (k+1)=marks mk k++mk:=by
 rw[marks_add]
 simp[marks]
theorem over_one{v:Value}{k:Nat}{xs:List Value}(h:k < xs.length):(marks [v] k++xs.drop k).set k v=marks [v] (k+1)++xs.drop (k+1):=by
 have hl:(marks [v] k).length=k:=by rw[marks_length (sz:=1) rfl];omega
 rw[List.set_append_right _ _ (by omega),hl,Nat.sub_self,List.drop_eq_getElem_cons h,List.set_cons_zero,marks_succ,List.append_assoc]
 rfl
theorem over_len{v:Value}{k:Nat}{xs:List Value}(h:k<=xs.length):(marks [v] k++xs.drop k).length=xs.length:=by
 rw[List.length_append,marks_length (sz:=1) rfl,List.length_drop];omega
set_option maxRecDepth 100000 in
set_option maxHeartbeats 4000000 in
theorem takeInts_any(B H:Nat)(D:Wd)(w:World)(hW:Wo B w H D)(ca:Option Addr)(n cc:Nat)(xs:List Value)(hc:w.ownsRow B 3 1 (.slice ca n cc) n xs)(hfr:Apart' D ca)(hn:n<=1000)(hI:(D.us 0).length<=1099511627776)(h3:(D.us 1).length=3*(D.us 0).length) :
 Calls Tryz.prog 34 #[.pointer (some ⟨H,0,none⟩),.slice ca n cc] w fun e w'=>e=.returned (.tuple #[])/\Taken B H w D 0 36 w':=by
 obtain⟨i1,hi1,hy0,hy1,hy2⟩:=info_parts info_int
 obtain⟨i2,hi2,hx0,hx1,hx2⟩:=info_parts info_ints
 have hWw:=hW
 obtain⟨m,hm⟩:∃ m:Int,m=-1 - ((D.us 0).length:Int):=⟨_,rfl⟩
 have hwm:IntKind.i64.wrap (-1 - ((D.us 0).length:Int))=m/\wrap64 (-1 - ((D.us 0).length:Int))=m:=by rw[hm];exact wrap_mark (by omega)
 obtain⟨hw1,hw2⟩:=hwm
 have hw3:-1 - ((D.us 0).length:Int)=m:=hm.symm
 have c0:=(hWw.cell (f:=0) (by omega)).1
 simp only[Wd.val]at c0
 have hlen:xs.length=n:=by have:=hc.1;omega
 have Hm:=hide hm
 have HW:=hide hW
 have H3:=hide h3
 have hN0:B<=w.heap.size:=Nat.le_of_lt (Nat.lt_of_le_of_lt hW.hB (Array.getElem?_eq_some_iff.1 hW.box).1)
 have Hc:=hide hc
 have Hfr:=hide hfr
 clear hfr
 clear hm hW h3
 go_enter Tryz.func34,Tryz.ntmps34
 go_wp2_with fail
 clear c0 hw1 hw2 hw3
 go_loopg [5] n (fun q s5 wr=>∃ k:Nat,q=n - k/\k<=n/\s5=.int .i64 k/\wr.ownsRow B 3 1 (.slice ca n cc) n (marks [.int .i64 m] k++xs.drop k)/\Keeps (blkOf ca) w wr/\KeT 3 w wr)
 case atStart=>exact⟨0,by omega,by omega,rfl,by simpa[marks] using hc,Keeps.refl _ _,KeT.refl _ _⟩
 case round=>
  obtain⟨k,rfl,hk,rfl,ho,hbr,hke⟩:=hrel
  by_cases hlt:k < n
  ·obtain⟨g,hg⟩:∃ g,ca=some ⟨g,0,none⟩:=by
    rcases ho.2 with⟨_,h0⟩ | ⟨g,cap,cur,hv,_⟩
    ·omega
    ·injection hv with e1;exact⟨g,e1⟩
   subst hg
   have hcell:=ho.cellAt k (by omega)
   have hk2:k < (marks [.int .i64 m] k++xs.drop k).length:=by rw[over_len (by omega)];omega
   rw[List.getElem?_eq_getElem hk2]at hcell
   have hfr:=ho.frozenAt k
   have hst:=ho.stored k (.int .i64 m)
   rw[over_one (by omega)]at hst
   have hke2:KeT 3 w (wr.setCell ⟨g,k,none⟩ (.int .i64 m)):=by
    intro B' e' size n' v' xs' hne hx
    rcases ho.2 with⟨hv,_⟩ | ⟨g',cap,cur,hv,_,hgg,_⟩
    ·injection hv with hv;cases hv
    ·injection hv with hv
     injection hv with hv
     injection hv with hv
     subst hv
     exact own_box (hke B' e' size n' v' xs' hne hx) hgg (fun e=>hne e.symm) _
   generalize (marks [Value.int .i64 m] k++xs.drop k)[k]=old at *
   have Hst:=hide hst
   have klt:(k:Int) < (n:Int):=by omega
   have kk:(k:Int)<=1000:=by omega
   clear hst ho
   go_wp2_with fail
   go_roundg (n - (k+1))
   case measure=>omega
   case rel=>exact⟨k+1,rfl,by omega,by go_num,Hst.out.1,hbr.set (by simp[blkOf]) _,hke2⟩
  ·have hkn:k=n:=by omega
   subst hkn
   rw[List.drop_eq_nil_of_le (by omega),List.append_nil]at ho
   have hM:MG B 3 1 [.int .i64 m] wr [⟨ca,k,cc⟩]:=fun u hu=>by simp at hu;subst hu;exact ho
   have hNr:B<=wr.heap.size:=Nat.le_trans hN0 hbr.size
   have HMark:Hid (∀ u∈marks [Value.int .i64 m] 3,u.oneCell'=true):=by
    intro u hu
    have:u=.int .i64 m:=by simpa[marks] using hu
    rw[this];rfl
   clear ho hc
   go_upto_region 6 with(at_builtin;refine wpList_append_mark rfl (.tmp 25) (.tmp 27) 29 rfl B 3 i1 (.int .i64 0) 1 8 Tryz.underlying29 hi1 hy0 hy1 hy2 rfl (by decide) [.int .i64 m] rfl ⟨ca,k,cc⟩ [⟨ca,k,cc⟩] rfl (by simp) (hM.below (below_alloc _ _)) 1 (by omega) (by intro u hu;simp at hu;subst hu;simp) ⟨wr.heap.size,0,none⟩ 1 rfl (news_arr wr #[.int .i64 m] 3) (fun u hu=>HMark.out u (by simp[marks]at hu ⊢; exact hu)) (by unfold maxLen;show k+1<=_;omega) (by show(k+1)*8<=_;omega) (by simp;omega) ?_;intro u1 w1 hn1 hM1 hb1 hk1 hg1)
   have hb01:Keeps (blkOf ca) w w1:=hbr.trans (app_keep' (below_alloc wr _) hg1) (fun x hx=>.inl hx)
   have hN1:B<=w1.heap.size:=Nat.le_trans hN0 hb01.size
   have Hn1:=hide hn1
   clear hM hn1 hb1 hbr hg1
   go_upto_region 7 with(at_builtin;refine wpList_append_mark rfl (.tmp 29) (.tmp 32) 29 rfl B 3 i1 (.int .i64 0) 1 8 Tryz.underlying29 hi1 hy0 hy1 hy2 rfl (by decide) [.int .i64 m] rfl ⟨ca,k,cc⟩ ([⟨ca,k,cc⟩]++[u1]) rfl (by simp) (hM1.below (below_alloc _ _)) 2 (by omega) (by intro u hu;have h1:u1.n=k+1:=Hn1.out;simp at hu;rcases hu with rfl | rfl;simp;show _<=k+2;omega) ⟨w1.heap.size,0,none⟩ 2 rfl (news_arr w1 #[.int .i64 m,.int .i64 m] 3) (fun u hu=>HMark.out u (by simp[marks]at hu ⊢; exact hu)) (by unfold maxLen;show k+2<=_;omega) (by show(k+2)*8<=_;omega) (by simp;omega) ?_;intro u2 w2 hn2 hM2 hb2 hk2 hg2)
   have hb02:Keeps (blkOf ca) w w2:=hb01.trans (app_keep' (below_alloc w1 _) hg2) (fun x hx=>.inl hx)
   have hN2:B<=w2.heap.size:=Nat.le_trans hN0 hb02.size
   have Hn2:=hide hn2
   clear hM1 hn2 hb2 hb01 hg2
   go_upto_region 8 with(at_builtin;refine wpList_append_mark rfl (.tmp 34) (.tmp 38) 29 rfl B 3 i1 (.int .i64 0) 1 8 Tryz.underlying29 hi1 hy0 hy1 hy2 rfl (by decide) [.int .i64 m] rfl ⟨ca,k,cc⟩ ([⟨ca,k,cc⟩]++[u1]++[u2]) rfl (by simp) (hM2.below (below_alloc _ _)) 3 (by omega) (by intro u hu;have h1:u1.n=k+1:=Hn1.out;have h2:u2.n=k+2:=Hn2.out;simp at hu;rcases hu with rfl | rfl | rfl;simp;show _<=k+3;omega;show _<=k+3;omega) ⟨w2.heap.size,0,none⟩ 3 rfl (news_arr w2 #[.int .i64 m,.int .i64 m,.int .i64 m] 3) HMark.out (by unfold maxLen;show k+3<=_;omega) (by show(k+3)*8<=_;omega) (by simp;omega) ?_;intro u3 w3 hn3 hM3 hb3 hk3 hg3)
   have hb03:Keeps (blkOf ca) w w3:=hb02.trans (app_keep' (below_alloc w2 _) hg3) (fun x hx=>.inl hx)
   have hBW:B<=B:=Nat.le_refl _
   have hei:(∀ i,i < 6->(3:TypeId)≠eR i)/\(3:TypeId)≠44:=⟨fun i hi=>type_ne (i:=0) (by omega) hi,by decide⟩
   have hT0:Tk B H w D 0 0 0 36 ([⟨ca,k,cc⟩]++[u1]++[u2]++[u3]) w3 D:=by
    refine⟨HW.out.keeps Hc.out hei hb03 Hfr.out,rfl,rfl,fun _ _ _=>rfl,hb03.below (Below.refl _ _) hN0 (fun x hx=>(own_lt Hc.out x hx).1),fun size n v xs hx=>?_,fun u hu=>?_,fun e' size n v xs a1 _ _ hx=>(((hke.alloc _).trans hk1).alloc _ |>.trans hk2 |>.alloc _ |>.trans hk3) _ _ _ _ _ _ a1 hx⟩
    ·exact(((hke.alloc _).trans hk1).alloc _ |>.trans hk2 |>.alloc _ |>.trans hk3) _ _ _ _ _ _ (by decide) hx
    ·have:=own_base (hM3 u hu) hBW
     rw[Hm.out]at this
     exact this
   have he:(∀ i,i < 6->(36:TypeId)≠eR i)/\(36:TypeId)≠44:=⟨fun i hi=>type_ne (i:=4) (by omega) hi,by decide⟩
   have He:=hide he
   have HT0:=hide hT0
   have hl0:(D.us 0).length<=1099511627776:=hI
   clear hM2 hM3 hb02 hb03 hb3 hke hk1 hk2 hk3 hn3 he hT0 hg3 hei
   have hBw:B<=w.heap.size:=Nat.le_trans hBW hN0
   clear Hn1 Hn2
   obtain⟨ua1,un1,uc1⟩:=u1
   obtain⟨ua2,un2,uc2⟩:=u2
   obtain⟨ua3,un3,uc3⟩:=u3
   simp only[lsV]
   have p8:=(HT0.out.wo.cell (f:=0) (by omega)).1
   have r8:w3.ownsRow B 29 1 (.slice (D.a 0) (D.us 0).length (D.c 0)) (D.us 0).length ((D.us 0).map lsV):=HT0.out.wo.row 0 (by omega)
   have hB8:B<=w3.heap.size:=Nat.le_trans hBw HT0.out.bel.size
   simp only[Wd.val]at p8
   go_wp2_with (at_builtin;refine wpList_append_own_at _ rfl (.tmp 44) (.tmp 46) 41 rfl B 29 i2 (.slice none 0 0) 1 24 Tryz.underlying41 hi2 hx0 hx1 hx2 rfl (by decide) (.slice (D.a 0) (D.us 0).length (D.c 0)) (D.us 0).length ((D.us 0).map lsV) rfl (r8.alloc _) ⟨w3.heap.size,0,none⟩ 1 1 [lsV ⟨ca,k,cc⟩] rfl rfl (new_one w3 (lsV ⟨ca,k,cc⟩) 29) one_slice (by unfold maxLen;omega) (by omega) (by simp;omega) ?_)
   intro vv ww hoo hgg hzz haa
   clear hzz
   obtain⟨gg,gc,rfl⟩:=own_some hoo
   have hkk:=HT0.out.wo.kept (f:=0) (by omega) (below_alloc w3 _) hgg
   have k8:=hkk.1
   have f8:=hkk.2
   simp only[Wd.val]at k8
   have HT1:=hide (HT0.out.first (by decide) He.out (u:=⟨ca,k,cc⟩) (by simp) (below_alloc w3 _) hoo hgg (by rcases at_of haa with h | h;exact .inl h;exact .inr (by simpa using h)))
   obtain⟨w4,hw8⟩:∃ w4,w4=ww.setCell ⟨H,0,none⟩ (.slice (some ⟨gg,0,none⟩) ((D.us 0).length+1) gc):=⟨_,rfl⟩
   clear hkk hoo hgg haa p8 r8
   go_upto_region 9 with fail
   rw[<-hw8]
   rw[<-hw8]at HT1
   clear hw8 k8 f8
   generalize D.push 0 ⟨ca,k,cc⟩ gg gc=D1 at *
   have hl1:(D1.us 0).length<=1099511627777/\(D1.us 1).length<=3298534883333:=⟨by have:=HT1.out.la;omega,by have h1:(D1.us 1).length=(D.us 1).length+0:=HT1.out.lb;have h2:(D.us 1).length=3*(D.us 0).length:=H3.out;omega⟩
   obtain⟨hla1,hlb1⟩:=hl1
   have p9:=(HT1.out.wo.cell (f:=1) (by omega)).1
   have r9:w4.ownsRow B 29 1 (.slice (D1.a 1) (D1.us 1).length (D1.c 1)) (D1.us 1).length ((D1.us 1).map lsV):=HT1.out.wo.row 1 (by omega)
   have hB9:B<=w4.heap.size:=Nat.le_trans hBw HT1.out.bel.size
   simp only[Wd.val]at p9
   go_wp2_with (at_builtin;refine wpList_append_own_at _ rfl (.tmp 54) (.tmp 56) 41 rfl B 29 i2 (.slice none 0 0) 1 24 Tryz.underlying41 hi2 hx0 hx1 hx2 rfl (by decide) (.slice (D1.a 1) (D1.us 1).length (D1.c 1)) (D1.us 1).length ((D1.us 1).map lsV) rfl (r9.alloc _) ⟨w4.heap.size,0,none⟩ 1 1 [lsV ⟨ua1,un1,uc1⟩] rfl rfl (new_one w4 (lsV ⟨ua1,un1,uc1⟩) 29) one_slice (by unfold maxLen;omega) (by omega) (by simp;omega) ?_)
   intro vv ww hoo hgg hzz haa
   clear hzz
   obtain⟨gg,gc,rfl⟩:=own_some hoo
   have hkk:=HT1.out.wo.kept (f:=1) (by omega) (below_alloc w4 _) hgg
   have k9:=hkk.1
   have f9:=hkk.2
   simp only[Wd.val]at k9
   have HT2:=hide (HT1.out.next (by decide) H3.out (by omega) He.out (u:=⟨ua1,un1,uc1⟩) (by simp) (below_alloc w4 _) hoo hgg (by rcases at_of haa with h | h;exact .inl h;exact .inr (by simpa using h)))
   obtain⟨w5,hw9⟩:∃ w5,w5=ww.setCell ⟨H,1,none⟩ (.slice (some ⟨gg,0,none⟩) ((D1.us 1).length+1) gc):=⟨_,rfl⟩
   clear hkk hoo hgg haa p9 r9
   go_upto_region 10 with fail
   rw[<-hw9]
   rw[<-hw9]at HT2
   clear hw9 k9 f9
   generalize D1.push 1 ⟨ua1,un1,uc1⟩ gg gc=D2 at *
   have hl2:(D2.us 0).length<=1099511627777/\(D2.us 1).length<=3298534883333:=⟨by have:=HT2.out.la;omega,by have h1:(D2.us 1).length=(D.us 1).length+1:=HT2.out.lb;have h2:(D.us 1).length=3*(D.us 0).length:=H3.out;omega⟩
   obtain⟨hla2,hlb2⟩:=hl2
   have p10:=(HT2.out.wo.cell (f:=1) (by omega)).1
   have r10:w5.ownsRow B 29 1 (.slice (D2.a 1) (D2.us 1).length (D2.c 1)) (D2.us 1).length ((D2.us 1).map lsV):=HT2.out.wo.row 1 (by omega)
   have hB10:B<=w5.heap.size:=Nat.le_trans hBw HT2.out.bel.size
   simp only[Wd.val]at p10
   go_wp2_with (at_builtin;refine wpList_append_own_at _ rfl (.tmp 64) (.tmp 66) 41 rfl B 29 i2 (.slice none 0 0) 1 24 Tryz.underlying41 hi2 hx0 hx1 hx2 rfl (by decide) (.slice (D2.a 1) (D2.us 1).length (D2.c 1)) (D2.us 1).length ((D2.us 1).map lsV) rfl (r10.alloc _) ⟨w5.heap.size,0,none⟩ 1 1 [lsV ⟨ua2,un2,uc2⟩] rfl rfl (new_one w5 (lsV ⟨ua2,un2,uc2⟩) 29) one_slice (by unfold maxLen;omega) (by omega) (by simp;omega) ?_)
   intro vv ww hoo hgg hzz haa
   clear hzz
   obtain⟨gg,gc,rfl⟩:=own_some hoo
   have hkk:=HT2.out.wo.kept (f:=1) (by omega) (below_alloc w5 _) hgg
   have k10:=hkk.1
   have f10:=hkk.2
   simp only[Wd.val]at k10
   have HT3:=hide (HT2.out.next (by decide) H3.out (by omega) He.out (u:=⟨ua2,un2,uc2⟩) (by simp) (below_alloc w5 _) hoo hgg (by rcases at_of haa with h | h;exact .inl h;exact .inr (by simpa using h)))
   obtain⟨w6,hw10⟩:∃ w6,w6=ww.setCell ⟨H,1,none⟩ (.slice (some ⟨gg,0,none⟩) ((D2.us 1).length+1) gc):=⟨_,rfl⟩
   clear hkk hoo hgg haa p10 r10
   go_upto_region 11 with fail
   rw[<-hw10]
   rw[<-hw10]at HT3
   clear hw10 k10 f10
   generalize D2.push 1 ⟨ua2,un2,uc2⟩ gg gc=D3 at *
   have hl3:(D3.us 0).length<=1099511627777/\(D3.us 1).length<=3298534883333:=⟨by have:=HT3.out.la;omega,by have h1:(D3.us 1).length=(D.us 1).length+2:=HT3.out.lb;have h2:(D.us 1).length=3*(D.us 0).length:=H3.out;omega⟩
   obtain⟨hla3,hlb3⟩:=hl3
   have p11:=(HT3.out.wo.cell (f:=1) (by omega)).1
   have r11:w6.ownsRow B 29 1 (.slice (D3.a 1) (D3.us 1).length (D3.c 1)) (D3.us 1).length ((D3.us 1).map lsV):=HT3.out.wo.row 1 (by omega)
   have hB11:B<=w6.heap.size:=Nat.le_trans hBw HT3.out.bel.size
   simp only[Wd.val]at p11
   go_wp2_with (at_builtin;refine wpList_append_own_at _ rfl (.tmp 74) (.tmp 76) 41 rfl B 29 i2 (.slice none 0 0) 1 24 Tryz.underlying41 hi2 hx0 hx1 hx2 rfl (by decide) (.slice (D3.a 1) (D3.us 1).length (D3.c 1)) (D3.us 1).length ((D3.us 1).map lsV) rfl (r11.alloc _) ⟨w6.heap.size,0,none⟩ 1 1 [lsV ⟨ua3,un3,uc3⟩] rfl rfl (new_one w6 (lsV ⟨ua3,un3,uc3⟩) 29) one_slice (by unfold maxLen;omega) (by omega) (by simp;omega) ?_)
   intro vv ww hoo hgg hzz haa
   clear hzz
   obtain⟨gg,gc,rfl⟩:=own_some hoo
   have hkk:=HT3.out.wo.kept (f:=1) (by omega) (below_alloc w6 _) hgg
   have k11:=hkk.1
   have f11:=hkk.2
   simp only[Wd.val]at k11
   have HT4:=hide (HT3.out.next (by decide) H3.out (by omega) He.out (u:=⟨ua3,un3,uc3⟩) (by simp) (below_alloc w6 _) hoo hgg (by rcases at_of haa with h | h;exact .inl h;exact .inr (by simpa using h)))
   obtain⟨w7,hw11⟩:∃ w7,w7=ww.setCell ⟨H,1,none⟩ (.slice (some ⟨gg,0,none⟩) ((D3.us 1).length+1) gc):=⟨_,rfl⟩
   clear hkk hoo hgg haa p11 r11
   go_wp2_with fail
   rw[<-hw11]
   rw[<-hw11]at HT4
   clear hw11
   go_end0
   exact⟨rfl,_,_,HT4.out⟩
end Go.Proofs.YtjebhhoibofmfaaGreat
