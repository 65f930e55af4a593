import Derived.Test.YtjebhhoibofmfaaGreatBMSx
namespace Go.Proofs.YtjebhhoibofmfaaGreat
open Go.RowKit
theorem eqs_in{c:Sc}{S:Sr}(h:RowOk c S):PairsIn (eqsOf S.row) c.ts.length:=by
 obtain⟨_,_,h1,h2⟩:=h
 unfold eqsOf
 refine⟨?_,fun t ht=>?_⟩
 ·rw[List.length_map]
  have:=List.length_filter_le (fun e:En=>!e.lit.n) S.row
  omega
 ·have hm:((S.row.filter fun e=>!e.lit.n).map fun e=>(⟨e.lit.x,e.lit.y⟩:Pr)).getD t pr0∈(S.row.filter fun e=>!e.lit.n).map fun e=>(⟨e.lit.x,e.lit.y⟩:Pr):=by
   rw[List.getD_eq_getElem?_getD,List.getElem?_eq_getElem ht,Option.getD_some];exact List.getElem_mem ht
  obtain⟨e,he,e1⟩:=List.mem_map.1 hm
  rw[<-e1]
  obtain⟨l1,_⟩:=h1 e (List.mem_filter.1 he).1
  exact⟨⟨l1.1,l1.2.1⟩,l1.2.2.1,l1.2.2.2⟩
theorem keep4{W w':World}{_F:List Nat}{b d:Nat}{x0 x1 y0 y1:Value}(h:W.cell? ⟨b,0,none⟩=some x0/\W.cell? ⟨b,1,none⟩=some x1/\W.cell? ⟨d,0,none⟩=some y0/\W.cell? ⟨d,1,none⟩=some y1)(hk:Below W.heap.size W w') :
 w'.cell? ⟨b,0,none⟩=some x0/\w'.cell? ⟨b,1,none⟩=some x1/\w'.cell? ⟨d,0,none⟩=some y0/\w'.cell? ⟨d,1,none⟩=some y1:=
 ⟨cell_below hk h.1,cell_below hk h.2.1,cell_below hk h.2.2.1,cell_below hk h.2.2.2⟩
set_option maxRecDepth 100000 in
set_option maxHeartbeats 4000000 in
theorem whyEq_any{c:Sc}(hc:c.Ok){w:World}{F:List Nat}{S S':Sr}{k:Nat}(h:SS c w F S)(t:Lt)(hlow:LowL c.ts.length t)(hw:whyEqP c.E S t=some (k,S')) :
 Calls Tryz.prog 124 #[.pointer (some ⟨c.s,0,none⟩),.agg #[.int .i64 t.x,.int .i64 t.y,.bool t.n]] w (SS.Goes c w F S' (.int .i64 k)):=by
 obtain⟨tx,ty,tn⟩:=t
 obtain⟨l1,l2,l3,l4⟩:=hlow
 obtain⟨x,rfl⟩:=Int.eq_ofNat_of_zero_le l1
 obtain⟨y,rfl⟩:=Int.eq_ofNat_of_zero_le l3
 unfold whyEqP at hw
 cases hwp:whyP c.E S.P (eqsOf S.row) x y with
 | none=>simp only[Int.toNat_natCast]at hw;rw[hwp]at hw;cases hw
 | some r=>
 obtain⟨k',P'⟩:=r
 simp only[Int.toNat_natCast]at hw
 rw[hwp,Option.map_some]at hw
 injection hw with hw
 injection hw with e1 e2
 subst e1
 have HS':=hide e2.symm
 obtain⟨W,hW⟩:∃ W,W=w.alloc (.cells #[.int .i64 x,.int .i64 y,.bool tn] 60):=⟨_,rfl⟩
 have hbW:Below w.heap.size w W:=by rw[hW];exact below_alloc _ _
 have q0:W.cell? ⟨w.heap.size,0,none⟩=some (.int .i64 x):=by rw[hW];simp
 have q1:W.cell? ⟨w.heap.size,1,none⟩=some (.int .i64 y):=by rw[hW];simp
 have hSW:=h.up hbW
 obtain⟨ka,kc,ra,rc,s0,s1,s2,s3,s4,s5,s6,s7,hk,hr⟩:=hSW.cells
 have hoffx:w.heap.size ∉ F:=fun hx=>by have:=h.lt _ hx;omega
 have Hcall1:Hid (∀ W',Below W.heap.size W W'->Calls Tryz.prog 79 #[.pointer (some ⟨c.s,0,none⟩)] W' fun e w'=>∃ a cap,e=.returned (.slice a (eqsOf S.row).length cap)/\PairsAt w' a (eqsOf S.row)/\Below W'.heap.size W' w'):=by
  intro W' hb'
  refine(equalPairs_any (hSW.up hb')).mono ?_
  rintro e w' ⟨a,cap,rfl,ho,hb⟩
  exact⟨a,cap,rfl,pairsAt_of_own ho,hb⟩
 have Hcall2:Hid (∀(w1:World) (a:Option Addr) (cap:Nat),Below W.heap.size W w1->PairsAt w1 a (eqsOf S.row)->Calls Tryz.prog 140 #[.pointer (some ⟨c.m,0,none⟩),.slice c.ta c.ts.length c.tc,.slice a (eqsOf S.row).length cap,.int .i64 x,.int .i64 y] w1 (SS.Goes c w1 F { S with P:=P' } (.int .i64 k'))):=by
  intro w1 a cap hb1 hp1
  have h1:=hSW.up hb1
  refine h1.withP (Post:=fun e=>e=.returned (.int .i64 k')) (fun FP hP hFP=>?_)
  exact whyEqual_any hc.hX hc.hE hc.hts hc.hcl c.w0 c.ta c.sa a c.tc c.sc cap c.m FP (eqsOf S.row) S.P P' x y k' w1 hc.ht hc.hcs h1.1.1 (fun b hb=>h1.1.2.1 b (hFP b hb)) hP hp1 (eqs_in h1.1.2.2) hwp
 have HSW:=hide hSW
 have Hb:=hide hbW
 clear hSW hbW h hk hr s2 s3 s4 s5 s6 s7 hwp e2
 generalize eqsOf S.row=ps at *
 go_enter Tryz.func124,Tryz.ntmps124
 go_upto_region 1 with fail
 rw[<-hW]
 clear hW
 have hs0:c.s < W.heap.size:=block_lt s0
 go_region_held3 (fun w'=>w'.cell? ⟨c.s,0,none⟩=some (.slice c.ta c.ts.length c.tc)/\w'.cell? ⟨c.s,1,none⟩=some (.pointer (some ⟨c.m,0,none⟩))/\w'.cell? ⟨w.heap.size,0,none⟩=some (.int .i64 x)/\w'.cell? ⟨w.heap.size,1,none⟩=some (.int .i64 y))
  (first | exact hS | go_keep)
  (first
    | (go_at_call 79
       refine(Hcall1.out _ (by exact(Below.refl _ _).drew)).mono ?_
       rintro e w1 ⟨pa,pcap,rfl,hp1,hb1⟩
       have hS:=keep4 (_F:=[]) (by assumption) hb1)
    | (go_at_call 140
       refine(Hcall2.out w1 pa pcap (below_drew1 hb1) hp1).mono ?_
       rintro e w2 ⟨rfl,F2,hS2,hf2,hk2⟩
       have hS1:=hS
       have hS:=And.intro hS2.cells.choose_spec.choose_spec.choose_spec.choose_spec.1 (And.intro hS2.cells.choose_spec.choose_spec.choose_spec.choose_spec.2.1 (And.intro (hk2.cell hoffx hS1.2.2.1) (hk2.cell hoffx hS1.2.2.2)))))
 go_wp2_with fail
 go_ret
 rw[HS'.out]
 exact Goes.after (Fresh.refl _ _) (Keeps.of Hb.out) (Goes.after (Fresh.refl _ _) (Keeps.of (below_drew1 hb1)) ⟨rfl,F2,hS2,hf2,hk2⟩)
set_option maxRecDepth 100000 in
set_option maxHeartbeats 4000000 in
theorem reason_any{c:Sc}(hc:c.Ok){w:World}{F:List Nat}{S S':Sr}{k:Nat}(h:SS c w F S)(e:En)(hlow:LowL c.ts.length e.lit)(hw:reasonP c.E S e=some (k,S')) :
 Calls Tryz.prog 103 #[.pointer (some ⟨c.s,0,none⟩),.agg #[.int .i64 e.pair,.int .i64 e.lit.x,.int .i64 e.lit.y,.bool e.lit.n,.int .i64 e.reason]] w (SS.Goes c w F S' (.int .i64 k)):=by
 obtain⟨ep,el,er⟩:=e
 simp only at hlow ⊢
 unfold reasonP at hw
 simp only at hw
 obtain⟨W,hW⟩:∃ W,W=w.alloc (.cells #[.int .i64 ep,.int .i64 el.x,.int .i64 el.y,.bool el.n,.int .i64 er] 155):=⟨_,rfl⟩
 have hbW:Below w.heap.size w W:=by rw[hW];exact below_alloc _ _
 have q1:W.cell? ⟨w.heap.size,1,none⟩=some (.int .i64 el.x):=by rw[hW];simp
 have q2:W.cell? ⟨w.heap.size,2,none⟩=some (.int .i64 el.y):=by rw[hW];simp
 have q3:W.cell? ⟨w.heap.size,3,none⟩=some (.bool el.n):=by rw[hW];simp
 have q4:W.cell? ⟨w.heap.size,4,none⟩=some (.int .i64 er):=by rw[hW];simp
 have HSW:=hide (h.up hbW)
 have Hb:=hide hbW
 clear h hbW
 by_cases h2:er=-2
 ·rw[if_pos h2]at hw
  have Hc:=hide (whyEq_any hc HSW.out el hlow hw)
  subst h2
  clear hw
  go_enter Tryz.func103,Tryz.ntmps103
  go_upto_region 1 with fail
  rw[<-hW]
  clear hW
  go_wp2_with fail
  refine Hc.out.mono ?_
  rintro e w2 ⟨rfl,hh⟩
  have Hh:=hide hh
  clear hh Hc
  go_wp2_with fail
  go_ret
  exact Goes.after (Fresh.refl _ _) (Keeps.of Hb.out) ⟨rfl,Hh.out⟩
 ·rw[if_neg h2]at hw
  by_cases h0:0<=er
  ·rw[if_pos h0]at hw
   injection hw with hw
   injection hw with e1 e2
   subst e2
   obtain⟨r,rfl⟩:=Int.eq_ofNat_of_zero_le h0
   simp at e1
   subst e1
   have hnb:((r:Int) == -2)=false:=by simp
   have h2':(r:Int)≠-2:=h2
   go_enter Tryz.func103,Tryz.ntmps103
   go_upto_region 1 with fail
   rw[<-hW]
   clear hW
   go_wp2_with fail
   go_ret
   exact⟨rfl,F,HSW.out,Fresh.refl _ _,Keeps.of Hb.out⟩
  ·rw[if_neg h0]at hw;cases hw
end Go.Proofs.YtjebhhoibofmfaaGreat
namespace Go.Proofs.YtjebhhoibofmfaaGreat
open Go.RowKit
theorem range_drop{n j:Nat}(h:j < n):(List.range n).drop j=j :: (List.range n).drop (j+1):=by
 rw[List.drop_eq_getElem_cons (by simpa using h)];simp
set_option maxRecDepth 100000 in
set_option maxHeartbeats 4000000 in
theorem takeLit_any{c:Sc}(hc:c.Ok){w:World}{F:List Nat}{S S':Sr}(h:SS c w F S)(t:Lt)(k:Nat)(ht:tkLitP c.prs t k (List.range c.prs.length) S=some S') :
 Calls Tryz.prog 137 #[.pointer (some ⟨c.s,0,none⟩),.agg #[.int .i64 t.x,.int .i64 t.y,.bool t.n],.int .i64 k] w (SS.Goes c w F S' (.tuple #[])):=by
 obtain⟨tx,ty,tn⟩:=t
 obtain⟨W,hW⟩:∃ W,W=w.alloc (.cells #[.int .i64 tx,.int .i64 ty,.bool tn] 60):=⟨_,rfl⟩
 have hbW:Below w.heap.size w W:=by rw[hW];exact below_alloc _ _
 have q0:W.cell? ⟨w.heap.size,0,none⟩=some (.int .i64 tx):=by rw[hW];simp
 have q1:W.cell? ⟨w.heap.size,1,none⟩=some (.int .i64 ty):=by rw[hW];simp
 have q2:W.cell? ⟨w.heap.size,2,none⟩=some (.bool tn):=by rw[hW];simp
 have hSW:=h.up hbW
 have hoffx:Off [w.heap.size] F W:=fun b hb=>by
  simp at hb
  subst hb
  exact⟨fun hx=>by have:=h.lt _ hx;omega,block_lt q0⟩
 obtain⟨ka,kc,ra,rc,s0,s1,s2,s3,s4,s5,s6,s7,hk,hr⟩:=hSW.cells
 have Hb:=hide hbW
 have Ht:=hide ht
 have HSW:=hide hSW
 have Hoff:=hide hoffx
 have h45:=hc.h45
 obtain⟨pav,hpav⟩:∃ pav,c.pa=pav:=⟨_,rfl⟩
 rw[hpav]at s3
 have Hpav:=hide hpav
 clear hpav
 clear hSW hbW h hk hr s0 s1 s2 s4 s5 s6 s7 hoffx ht
 go_enter Tryz.func137,Tryz.ntmps137
 go_upto_region 1 with fail
 rw[<-hW]
 clear hW
 go_wp2_with fail
 go_loopg [13] c.prs.length (fun g v wx=>∃(j:Nat) (Sj:Sr) (G:List Nat),g=c.prs.length - j/\j<=c.prs.length/\v=.int .i64 j/\Hid (tkLitP c.prs ⟨tx,ty,tn⟩ k ((List.range c.prs.length).drop j) Sj=some S')/\Hid (SS c wx G Sj)/\Hid (Off [w.heap.size] G wx) /\
  (wx.cell? ⟨w.heap.size,0,none⟩=some (.int .i64 tx)/\wx.cell? ⟨w.heap.size,1,none⟩=some (.int .i64 ty)/\wx.cell? ⟨w.heap.size,2,none⟩=some (.bool tn))/\Hid (Fresh F G W)/\Hid (Keeps F W wx))
 case atStart=>exact⟨0,S,F,rfl,Nat.zero_le _,rfl,Ht,HSW,Hoff,⟨q0,q1,q2⟩,Fresh.refl _ _,Keeps.refl _ _⟩
 case round=>
  obtain⟨j,Sj,G,rfl,hj,rfl,Hj,HSj,Hofj,⟨r0,r1,r2⟩,Hfj,Hkj⟩:=hrel
  by_cases hlt:j < c.prs.length
  ·obtain⟨pb,po,rfl,pcell⟩:=(show PairsAt wr pav c.prs from Hpav.out ▸ HSj.out.pairs).get hlt
   obtain⟨p1,p2⟩:=pcell j hlt
   have Hst:=hide Hj.out
   rw[range_drop hlt]at Hst
   unfold tkLitP at Hst
   generalize hpp:c.prs.getD j pr0=p at *
   obtain⟨px,py⟩:=p
   simp only at p1 p2 Hst
   have Hpp:=hide hpp
   clear pcell hpp
   have hpl:=block_lt p1
   have hrl:=block_lt r0
   obtain⟨W2,hW2⟩:∃ W2,W2=wr.alloc (.cells #[.int .i64 px,.int .i64 py] 58):=⟨_,rfl⟩
   have hbA:Below wr.heap.size wr W2:=by rw[hW2];exact below_alloc _ _
   have g0:W2.cell? ⟨wr.heap.size,0,none⟩=some (.int .i64 px):=by rw[hW2];simp
   have g1:W2.cell? ⟨wr.heap.size,1,none⟩=some (.int .i64 py):=by rw[hW2];simp
   replace r0:=cell_below hbA r0
   replace r1:=cell_below hbA r1
   replace r2:=cell_below hbA r2
   have HS2:=hide (HSj.out.up hbA)
   have Hof2:=hide (Hofj.out.step (Fresh.refl _ _) hbA.size)
   have Hk2:Hid (Keeps F W W2):=Hkj.out.trans (Keeps.of (F:=[]) hbA) (by simp)
   go_upto_region 4 with fail
   rw[<-hW2]
   clear hW2 p1 p2 hbA hpl hrl
   by_cases hx:px=tx
   ·by_cases hy:py=ty
    ·subst hx
     subst hy
     rw[if_pos ⟨rfl,rfl⟩]at Hst
     cases htk:takeP c.prs Sj j tn k with
     | none=>have:=Hst.out;rw[htk]at this;cases this
     | some S2=>
     rw[htk,Option.bind_some]at Hst
     have Hc:=hide (take_any hc HS2.out j tn (k:Int) htk)
     clear htk
     go_wp2_with fail
     refine Hc.out.mono ?_
     rintro e w5 ⟨rfl,G5,hS5,hf5,hk5⟩
     have h1:=hide (Hof2.out.step hf5 hk5.size)
     have hox:=(Hof2.out w.heap.size (by simp)).1
     have r0':=hk5.cell hox r0
     have r1':=hk5.cell hox r1
     have r2':=hk5.cell hox r2
     have HS5:=hide hS5
     have h2:Hid (Fresh F G5 W):=Fresh.trans Hfj.out hf5 Hk2.out.size
     have h3:Hid (Keeps F W w5):=Hk2.out.tran hk5 Hfj.out
     clear hS5 hf5 hk5 Hc r0 r1 r2 g0 g1
     go_wp2_with fail
     go_roundg (c.prs.length - (j+1))
     case measure=>omega
     case rel=>exact⟨j+1,S2,G5,rfl,by omega,by go_num,Hst,HS5,h1,⟨r0',r1',r2'⟩,h2,h3⟩
    ·subst hx
     have hnb:(py == ty)=false:=by simp[hy]
     rw[if_neg (fun hh=>hy hh.2)]at Hst
     go_wp2_with fail
     go_roundg (c.prs.length - (j+1))
     case measure=>omega
     case rel=>exact⟨j+1,Sj,G,rfl,by omega,by go_num,Hst,HS2,Hof2,⟨r0,r1,r2⟩,Hfj,Hk2⟩
   ·have hnb:(px == tx)=false:=by simp[hx]
    rw[if_neg (fun hh=>hx hh.1)]at Hst
    go_wp2_with fail
    go_roundg (c.prs.length - (j+1))
    case measure=>omega
    case rel=>exact⟨j+1,Sj,G,rfl,by omega,by go_num,Hst,HS2,Hof2,⟨r0,r1,r2⟩,Hfj,Hk2⟩
  ·have Hfin:Hid (Sj=S'):=by
    have:=Hj.out
    rw[List.drop_of_length_le (by simp;omega)]at this
    unfold tkLitP at this
    injection this
   go_wp2_with fail
   go_end0
   rw[<-Hfin.out]
   exact Goes.after (Fresh.refl _ _) (Keeps.of Hb.out) ⟨rfl,G,HSj.out,Hfj.out,Hkj.out⟩
end Go.Proofs.YtjebhhoibofmfaaGreat
namespace Go.Proofs.YtjebhhoibofmfaaGreat
open Go.RowKit
def ov(o:Option Nat):Value:=.tuple #[.int .i64 ((o.getD 0:Nat):Int),.bool o.isSome]
theorem cl_length{E:Env}{ts:List Tm}{cs:List Cl}(hE:EnvAll E ts cs)(ps:List Pr):(E.cl ps).length=ts.length:=by
 rw[hE.cl,clsAll_length,mksOf_length]
set_option maxRecDepth 100000 in
set_option maxHeartbeats 8000000 in
theorem takeEqual_any{c:Sc}(hc:c.Ok){w:World}{F:List Nat}{S S':Sr}{out:Option Nat}(h:SS c w F S)(ht:tkEqP c.E c.prs (c.E.cl (eqsOf S.row)) (List.range c.prs.length) S=some (out,S')) :
 Calls Tryz.prog 116 #[.pointer (some ⟨c.s,0,none⟩)] w (SS.Goes c w F S' (ov out)):=by
 obtain⟨ka,kc,ra,rc,s0,s1,s2,s3,s4,s5,s6,s7,hk,hr⟩:=h.cells
 have h9:=(len_of hc.hts).2
 have hin:=argsIn_of hc.hts (Nat.le_refl _)
 have Hcall1:Hid (∀ W',Below w.heap.size w W'->Calls Tryz.prog 79 #[.pointer (some ⟨c.s,0,none⟩)] W' fun e w'=>∃ a cap,e=.returned (.slice a (eqsOf S.row).length cap)/\PairsAt w' a (eqsOf S.row)/\Below W'.heap.size W' w'):=by
  intro W' hb'
  refine(equalPairs_any (h.up hb')).mono ?_
  rintro e w' ⟨a,cap,rfl,ho,hb⟩
  exact⟨a,cap,rfl,pairsAt_of_own ho,hb⟩
 have Hcall2:Hid (∀(w1:World) (a:Option Addr) (cap:Nat),Below w.heap.size w w1->PairsAt w1 a (eqsOf S.row)->Calls Tryz.prog 43 #[.slice c.ta c.ts.length c.tc,.slice a (eqsOf S.row).length cap] w1 fun e w'=>∃ g,e=.returned (.slice (some ⟨g,0,none⟩) c.ts.length c.ts.length)/\Row w' g (c.E.cl (eqsOf S.row))/\w1.heap.size<=g/\Below w1.heap.size w1 w'):=by
  intro w1 a cap hb1 hp1
  have h1:=h.up hb1
  refine(eqClose_exact c.ta a c.tc cap c.ts (eqsOf S.row) w1 (hc.ht.below h1.1.1) hp1 h9 hin (eqs_in h1.1.2.2)).mono ?_
  rintro e w' ⟨g,cl,rfl,hr,hg,⟨_,hcl⟩,hb⟩
  rw[hc.hE.cl,<-hcl]
  exact⟨g,rfl,hr,hg,hb⟩
 have hcl:=cl_length hc.hE (eqsOf S.row)
 have Hcl:=hide hcl
 have h45:=hc.h45
 have Hh:=hide h
 have Ht:=hide ht
 obtain⟨pav,hpav⟩:∃ pav,c.pa=pav:=⟨_,rfl⟩
 rw[hpav]at s3
 have Hpav:=hide hpav
 clear hpav hcl h ht s1 s2 s4 s5 s6 s7 hk hr
 generalize c.E.cl (eqsOf S.row)=cl at *
 generalize eqsOf S.row=ps at *
 have hs0:c.s < w.heap.size:=block_lt s0
 go_enter Tryz.func116,Tryz.ntmps116
 go_upto_region 1 with fail
 go_cut [4]from 4 to 13 (fun v wx=>∃ g,v=.slice (some ⟨g,0,none⟩) c.ts.length c.ts.length/\Row wx g cl/\w.heap.size<=g/\Below w.heap.size w wx)
 case first=>
  go_region_held3 (fun w'=>w'.cell? ⟨c.s,0,none⟩=some (.slice c.ta c.ts.length c.tc))
   (first | exact hS | go_keep)
   (first
     | (go_at_call 79
        refine(Hcall1.out _ (by exact(Below.refl _ _).drew)).mono ?_
        rintro e w1 ⟨pa,pcap,rfl,hp1,hb1⟩
        have hS:=cell_below (below_drew1 hb1) s0)
     | (go_at_call 43
        refine(Hcall2.out w1 pa pcap (below_drew1 hb1) hp1).mono ?_
        rintro e w2 ⟨g,rfl,hrow,hg,hb2⟩
        have hS1:=hS
        have hS:=cell_below hb2 hS1))
  all_goals
   go_wp2_with fail
   go_meet
   have hb1':=below_drew1 hb1
   exact⟨g,rfl,hrow,Nat.le_trans hb1'.size hg,hb1'.trans (hb2.mono hb1'.size)⟩
 case rest=>
 obtain⟨g,rfl,hrow,hg,hb⟩:=hcut
 have HS0:=hide (Hh.out.up hb)
 have Hoff:Hid (Off [g] F wc):=fun b hb7=>by
  simp at hb7
  subst hb7
  exact⟨fun hx=>by have:=Hh.out.lt _ hx;omega,hrow.lt⟩
 have Hb:=hide hb
 replace s3:=cell_below hb s3
 clear s0 hb Hcall1 Hcall2 hs0
 generalize wc=W at *
 go_wp2_with fail
 go_loopg [19] c.prs.length (fun q v wx=>∃(j:Nat) (Sj:Sr) (G:List Nat),q=c.prs.length - j/\j<=c.prs.length/\v=.int .i64 j/\Hid (tkEqP c.E c.prs cl ((List.range c.prs.length).drop j) Sj=some (out,S'))/\Hid (SS c wx G Sj)/\Hid (Off [g] G wx)/\Row wx g cl/\Hid (Fresh F G W)/\Hid (Keeps F W wx))
 case atStart=>exact⟨0,S,F,rfl,Nat.zero_le _,rfl,Ht,HS0,Hoff,hrow,Fresh.refl _ _,Keeps.refl _ _⟩
 case round=>
  obtain⟨j,Sj,G,rfl,hj,rfl,Hj,HSj,Hofj,hrj,Hfj,Hkj⟩:=hrel
  by_cases hlt:j < c.prs.length
  ·obtain⟨pb,po,rfl,pcell⟩:=(show PairsAt wr pav c.prs from Hpav.out ▸ HSj.out.pairs).get hlt
   obtain⟨p1,p2⟩:=pcell j hlt
   have hlow:=hc.hp j hlt
   have Hst:=hide Hj.out
   rw[range_drop hlt]at Hst
   unfold tkEqP at Hst
   have Hlit:Hid (∀ n W',Below wr.heap.size wr W'->Calls Tryz.prog 120 #[.pointer (some ⟨c.s,0,none⟩),.int .i64 j,.bool n] W' fun e w'=>e=.returned (.agg #[.int .i64 (c.prs.getD j pr0).x,.int .i64 (c.prs.getD j pr0).y,.bool n])/\Below W'.heap.size W' w'):=
    fun n W' hb'=>lit_any (HSj.out.up hb') j n hlt
   unfold litI at hlow
   have hT:∀ n,litI c.prs j n=⟨(c.prs.getD j pr0).x,(c.prs.getD j pr0).y,n⟩:=fun n=>rfl
   rw[hT true,hT false]at Hst
   clear hT
   obtain⟨p,hpp⟩:∃ p,c.prs.getD j pr0=p:=⟨_,rfl⟩
   rw[hpp]at p1 p2 Hst hlow Hlit
   obtain⟨px,py⟩:=p
   simp only at p1 p2 hlow Hlit
   obtain⟨l1,l2,l3,l4⟩:=hlow
   simp only at l1 l2 l3 l4
   obtain⟨x,rfl⟩:=Int.eq_ofNat_of_zero_le l1
   obtain⟨y,rfl⟩:=Int.eq_ofNat_of_zero_le l3
   have c1:=hrj.cell (k:=x) (by rw[Hcl.out];omega)
   have c2:=hrj.cell (k:=y) (by rw[Hcl.out];omega)
   have Heq:Hid (eqB cl (x:Int) (y:Int)=decide (cl.getD x 0=cl.getD y 0)):=rfl
   have hx9:(x:Int) < 9:=by omega
   have hy9:(y:Int) < 9:=by omega
   have hxn:x < c.ts.length:=by omega
   have hyn:y < c.ts.length:=by omega
   have Hpp:=hide hpp
   clear pcell hpp l1 l2 l3 l4
   generalize cl.getD x 0=vx at *
   generalize cl.getD y 0=vy at *
   have hpl:=block_lt p1
   obtain⟨W2,hW2⟩:∃ W2,W2=wr.alloc (.cells #[.int .i64 x,.int .i64 y] 58):=⟨_,rfl⟩
   have hbA:Below wr.heap.size wr W2:=by rw[hW2];exact below_alloc _ _
   have g0:W2.cell? ⟨wr.heap.size,0,none⟩=some (.int .i64 x):=by rw[hW2];simp
   have g1:W2.cell? ⟨wr.heap.size,1,none⟩=some (.int .i64 y):=by rw[hW2];simp
   replace c1:=cell_below hbA c1
   replace c2:=cell_below hbA c2
   have HbA:=hide hbA
   have Hrj:=hide hrj
   have HG:Hid (∀ w',Below W2.heap.size W2 w'->SS c w' G Sj/\Off [g] G w'/\Row w' g cl/\Keeps F W w'):=by
    intro w' hb'
    have hb3:Below wr.heap.size wr w':=HbA.out.trans (hb'.mono HbA.out.size)
    exact⟨HSj.out.up hb3,Hofj.out.step (Fresh.refl _ _) hb3.size,Hrj.out.below hb3 Hrj.out.lt,Hkj.out.trans (Keeps.of (F:=[]) hb3) (by simp)⟩
   go_upto_region 5 with fail
   rw[<-hW2]
   clear hW2 p1 p2 hbA hpl hrj
   by_cases hv:vx=vy
   ·subst hv
    have hnb:(vx != vx)=false:=by simp
    rw[Heq.out]at Hst
    rw[if_pos (by simp)]at Hst
    go_quiet (fail)
    go_upto_region 6 with fail
    generalize hW3:W2.drewN _=W3
    have hb3:Below W2.heap.size W2 W3:=by rw[<-hW3];exact below_drewN (Below.refl _ _) _
    clear hW3
    obtain⟨k1,k2,k3,k4⟩:=HG.out W3 hb3
    have hbr:Below wr.heap.size wr W3:=HbA.out.trans (hb3.mono HbA.out.size)
    obtain⟨ka,kc,ra,rc,s0,s1,s2,s3',s4,s5,s6,s7,hk,hr⟩:=k1.cells
    have h64:=k1.1.2.2.2.1
    have hlow:∀ n,LowL c.ts.length ⟨(x:Int),(y:Int),n⟩:=fun n=>⟨by show(0:Int)<=x;omega,by show(x:Int) < _;omega,by show(0:Int)<=y;omega,by show(y:Int) < _;omega⟩
    have x0:(0:Int)<=x:=by omega
    have y0:(0:Int)<=y:=by omega
    have HW3:=hide (And.intro k1 (And.intro k2 (And.intro k3 k4)))
    have Hbr:=hide hbr
    have Hlow:=hide hlow
    have hne:Nonempty (Up W3):=⟨⟨W3,Below.refl _ _⟩⟩
    have d6:∀ u:Up W3,u.world.cell? ⟨c.s,6,none⟩=some (.int .u64 Sj.tk.1):=fun u=>u.cell s6
    have d7:∀ u:Up W3,u.world.cell? ⟨c.s,7,none⟩=some (.int .u64 Sj.tk.2):=fun u=>u.cell s7
    have hl3:∀(n:Bool) (u:Up W3),Calls Tryz.prog 120 #[.pointer (some ⟨c.s,0,none⟩),.int .i64 j,.bool n] u.world fun e w'=>e=.returned (.agg #[.int .i64 x,.int .i64 y,.bool n])/\Below u.world.heap.size u.world w':=
     fun n u=>Hlit.out n _ (Hbr.out.trans (u.above.mono Hbr.out.size))
    have Hl3:=hide hl3
    clear s0 s1 s2 s3' s4 s5 s6 s7 hk hr k1 k2 k3 k4 hbr hlow hl3 c1 c2 g0 g1 hb3 HG
    refine wp_region_up (by kernel_rfl) (by kernel_rfl) ?_
    repeat (go_big_quiet_step (fail))
    go_big_quiet_step ((go_at_call 120; exact calls_up (Hl3.out true _)))
    repeat (go_big_quiet_step (fail))
    go_big_quiet_step ((go_at_call 75; exact calls_up (has_any (x:Int) (y:Int) true Sj.tk.1 Sj.tk.2 _ x0 hx9 y0 hy9 h64.1 h64.2)))
    repeat (go_big_quiet_step (fail))
    refine wpQuiet_nil ?_
    intro _ hw'
    obtain⟨nq2,hw''⟩:=hw'
    subst hw''
    have hb4:=nq2.above
    clear d6 d7 hne
    have HS4:=hide (HW3.out.1.up hb4)
    have Hof4:=hide (HW3.out.2.1.step (Fresh.refl _ _) hb4.size)
    have Hr4:=hide (HW3.out.2.2.1.below hb4 HW3.out.2.2.1.lt)
    have Hk4:Hid (Keeps F W nq2.world):=HW3.out.2.2.2.trans (Keeps.of (F:=[]) hb4) (by simp)
    have Hl4:=hide (Hl3.out true nq2)
    have Hbr4:=hide (Hbr.out.trans (hb4.mono Hbr.out.size))
    clear hb4
    generalize nq2.world=W4 at *
    generalize hh1:hasS Sj.tk.1 Sj.tk.2 ⟨(x:Int),(y:Int),true⟩=h1 at *
    have Hh1:=hide hh1
    clear hh1
    cases h1
    ·rw[if_neg (by simp)]at Hst
     obtain⟨ka,kc,ra,rc,s0,s1,s2,s3',s4,s5,s6,s7,hk,hr⟩:=HS4.out.cells
     have hne:Nonempty (Up W4):=⟨⟨W4,Below.refl _ _⟩⟩
     have d6:∀ u:Up W4,u.world.cell? ⟨c.s,6,none⟩=some (.int .u64 Sj.tk.1):=fun u=>u.cell s6
     have d7:∀ u:Up W4,u.world.cell? ⟨c.s,7,none⟩=some (.int .u64 Sj.tk.2):=fun u=>u.cell s7
     have hl5:∀(n:Bool) (u:Up W4),Calls Tryz.prog 120 #[.pointer (some ⟨c.s,0,none⟩),.int .i64 j,.bool n] u.world fun e w'=>e=.returned (.agg #[.int .i64 x,.int .i64 y,.bool n])/\Below u.world.heap.size u.world w':=
      fun n u=>Hlit.out n _ (Hbr4.out.trans (u.above.mono Hbr4.out.size))
     have Hl5:=hide hl5
     clear s0 s1 s2 s3' s4 s5 s6 s7 hk hr hl5 Hl4 Hl3
     go_upto_region 8 with fail
     refine wp_region_up (by kernel_rfl) (by kernel_rfl) ?_
     repeat (go_big_quiet_step (fail))
     go_big_quiet_step ((go_at_call 120; exact calls_up (Hl5.out false _)))
     repeat (go_big_quiet_step (fail))
     go_big_quiet_step ((go_at_call 75; exact calls_up (has_any (x:Int) (y:Int) false Sj.tk.1 Sj.tk.2 _ x0 hx9 y0 hy9 h64.1 h64.2)))
     repeat (go_big_quiet_step (fail))
     refine wpQuiet_nil ?_
     intro _ hw'
     obtain⟨nq3,hw''⟩:=hw'
     subst hw''
     have hb5:=nq3.above
     clear d6 d7 hne
     have HS5:=hide (HS4.out.up hb5)
     have Hof5:=hide (Hof4.out.step (Fresh.refl _ _) hb5.size)
     have hr5:=Hr4.out.below hb5 Hr4.out.lt
     have Hk5:Hid (Keeps F W nq3.world):=Hk4.out.trans (Keeps.of (F:=[]) hb5) (by simp)
     clear hb5
     generalize nq3.world=W5 at *
     generalize hh2:hasS Sj.tk.1 Sj.tk.2 ⟨(x:Int),(y:Int),false⟩=h2 at *
     have Hh2:=hide hh2
     clear hh2
     cases h2
     ·rw[if_neg (by simp)]at Hst
      cases htk:takeP c.prs Sj j false (-2)with
      | none=>have:=Hst.out;rw[htk]at this;cases this
      | some S2=>
      rw[htk,Option.bind_some]at Hst
      have Hc:=hide (take_any hc HS5.out j false (-2) htk)
      clear htk
      go_wp2_with fail
      refine Hc.out.mono ?_
      rintro e w6 ⟨rfl,G6,hS6,hf6,hk6⟩
      have h1:=hide (Hof5.out.step hf6 hk6.size)
      have h2:Row w6 g cl:=hk6.row (Hof5.out g (by simp)).1 hr5
      have HS6:=hide hS6
      have h3:Hid (Fresh F G6 W):=Fresh.trans Hfj.out hf6 Hk5.out.size
      have h4:Hid (Keeps F W w6):=Hk5.out.tran hk6 Hfj.out
      clear hS6 hf6 hk6 Hc
      go_wp2_with fail
      go_roundg (c.prs.length - (j+1))
      case measure=>omega
      case rel=>exact⟨j+1,S2,G6,rfl,by omega,by go_num,Hst,HS6,h1,h2,h3,h4⟩
     ·rw[if_pos rfl]at Hst
      go_wp2_with fail
      go_roundg (c.prs.length - (j+1))
      case measure=>omega
      case rel=>exact⟨j+1,Sj,G,rfl,by omega,by go_num,Hst,HS5,Hof5,hr5,Hfj,Hk5⟩
    ·rw[if_pos rfl]at Hst
     cases hwy:whyEqP c.E Sj ⟨(x:Int),(y:Int),true⟩with
     | none=>have:=Hst.out;rw[hwy]at this;cases this
     | some r=>
     obtain⟨k,S2⟩:=r
     rw[hwy,Option.map_some]at Hst
     have Hfin:Hid (some k=out/\S2=S'):=by
      have:=Hst.out
      injection this with this
      injection this with e1 e2
      exact⟨e1,e2⟩
     have Hwy:Hid (∀ W',Below W4.heap.size W4 W'->Calls Tryz.prog 124 #[.pointer (some ⟨c.s,0,none⟩),.agg #[.int .i64 x,.int .i64 y,.bool true]] W' (SS.Goes c W' G S2 (.int .i64 k))):=
      fun W' hb'=>whyEq_any hc (HS4.out.up hb') ⟨(x:Int),(y:Int),true⟩ (Hlow.out true) hwy
     clear hwy Hst
     go_wp2_with fail
     refine Hl4.out.mono ?_
     rintro e w6 ⟨rfl,hb6⟩
     go_wp2_with fail
     refine(Hwy.out w6 hb6).mono ?_
     rintro e w7 ⟨rfl,G7,hS7,hf7,hk7⟩
     have HF:=hide (And.intro hS7 (And.intro hf7 hk7))
     have Hb6:=hide hb6
     clear hS7 hf7 hk7 hb6 Hwy Hl4
     go_wp2_with fail
     go_ret2
     rw[<-Hfin.out.1,<-Hfin.out.2]
     exact Goes.after (Fresh.refl _ _) (Keeps.of Hb.out) (Goes.after Hfj.out Hk4.out (Goes.after (Fresh.refl _ _) (Keeps.of Hb6.out) ⟨rfl,G7,HF.out.1,HF.out.2.1,HF.out.2.2⟩))
   ·have hnb:(vx != vy)=true:=by simp[hv]
    rw[Heq.out]at Hst
    rw[if_neg (by simp[hv])]at Hst
    go_quiet (fail)
    go_wp2_with fail
    go_roundg (c.prs.length - (j+1))
    case measure=>omega
    case rel=>
     obtain⟨k1,k2,k3,k4⟩:=HG.out (W2.drewN nq) (below_drewN (Below.refl _ _) _)
     exact⟨j+1,Sj,G,rfl,by omega,by go_num,Hst,k1,k2,k3,Hfj,k4⟩
  ·have Hfin:Hid (none=out/\Sj=S'):=by
    have:=Hj.out
    rw[List.drop_of_length_le (by simp;omega)]at this
    unfold tkEqP at this
    injection this with this
    injection this with e1 e2
    exact⟨e1,e2⟩
   go_wp2_with fail
   go_ret2
   rw[<-Hfin.out.1,<-Hfin.out.2]
   exact Goes.after (Fresh.refl _ _) (Keeps.of Hb.out) ⟨rfl,G,HSj.out,Hfj.out,Hkj.out⟩
end Go.Proofs.YtjebhhoibofmfaaGreat
