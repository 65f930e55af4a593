import Derived.Test.YtjebhhoibofmfaaGreatBMSd
import Derived.Laws.FloatArith
namespace Go.Proofs.YtjebhhoibofmfaaGreat
open Go.RowKit
def goodF(x:Nat):Prop:=x<=2139095040
def goodD:Ieee.Datum->Prop
 | .number s _ _=>s=false
 | .infinity s=>s=false
 | .nan _ _=>False
theorem f32_consts:FloatKind.f32.format.infRung=2139095040/\FloatKind.f32.format.signWeight=2147483648/\FloatKind.f32.format.binade=8388608:=by decide +kernel
theorem read_good{x:Nat}(h:goodF x):goodD (FloatKind.f32.format.read x):=by
 obtain⟨h1,h2,h3⟩:=f32_consts
 unfold goodF at h
 have e1:x / FloatKind.f32.format.signWeight=0:=by rw[h2];omega
 have e2:x % FloatKind.f32.format.signWeight=x:=by rw[h2];omega
 unfold Ieee.Format.read
 simp only[e1,e2]
 split
 ·rfl
 ·split
  ·rfl
  ·split
   ·rfl
   ·rename_i h7 h8 h9
    rw[h1]at h8 h9
    exact absurd h (by omega)
theorem write_good{d:Ieee.Datum}(h:goodD d):goodF (FloatKind.f32.format.write d):=by
 obtain⟨h1,h2,h3⟩:=f32_consts
 unfold goodF
 cases d with
 | number s m i=>
   have hs:s=false:=h
   subst hs
   unfold Ieee.Format.write Ieee.Format.nearest Ieee.Format.word
   simp only
   split
   ·simp
   ·simp only[Bool.false_eq_true,if_false]
    rw[<-h1]
    exact Nat.min_le_right _ _
 | infinity s=>
   have hs:s=false:=h
   subst hs
   unfold Ieee.Format.write Ieee.Format.word
   simp[h1]
 | nan s t=>exact absurd h (by simp[goodD])
theorem signed_pos(m k:Nat):0<=Ieee.signed false m k:=by
 unfold Ieee.signed
 rw[if_neg (by simp)]
 exact Int.natCast_nonneg _
theorem sum_good{a b:Ieee.Datum}(ha:goodD a)(hb:goodD b):∃ d,a.sum b=some d/\goodD d:=by
 cases a with
 | nan s t=>exact absurd ha (by simp[goodD])
 | infinity s=>
   have hs:s=false:=ha
   subst hs
   cases b with
   | nan s t=>exact absurd hb (by simp[goodD])
   | infinity t=>
     have ht:t=false:=hb
     subst ht
     exact⟨.infinity false,rfl,rfl⟩
   | number t n j=>exact⟨.infinity false,rfl,rfl⟩
 | number s m i=>
   have hs:s=false:=ha
   subst hs
   cases b with
   | nan s t=>exact absurd hb (by simp[goodD])
   | infinity t=>
     have ht:t=false:=hb
     subst ht
     exact⟨.infinity false,rfl,rfl⟩
   | number t n j=>
     have ht:t=false:=hb
     subst ht
     refine⟨_,rfl,?_⟩
     show(if _=0 then(false && false)else decide (_ < 0))=false
     split
     ·rfl
     ·rw[decide_eq_false_iff_not]
      have p1:=signed_pos m (i - min i j).toNat
      have p2:=signed_pos n (j - min i j).toNat
      omega
theorem add_good{x y:Nat}(hx:goodF x)(hy:goodF y):∃ r,floatBits .add .f32 x y=some r/\goodF r:=by
 obtain⟨d,h1,h2⟩:=sum_good (read_good hx) (read_good hy)
 refine⟨FloatKind.f32.format.write d,?_,write_good h2⟩
 show((FloatKind.f32.format.read x).sum (FloatKind.f32.format.read y)).map FloatKind.f32.format.write=_
 rw[h1];rfl
theorem one_read:FloatKind.f32.format.read 1065353216=.number false 8388608 (-23):=by decide +kernel
theorem quot_good{b:Ieee.Datum}(hb:goodD b)(k:Nat)(i:Int):∃ d,(Ieee.Datum.number false 8388608 i).quotient k b=some d/\goodD d:=by
 cases b with
 | nan s t=>exact absurd hb (by simp[goodD])
 | infinity t=>
   have ht:t=false:=hb
   subst ht
   exact⟨_,rfl,rfl⟩
 | number t n j=>
   have ht:t=false:=hb
   subst ht
   unfold Ieee.Datum.quotient
   by_cases hn:n=0
   ·subst hn
    exact⟨.infinity false,rfl,rfl⟩
   ·simp only[if_neg hn]
    exact⟨_,rfl,rfl⟩
theorem div_good{y:Nat}(hy:goodF y):∃ r,floatBits .quo .f32 1065353216 y=some r/\goodF r:=by
 have hi:=one_read
 obtain⟨d,h1,h2⟩:=quot_good (read_good hy) (FloatKind.f32.format.fractionBits+2) (-23)
 refine⟨FloatKind.f32.format.write d,?_,write_good h2⟩
 show FloatKind.f32.format.div 1065353216 y=_
 unfold Ieee.Format.div
 rw[hi]
 first
  | (rw[h1];rfl)
  | skip
theorem ofInt_good(n:Nat):goodF (floatOfInt .f32 n):=by
 show goodF (FloatKind.f32.format.write (.number (decide ((n:Int) < 0)) (n:Int).natAbs 0))
 refine write_good ?_
 show decide ((n:Int) < 0)=false
 rw[decide_eq_false_iff_not]
 omega
end Go.Proofs.YtjebhhoibofmfaaGreat
namespace Go.Proofs.YtjebhhoibofmfaaGreat
open Go.RowKit
def Fresh(F F':List Nat)(w:World):Prop:=∀ k∈F',k∈F\/w.heap.size<=k
theorem Fresh.refl(F:List Nat)(w:World):Fresh F F w:=fun _ h=>.inl h
theorem Fresh.trans{F G H:List Nat}{w w':World}(h:Fresh F G w)(h':Fresh G H w')(hs:w.heap.size<=w'.heap.size):Fresh F H w:=fun k hk=>by
 rcases h' k hk with h1 | h1
 ·exact h k h1
 ·exact .inr (Nat.le_trans hs h1)
theorem Keeps.tran{F G:List Nat}{w w1 w2:World}(h:Keeps F w w1)(h':Keeps G w1 w2)(hf:Fresh F G w):Keeps F w w2:=h.trans h' hf
theorem Keeps.mono{F G:List Nat}{w w':World}(h:Keeps F w w')(hs:∀ k∈F,k∈G):Keeps G w w':=⟨h.os,h.tape,h.output,h.size,fun k hk hn=>h.block k hk (fun e=>hn (hs k e))⟩
theorem Keeps.cell{F:List Nat}{w w':World}(h:Keeps F w w'){b o:Nat}{v:Value}(hn:b ∉ F)(hc:w.cell? ⟨b,o,none⟩=some v):w'.cell? ⟨b,o,none⟩=some v:=by
 have hl:=block_lt hc
 have:=h.block b hl hn
 obtain⟨o1,ho⟩:∃ o1,w.heap[b]?=some o1:=⟨_,Array.getElem?_eq_getElem hl⟩
 rw[<-hc]
 unfold World.cell?
 simp only[this]
theorem Keeps.row{F:List Nat}{w w':World}(h:Keeps F w w'){b:Nat}{o:Obj}(hn:b ∉ F)(hc:w.heap[b]?=some o):w'.heap[b]?=some o:=
 (h.block b (Array.getElem?_eq_some_iff.1 hc).1 hn).trans hc
theorem Keeps.below{F:List Nat}{w w1 w2:World}{B:Nat}(hb:Below B w w1)(h:Keeps F w1 w2)(hB:B<=w1.heap.size)(hF:∀ k∈F,B<=k):Below B w w2:=
 ⟨h.os.trans hb.os,h.tape.trans hb.tape,h.output.trans hb.output,Nat.le_trans hb.size h.size,fun k hk=>(h.block k (by omega) (fun e=>by have:=hF k e;omega)).trans (hb.block k hk)⟩
theorem IntsAt.keep{F:List Nat}{w w':World}{a:Option Addr}{xs:List Int}(h:IntsAt w a xs)(hk:Keeps F w w')(hn:∀ b∈blkOf a,b ∉ F):IntsAt w' a xs:=by
 rcases h with h | ⟨b,o,rfl,h⟩
 ·exact .inl h
 ·exact .inr ⟨b,o,rfl,fun i hi=>hk.cell (hn b (by simp[blkOf])) (h i hi)⟩
theorem own_keep{w w':World}{base:Nat}{e:TypeId}{size:Nat}{a:Option Addr}{n c:Nat}{xs:List Value}{F:List Nat}(h:w.ownsRow base e size (.slice a n c) n xs)(hk:Keeps F w w')(hn:∀ b∈blkOf a,b ∉ F):w'.ownsRow base e size (.slice a n c) n xs:=by
 refine⟨h.1,?_⟩
 rcases h.2 with h2 | ⟨g,cap,cur,hv,hg,hh,r⟩
 ·exact Or.inl h2
 ·injection hv with hv h7 h8
  subst hv
  subst h8
  exact Or.inr ⟨g,_,cur,rfl,hg,hk.row (hn g (by simp[blkOf])) hh,r⟩
theorem QS.keep{F:List Nat}{w w':World}{q gw gp:Nat}{va:Option Addr}{vc:Nat}{ws ns:List Nat}(h:QS w q gw gp va vc ws ns)(hk:Keeps F w w')(hn:∀ b∈q :: gw :: gp :: blkOf va,b ∉ F):QS w' q gw gp va vc ws ns:=by
 obtain⟨⟨h1,h2,h3,h4⟩,h5⟩:=h
 exact⟨⟨hk.row (hn q (by simp)) h1,hk.row (hn gw (by simp)) h2,hk.row (hn gp (by simp)) h3,own_keep h4 hk (fun b hb=>hn b (by simp[hb]))⟩,h5⟩
def QQ(w:World)(q:Nat)(F ws ns:List Nat):Prop:=
 (∀ x∈ws,goodF x)/\∃ gw gp va vc,F=q :: gw :: gp :: blkOf va/\QS w q gw gp va vc ws ns
theorem QQ.keep{F G:List Nat}{w w':World}{q:Nat}{ws ns:List Nat}(h:QQ w q F ws ns)(hk:Keeps G w w')(hn:∀ b∈F,b ∉ G):QQ w' q F ws ns:=by
 obtain⟨hg,gw,gp,va,vc,rfl,h⟩:=h
 exact⟨hg,gw,gp,va,vc,rfl,h.keep hk hn⟩
theorem QQ.nodup{w:World}{q:Nat}{F ws ns:List Nat}(h:QQ w q F ws ns):ns.Nodup/\∀ x∈ns,x < ws.length:=by
 obtain⟨hg,gw,gp,va,vc,rfl,h⟩:=h
 exact h.2
def addF(x y:Nat):Nat:=(floatBits .add .f32 x y).getD 0
def shareF(n:Nat):Nat:=(floatBits .quo .f32 1065353216 (floatOfInt .f32 n)).getD 0
theorem addF_good{x y:Nat}(hx:goodF x)(hy:goodF y):floatBits .add .f32 x y=some (addF x y)/\goodF (addF x y):=by
 obtain⟨r,h1,h2⟩:=add_good hx hy
 unfold addF
 rw[h1]
 exact⟨rfl,h2⟩
theorem shareF_good(n:Nat):floatBits .quo .f32 1065353216 (floatOfInt .f32 n)=some (shareF n)/\goodF (shareF n):=by
 obtain⟨r,h1,h2⟩:=div_good (ofInt_good n)
 unfold shareF
 rw[h1]
 exact⟨rfl,h2⟩
def growL(sh:Nat):List Nat->List Nat->List Nat->List Nat×List Nat
 | [],ws,ns=>(ws,ns)
 | x :: xs,ws,ns=>growL sh xs (ws.set x (addF (ws.getD x 0) sh)) (if x∈ns then setL (ws.set x (addF (ws.getD x 0) sh)) ns (ns.idxOf x) ns.length else ns)
theorem FRow.set{w:World}{g:Nat}{ws:List Nat}(h:FRow w g ws)(k v:Nat):FRow (w.setCell ⟨g,k,none⟩ (.float .f32 v)) g (ws.set k v):=by
 unfold FRow at *
 rw[heap_setCell_same w g k _ _ _ h]
 simp[flCells,List.map_set]
theorem apart_ty{w:World}{a b:Nat}{x y:Array Value}{s t:TypeId}(h:w.heap[a]?=some (.cells x s (0,0)))(h':w.heap[b]?=some (.cells y t (0,0)))(hn:s≠t):a≠b:=by
 intro e
 subst e
 rw[h]at h'
 injection h' with h'
 injection h' with _ h'
 exact hn h'
theorem own_other{w:World}{base:Nat}{e e':TypeId}{size:Nat}{a:Option Addr}{n c b:Nat}{xs:List Value}{x:Array Value}(h:w.ownsRow base e size (.slice a n c) n xs)(hb:w.heap[b]?=some (.cells x e' (0,0)))(hne:e'≠e):b ∉ blkOf a:=by
 rcases h.2 with⟨h2,_⟩ | ⟨g,cap,cur,hv,hg,hh,r⟩
 ·injection h2 with h2;subst h2;simp[blkOf]
 ·injection hv with hv h7 h8
  subst hv
  simp only[blkOf,List.mem_singleton]
  exact apart_ty hb hh hne
theorem QS.weight{w:World}{q gw gp:Nat}{va:Option Addr}{vc:Nat}{ws ns:List Nat}(h:QS w q gw gp va vc ws ns)(x r:Nat):QS (w.setCell ⟨gw,x,none⟩ (.float .f32 r)) q gw gp va vc (ws.set x r) ns:=by
 obtain⟨⟨h1,h2,h3,h4⟩,h5,h6⟩:=h
 have hk:Keeps [gw] w (w.setCell ⟨gw,x,none⟩ (.float .f32 r)):=(Keeps.refl _ _).set (by simp) _
 have a1:=apart_ty h1 h2 (by decide)
 have a2:=apart_ty h3 h2 (by decide)
 have hl:(ws.set x r).length=ws.length:=List.length_set ..
 refine⟨⟨?_,h2.set x r,?_,own_keep h4 hk (fun b hb=>?_)⟩,h5,by rw[hl];exact h6⟩
 ·rw[hl];exact hk.row (by simpa using a1) h1
 ·rw[hl];exact hk.row (by simpa using a2) h3
 ·have:=own_other h4 h2 (by decide)
  simp only[List.mem_singleton]
  intro e
  subst e
  exact this hb
theorem st_f32(a:Addr)(n:Nat)(m:Mode)(w:World):Sem.run Tryz.prog (store a (.float .f32 n) m) w=stored Tryz.prog w a (.float .f32 n) m:=run_store _ w a _ m rfl
set_option maxRecDepth 100000 in
set_option maxHeartbeats 1000000 in
theorem qgrow_any(q:Nat)(F ws ns met:List Nat)(ma:Option Addr)(mc:Nat)(w:World)(h:QQ w q F ws ns)(hm:IntsAt w ma (intL met))(hmF:∀ b∈blkOf ma,b ∉ F)(hb:∀ x∈met,x < ws.length)(hl:ns.length<=900)(hml:met.length<=1000) :
 Calls Tryz.prog 125 #[.pointer (some ⟨q,0,none⟩),.slice ma met.length mc] w fun e w'=>e=.returned (.tuple #[])/\QQ w' q F (growL (shareF met.length) met ws ns).1 (growL (shareF met.length) met ws ns).2/\Keeps F w w':=by
 have hsh:=shareF_good met.length
 have Hsh:=hide hsh.2
 have hs1:=hsh.1
 generalize shareF met.length=sh at *
 have f1:=fun t=>run_float_arith (P:=Tryz.prog) (w:=w) .quo t .f32 1065353216 (floatOfInt .f32 met.length) sh hs1
 have HG:Hid (growL sh (met.drop 0) ws ns=growL sh met ws ns):=by show _=_;rw[List.drop_zero]
 generalize hout:growL sh met ws ns=out at *
 have Hout:=hide hout
 clear hout hsh
 go_enter Tryz.func125,Tryz.ntmps125
 go_upto_region 1 with fail
 go_wp2_with fail
 clear f1 hs1
 go_loopg [14] met.length (fun g v wx=>∃ k:Nat,∃ wsk nsk:List Nat,g=met.length - k/\k<=met.length/\v=.int .i64 k/\Hid (growL sh (met.drop k) wsk nsk=out)/\QQ wx q F wsk nsk/\wsk.length=ws.length/\nsk.length<=900/\Keeps F w wx)
 case atStart=>exact⟨0,ws,ns,rfl,by omega,rfl,HG,h,rfl,hl,Keeps.refl _ _⟩
 case round=>
  obtain⟨k,wsk,nsk,rfl,hk,rfl,Hk,hQ,hwl,hnl,hK⟩:=hrel
  have hmx:=hm.keep hK hmF
  by_cases hlt:k < met.length
  ·obtain⟨b,o,rfl,hc⟩:=hmx.get (i:=k) (by rw[intL_length];exact hlt)
   have ck:=hc k (by rw[intL_length];exact hlt)
   rw[intL_get met hlt]at ck
   have hx:met.getD k 0 < wsk.length:=by rw[hwl];exact hb _ (mem_get hlt)
   have Hd:Hid (met.drop k=met.getD k 0 :: met.drop (k+1)):=by
    show _=_
    rw[List.drop_eq_getElem_cons hlt,List.getD_eq_getElem?_getD,List.getElem?_eq_getElem hlt,Option.getD_some]
   generalize met.getD k 0=x at *
   obtain⟨hgood,gw,gp,va,vc,hF,hS⟩:=hQ
   have hgx:goodF (wsk.getD x 0):=hgood _ (mem_get hx)
   obtain⟨ha1,ha2⟩:=addF_good hgx Hsh.out
   have Hr:=hide ha2
   have Hnx:Hid (growL sh (met.drop (k+1)) (wsk.set x (addF (wsk.getD x 0) sh)) (if x∈nsk then setL (wsk.set x (addF (wsk.getD x 0) sh)) nsk (nsk.idxOf x) nsk.length else nsk)=out):=by
    have:=Hk.out
    rw[Hd.out]at this
    exact this
   have s0:wr.cell? ⟨q,0,none⟩=some (.slice (some ⟨gw,0,none⟩) wsk.length wsk.length):=by rw[cell_of_row _ _ _ _ _ _ hS.1.1];rfl
   have cx:=hS.1.2.1.cell hx
   have fx:wr.frozen? ⟨gw,x,none⟩=false:=frozen_of_row _ _ _ _ _ hS.1.2.1
   have f2:=fun t=>run_float_arith (P:=Tryz.prog) (w:=wr) .add t .f32 (wsk.getD x 0) sh (addF (wsk.getD x 0) sh) ha1
   generalize addF (wsk.getD x 0) sh=r at *
   generalize wsk.getD x 0=y at *
   have hS1:=hS.weight x r
   have hK1:Keeps F w (wr.setCell ⟨gw,x,none⟩ (.float .f32 r)):=hK.set (by rw[hF];simp) _
   have hx1:x < (wsk.set x r).length:=by rw[List.length_set];exact hx
   have hg1:∀ z∈wsk.set x r,goodF z:=by
    intro z hz
    rcases List.mem_or_eq_of_mem_set hz with h7 | h7
    ·exact hgood z h7
    ·rw[h7];exact Hr.out
   have Hg1:=hide hg1
   have hwl1:(wsk.set x r).length=ws.length:=by rw[List.length_set];exact hwl
   clear hgood hg1 hgx ha1 ha2 hc Hk
   obtain⟨W1,hW1⟩:∃ W1,W1=wr.setCell ⟨gw,x,none⟩ (.float .f32 r):=⟨_,rfl⟩
   rw[<-hW1]at hS1 hK1
   obtain⟨p2,px⟩:=hS1.place hx1
   generalize wsk.set x r=ws1 at *
   have f3:=st_f32
   go_upto_region 5 with fail
   rw[<-hW1]
   clear hW1 f2 s0 cx fx hS hK
   by_cases hxn:x∈nsk
   ·rw[if_pos hxn]at px
    rw[if_pos hxn]at Hnx
    obtain⟨g,rfl⟩:=hS1.addr (List.ne_nil_of_mem hxn)
    have hk7:=List.idxOf_lt_length_iff.2 hxn
    have hfx:=hide (heapFix_any q gw gp g vc ws1 nsk (nsk.idxOf x) W1 hS1 hk7 hnl)
    have hp7:=(setL_perm ws1 nsk (nsk.idxOf x) nsk.length hk7 (Nat.le_refl _)).length_eq
    generalize setL ws1 nsk (nsk.idxOf x) nsk.length=ns1 at *
    generalize nsk.idxOf x=i at *
    have hz:((i:Int) != -1)=true:=by simp
    go_wp2_with fail
    refine hfx.out.mono ?_
    rintro e w5 ⟨rfl,hQ5,hK5⟩
    go_wp2_with fail
    go_roundg (met.length - (k+1))
    case measure=>omega
    case rel=>exact⟨k+1,ws1,ns1,rfl,by omega,by go_num,Hnx,⟨Hg1.out,gw,gp,_,vc,hF,hQ5⟩,hwl1,by omega,hK1.trans hK5 (fun k hk=>.inl (by rw[hF];simp at hk;rcases hk with rfl | rfl <;> simp[blkOf]))⟩
   ·rw[if_neg hxn]at px
    rw[if_neg hxn]at Hnx
    go_wp2_with fail
    go_roundg (met.length - (k+1))
    case measure=>omega
    case rel=>exact⟨k+1,ws1,nsk,rfl,by omega,by go_num,Hnx,⟨Hg1.out,gw,gp,va,vc,hF,hS1⟩,hwl1,hnl,hK1⟩
  ·have Hkl:Hid (k=met.length):=by show k=met.length;omega
   go_wp2_with fail
   go_end0
   refine⟨rfl,?_,hK⟩
   have:=Hk.out
   rw[Hkl.out,List.drop_length]at this
   rw[<-this]
   exact hQ
end Go.Proofs.YtjebhhoibofmfaaGreat
namespace Go.Proofs.YtjebhhoibofmfaaGreat
open Go.RowKit
set_option maxRecDepth 100000 in
set_option maxHeartbeats 2000000 in
theorem linePush_raw(q gw gp:Nat)(va:Option Addr)(vc:Nat)(ws ns:List Nat)(pl:List Int)(x:Nat)(w:World)(h:Qu w q gw gp va vc ws (intL ns) pl)(hpl:pl.length=ws.length)(hxn:x < ws.length)(hl:ns.length<=1000) :
 Calls Tryz.prog 171 #[.pointer (some ⟨q,0,none⟩),.iface 3 (.int .i64 x)] w fun e w'=>e=.returned (.tuple #[])/\∃ g' vc',Qu w' q gw gp (some ⟨g',0,none⟩) vc' ws (intL (ns++[x])) (pl.set x (ns.length:Nat))/\(g'∈blkOf va\/w.heap.size<=g')/\Keeps (q :: gp :: blkOf va) w w':=by
 obtain⟨i1,hi1,hy0,hy1,hy2⟩:=info_parts info_int
 obtain⟨h1,h2,h3,h4⟩:=h
 have hq0:=hide h1
 have s1:w.cell? ⟨q,1,none⟩=some (.slice va ns.length vc):=by rw[cell_of_row _ _ _ _ _ _ h1];simp[intL_length]
 have s2:w.cell? ⟨q,2,none⟩=some (.slice (some ⟨gp,0,none⟩) ws.length ws.length):=by rw[cell_of_row _ _ _ _ _ _ h1];simp[hpl]
 have f1:w.frozen? ⟨q,1,none⟩=false:=frozen_of_row _ _ _ _ _ h1
 have px:=h3.cell (k:=x) (by rw[hpl];exact hxn)
 have fx:w.frozen? ⟨gp,x,none⟩=false:=frozen_of_row _ _ _ _ _ h3
 have hqp:q≠gp:=by
  intro e
  subst e
  unfold Row at h3
  rw[h1]at h3
  injection h3 with h3
  injection h3 with _ h3
  exact absurd h3 (by decide)
 have hpq:gp≠q:=fun e=>hqp e.symm
 generalize pl.getD x 0=ox at *
 have Hpl:=hide hpl
 clear hpl
 have H:=hide (And.intro h2 (And.intro h3 h4))
 clear h1 h2 h3 h4
 have t1:=ta_int
 go_enter Tryz.func171,Tryz.ntmps171
 go_upto_region 1 with fail
 go_region
 obtain⟨W1,hW1⟩:∃ W1,W1=(w.setCell ⟨gp,x,none⟩ (.int .i64 (ns.length:Int))).drew:=⟨_,rfl⟩
 go_upto_region 2 with fail
 rw[<-hW1]
 have g1:W1.cell? ⟨q,1,none⟩=some (.slice va ns.length vc):=by rw[hW1];exact set_other (.inl hqp) s1
 have g2:W1.frozen? ⟨q,1,none⟩=false:=by rw[hW1];exact set_frozen f1
 have hqh:W1.heap[q]?=some (.cells #[.slice (some ⟨gw,0,none⟩) ws.length ws.length,.slice va (intL ns).length vc,.slice (some ⟨gp,0,none⟩) pl.length pl.length] 178 (0,0)):=by
  rw[hW1]
  show(w.setCell ⟨gp,x,none⟩ _).heap[q]?=_
  rw[heap_setCell_other _ _ _ _ hqp]
  exact hq0.out
 have hown:W1.ownsRow (gp+1) 3 1 (.slice va (intL ns).length vc) (intL ns).length (intCells (intL ns)):=by
  rw[hW1]
  exact own_below (own_setCell H.out.2.2 (Nat.lt_succ_self gp) _) (Below.refl _ _).drew
 have hrow:Row W1 gp (pl.set x (ns.length:Nat)):=by
  rw[hW1]
  exact H.out.2.1.set x _
 have hwp:gw≠gp:=by
  intro e
  have h3:=H.out.2.1
  have h2:=H.out.1
  unfold Row at h3
  unfold FRow at h2
  rw[<-e,h2]at h3
  injection h3 with h3
  injection h3 with _ h3
  exact absurd h3 (by decide)
 have hfr:FRow W1 gw ws:=by
  unfold FRow
  rw[hW1]
  show(w.setCell ⟨gp,x,none⟩ _).heap[gw]?=_
  rw[heap_setCell_other _ _ _ _ hwp]
  exact H.out.1
 have hK1:Keeps (q :: gp :: blkOf va) w W1:=by rw[hW1];exact((Keeps.refl _ _).set (by simp) _).drew
 have hsz:gp+1<=W1.heap.size:=hrow.lt
 rw[intL_length]at hown
 have hqlt:=(Array.getElem?_eq_some_iff.1 hqh).1
 clear hW1 s1 s2 f1 px fx
 go_wp2_with (at_builtin;refine wpList_append_own_at _ rfl (.tmp 22) (.tmp 24) 29 rfl (gp+1) 3 i1 (.int .i64 0) 1 8 Tryz.underlying29 hi1 hy0 hy1 hy2 rfl (by decide) (.slice va ns.length vc) ns.length (intCells (intL ns)) rfl (hown.alloc _) ⟨W1.heap.size,0,none⟩ 1 1 [.int .i64 x] rfl rfl (by simpa using new_one W1 (.int .i64 x) 3) (fun u hu=>by simp at hu;subst hu;rfl) (by unfold maxLen;omega) (by omega) (by simp;omega) ?_)
 intro qv w9 hown9 hgr9 hz9 hat9
 clear hz9
 have hnq:∀(k:Nat) (cs:Array Value) (e:TypeId),W1.heap[k]?=some (.cells cs e (0,0))->e≠3->some k≠(Value.slice va ns.length vc).ownBlock:=by
  intro k cs e hk he e1
  obtain⟨cur,e2,h7,h8⟩:=own_type hown (e0:=e) (fun e3=>he e3.symm) k e1.symm
  rw[hk]at h7
  injection h7 with h7
  injection h7 with _ h7
  exact h8 h7.symm
 have hq9:=hnq q _ _ hqh (by decide)
 have hw9:=hnq gw _ _ hfr (by decide)
 have hp9:some gp≠(Value.slice va ns.length vc).ownBlock:=fun e=>by have:=(hown.lt _ e.symm).1;omega
 have hwlt:=(Array.getElem?_eq_some_iff.1 hfr).1
 have z0:=(hgr9.block q (by simp;omega) hq9).trans (heap_at_old _ _ hqh)
 have z1:=(hgr9.block gw (by simp;omega) hw9).trans (heap_at_old _ _ hfr)
 have z2:=(hgr9.block gp (by simp;omega) hp9).trans (heap_at_old _ _ hrow)
 have y1:w9.cell? ⟨q,1,none⟩=some (.slice va (intL ns).length vc):=by rw[cell_of_row _ _ _ _ _ _ z0];rfl
 have y2:w9.frozen? ⟨q,1,none⟩=false:=frozen_of_row _ _ _ _ _ z0
 have hK9:Keeps (q :: gp :: blkOf va) w w9:=by
  refine hK1.trans (G:=blkOf va) ⟨hgr9.os,hgr9.tape,hgr9.output,Nat.le_trans (by simp) hgr9.size,fun k hk hn=>?_⟩ (fun k hk=>.inl (by simp[hk]))
  rw[hgr9.block k (by simp;omega) (fun e=>hn ?_)]
  ·exact Below.heap_alloc _ _ _ hk
  ·cases va with
   | none=>simp[Value.ownBlock]at e
   | some a=>simp[Value.ownBlock]at e;simp[blkOf,e]
 obtain⟨g',vc',hqv,hgn⟩:∃ g' vc',qv=.slice (some ⟨g',0,none⟩) (ns.length+1) vc'/\(g'∈blkOf va\/w.heap.size<=g'):=by
  rcases hown9.2 with⟨_,hn⟩ | ⟨g',cap,cur',hv,hb,hg',k1,k2,k3,k4⟩
  ·omega
  ·refine⟨g',cap,hv,?_⟩
   have hob:qv.ownBlock=some g':=by rw[hv];rfl
   rcases hat9 with h7 | h7
   ·left
    rw[hob]at h7
    cases va with
    | none=>simp[Value.ownBlock]at h7
    | some a=>simp[Value.ownBlock]at h7;simp[blkOf,h7]
   ·right
    rw[hob]at h7
    injection h7 with h7
    rw[h7]
    exact Nat.le_succ_of_le hK1.size
 subst hqv
 have hqg:g'≠q:=by
  intro e
  obtain⟨cur,e2,h7,h8⟩:=own_type hown9 (e0:=178) (by decide) g' rfl
  rw[e,z0]at h7
  injection h7 with h7
  injection h7 with _ h7
  exact h8 h7.symm
 have hwq:gw≠q:=by
  intro e
  rw[e,z0]at z1
  injection z1 with z1
  injection z1 with _ z1
  exact absurd z1 (by decide)
 clear hat9 hgr9 g1 g2 hK1
 go_wp2_with fail
 go_end0
 have hint:intL (ns++[x])=intL ns++[(x:Int)]:=by simp[intL]
 have hlen:(intL (ns++[x])).length=ns.length+1:=by rw[intL_length];simp
 refine⟨rfl,g',vc',⟨?_,?_,?_,?_⟩,hgn,hK9.set (by simp) _⟩
 ·rw[heap_setCell_same _ _ _ _ _ _ z0,List.length_set,hlen];rfl
 ·show(w9.setCell ⟨q,1,none⟩ _).heap[gw]?=_
  rw[heap_setCell_other _ _ _ _ hwq]
  exact z1
 ·unfold Row
  rw[heap_setCell_other _ _ _ _ hpq]
  exact z2
 ·rw[hlen,hint]
  have e9:intCells (intL ns++[(x:Int)])=intCells (intL ns)++[.int .i64 x]:=by simp[intCells]
  rw[e9]
  refine hown9.kept (set_grown w9 q 1 _) (.inr ?_)
  intro e
  have e':g'=q:=by injection e
  exact hqg e'
set_option maxRecDepth 100000 in
set_option maxHeartbeats 2000000 in
theorem up_stop(q gw gp:Nat)(va:Option Addr)(vc:Nat)(ws ns:List Nat)(pl:List Int)(j:Nat)(w:World)(h:Qu w q gw gp va vc ws (intL ns) pl)(hj:j < ns.length)(hl:ns.length<=1000)(hb:∀ x∈ns,x < ws.length)
 (hs:(j - 1) / 2=j\/lessF ws (ns.getD j 0) (ns.getD ((j - 1) / 2) 0)=false) :
 Calls Tryz.prog 142 #[.iface 181 (.pointer (some ⟨q,0,none⟩)),.int .i64 j] w fun e w'=>e=.returned (.tuple #[])/\Below w.heap.size w w':=by
 have m1:=meth_less
 have hi:(j - 1) / 2 < ns.length:=by omega
 have hquo:((j:Int) - 1).tdiv 2=(((j - 1) / 2:Nat):Int):=by
  cases j with
  | zero=>rfl
  | succ m=>rw[show(((m+1:Nat):Int) - 1)=(m:Int) by omega,Int.tdiv_eq_ediv_of_nonneg (by omega),show m+1 - 1=m by omega];omega
 obtain⟨i,hii⟩:∃ i,(j - 1) / 2=i:=⟨_,rfl⟩
 rw[hii]at hi hquo hs
 have hk1:j<=1000:=by omega
 have hij:i<=j:=by omega
 have hq1:wrap64 ((j:Int) - 1)=(j:Int) - 1:=by unfold wrap64;omega
 have hq2:wrap64 (i:Int)=(i:Int):=by unfold wrap64;omega
 have HL:=hide (less_any q gw gp va vc ws (intL ns) pl j i (ns.getD j 0) (ns.getD i 0) w h (by rw[intL_length];exact hj) (by rw[intL_length];exact hi) (intL_get ns hj) (intL_get ns hi) (hb _ (mem_get hj)) (hb _ (mem_get hi)))
 clear hii
 go_enter Tryz.func142,Tryz.ntmps142
 go_wp2_with fail
 go_loopg [1] 1 (fun f s1 wx=>f=1/\s1=.int .i64 j/\wx=w)
 case atStart=>exact⟨rfl,rfl,rfl⟩
 case round=>
  obtain⟨rfl,rfl,rfl⟩:=hrel
  go_upto_region 1 with fail
  by_cases he:i=j
  ·subst he
   have he':((i:Int) == (i:Int))=true:=by simp
   go_wp2_with fail
   go_end0
   exact⟨rfl,Below.refl _ _⟩
  ·have he':((i:Int) == (j:Int))=false:=by simpa using (fun e=>he (by omega))
   have hlf:lessF ws (ns.getD j 0) (ns.getD i 0)=false:=by
    rcases hs with h7 | h7
    ·exact absurd h7 he
    ·exact h7
   rw[hlf]at HL
   clear he hs
   go_wp2_with fail
   refine HL.out.mono ?_
   rintro e w1 ⟨rfl,hb1⟩
   go_wp2_with fail
   go_end0
   exact⟨rfl,hb1⟩
set_option maxRecDepth 100000 in
set_option maxHeartbeats 2000000 in
theorem heapPush_raw(q gw gp:Nat)(va:Option Addr)(vc:Nat)(ws ns:List Nat)(pl:List Int)(x:Nat)(w:World)(h:Qu w q gw gp va vc ws (intL ns) pl)(hpl:pl.length=ws.length)(hxn:x < ws.length)(hl:ns.length<=900)(hb:∀ x∈ns,x < ws.length)
 (hs:(ns.length - 1) / 2=ns.length\/lessF ws x ((ns++[x]).getD ((ns.length - 1) / 2) 0)=false) :
 Calls Tryz.prog 133 #[.iface 181 (.pointer (some ⟨q,0,none⟩)),.iface 3 (.int .i64 x)] w fun e w'=>e=.returned (.tuple #[])/\∃ g' vc',Qu w' q gw gp (some ⟨g',0,none⟩) vc' ws (intL (ns++[x])) (pl.set x (ns.length:Nat))/\(g'∈blkOf va\/w.heap.size<=g')/\Keeps (q :: gp :: blkOf va) w w':=by
 have m1:=meth_len
 have m2:=meth_push
 go_enter Tryz.func133,Tryz.ntmps133
 go_wp2_with fail
 refine(linePush_raw q gw gp va vc ws ns pl x w h hpl hxn (by omega)).mono ?_
 rintro e w1 ⟨rfl,g',vc',hQ1,hg1,hK1⟩
 have hln:(ns++[x]).length=ns.length+1:=by simp
 have hLn:=len_any q gw gp _ vc' ws _ _ w1 hQ1
 rw[intL_length,hln]at hLn
 have HLn:=hide hLn
 clear hLn
 go_wp2_with fail
 refine HLn.out.mono ?_
 rintro e w2 ⟨rfl,rfl⟩
 have hwr:wrap64 ((ns.length:Int)+1 - 1)=(ns.length:Int):=by unfold wrap64;omega
 have hgx:(ns++[x]).getD ns.length 0=x:=by simp
 have hU:=up_stop q gw gp _ vc' ws (ns++[x]) _ ns.length w2 hQ1 (by rw[hln];omega) (by rw[hln];omega) (by
  intro y hy
  rcases List.mem_append.1 hy with h7 | h7
  ·exact hb y h7
  ·rw[List.mem_singleton.1 h7];exact hxn) (by rw[hgx];exact hs)
 have HU:=hide hU
 clear hU hgx hs
 go_wp2_with fail
 refine HU.out.mono ?_
 rintro e w3 ⟨rfl,hb3⟩
 go_wp2_with fail
 go_end0
 exact⟨rfl,g',vc',hQ1.below hb3,hg1,hK1.trans (Keeps.of (F:=[]) hb3) (by simp)⟩
set_option maxRecDepth 100000 in
set_option maxHeartbeats 2000000 in
theorem return_raw(q gw gp:Nat)(va:Option Addr)(vc:Nat)(ws ns:List Nat)(pl:List Int)(x:Nat)(w:World)(h:Qu w q gw gp va vc ws (intL ns) pl)(hpl:pl.length=ws.length)(hxn:x < ws.length)(hl:ns.length<=900)(hb:∀ x∈ns,x < ws.length)
 (hp:pl.getD x 0=-1) (hs:(ns.length - 1) / 2=ns.length\/lessF ws x ((ns++[x]).getD ((ns.length - 1) / 2) 0)=false) :
 Calls Tryz.prog 115 #[.pointer (some ⟨q,0,none⟩),.int .i64 x] w fun e w'=>e=.returned (.tuple #[])/\∃ g' vc',Qu w' q gw gp (some ⟨g',0,none⟩) vc' ws (intL (ns++[x])) (pl.set x (ns.length:Nat))/\(g'∈blkOf va\/w.heap.size<=g')/\Keeps (q :: gp :: blkOf va) w w':=by
 have s2:w.cell? ⟨q,2,none⟩=some (.slice (some ⟨gp,0,none⟩) ws.length ws.length):=by rw[cell_of_row _ _ _ _ _ _ h.1];simp[hpl]
 have px:=h.2.2.1.cell (k:=x) (by rw[hpl];exact hxn)
 rw[hp]at px
 have HP:=hide (heapPush_raw q gw gp va vc ws ns pl x w h hpl hxn hl hb hs)
 clear hs hb hp hpl
 go_enter Tryz.func115,Tryz.ntmps115
 go_wp2_with fail
 refine HP.out.mono ?_
 rintro e w2 ⟨rfl,hQ2⟩
 go_wp2_with fail
 go_end0
 exact⟨rfl,hQ2⟩
def plTo(n k:Nat):List Int:=tab n (fun x=>if x < k then(x:Int)else 0)
theorem plTo_length(n k:Nat):(plTo n k).length=n:=tab_length _ _
theorem plTo_set{n k:Nat}(h:k < n):(((plTo n k).set k (-1)).set k (k:Nat))=plTo n (k+1):=by
 apply List.ext_getElem?
 intro i
 rw[List.set_set]
 by_cases hi:i < n
 ·by_cases e:i=k
  ·subst e
   rw[List.getElem?_set_self (by rw[plTo_length];exact hi)]
   simp[plTo,tab,hi]
  ·rw[List.getElem?_set_ne (fun e1=>e e1.symm)]
   simp only[plTo,tab,List.getElem?_map,List.getElem?_range,hi]
   simp
   have:i < k↔i < k+1:=by omega
   simp[this]
 ·rw[List.getElem?_eq_none (by simp[plTo_length];omega),List.getElem?_eq_none (by rw[plTo_length];omega)]
theorem plTo_all(n:Nat):plTo n n=plOf n (List.range n):=by
 apply List.ext_getElem?
 intro i
 by_cases hi:i < n
 ·have:(List.range n).idxOf i=i:=by
   have:=idx_get (ns:=List.range n) List.nodup_range (k:=i) (by simpa using hi)
   simpa[hi] using this
  simp[plTo,plOf,tab,hi,this]
 ·rw[List.getElem?_eq_none (by rw[plTo_length];omega),List.getElem?_eq_none (by rw[plOf_length];omega)]
theorem lessF_zero(n a b:Nat)(h:b<=a):lessF (List.replicate n 0) a b=false:=by
 have:∀ x,(List.replicate n 0).getD x 0=0:=fun x=>by
  rw[List.getD_eq_getElem?_getD,List.getElem?_replicate]
  split <;> rfl
 unfold lessF
 rw[this,this,if_pos (by decide +kernel),decide_eq_false_iff_not]
 omega
end Go.Proofs.YtjebhhoibofmfaaGreat
namespace Go.Proofs.YtjebhhoibofmfaaGreat
open Go.RowKit
theorem info_fx:(Tryz.prog.info? 200).map (fun i=>(i.zero,i.size,i.bytes))=some (some (.float .f32 0),1,4):=by kernel_rfl
theorem made_fl(n:Nat):madeCells #[.float .f32 0] n=(flCells (List.replicate n 0)).toArray:=by
 unfold madeCells flCells
 apply Array.ext
 ·simp
 ·intro i h1 h2
  simp[Nat.mod_one]
set_option maxRecDepth 100000 in
set_option maxHeartbeats 2000000 in
theorem qnew_any(n:Nat)(w:World)(hn:n<=100) :
 Calls Tryz.prog 96 #[.int .i64 n] w fun e w'=>∃ q F,e=.returned (.pointer (some ⟨q,0,none⟩))/\QQ w' q F (List.replicate n 0) (List.range n)/\(∀ k∈F,w.heap.size<=k)/\Below w.heap.size w w':=by
 obtain⟨i1,hi1,hy0,hy1,hy2⟩:=info_parts info_int
 obtain⟨i2,hi2,hx0,hx1,hx2⟩:=info_parts info_fx
 have k1:∀ w,(Instr.makeSlice 29 (.int .i64 n) (.int .i64 n)).run Tryz.prog w=.ok (.slice (some ⟨w.heap.size,0,none⟩) n n) (w.alloc (.cells (((zeros n).map (Value.int .i64)).toArray) 3)):=by
  intro w
  have:=run_make (P:=Tryz.prog) w 29 3 i1 (.int .i64 0) Tryz.underlying29 hi1 hy0 .i64 .i64 n n (by omega) (by omega) (by rw[hy2];omega) (by omega)
  rw[this,hy1]
  simp only[Int.toNat_natCast,Nat.mul_one]
  rw[<-made_zeros]
  rfl
 have k2:∀ w,(Instr.makeSlice 174 (.int .i64 n) (.int .i64 n)).run Tryz.prog w=.ok (.slice (some ⟨w.heap.size,0,none⟩) n n) (w.alloc (.cells ((flCells (List.replicate n 0)).toArray) 200)):=by
  intro w
  have:=run_make (P:=Tryz.prog) w 174 200 i2 (.float .f32 0) Tryz.underlying174 hi2 hx0 .i64 .i64 n n (by omega) (by omega) (by rw[hx2];omega) (by omega)
  rw[this,hx1]
  simp only[Int.toNat_natCast,Nat.mul_one]
  rw[<-made_fl]
  rfl
 generalize hz1:((zeros n).map (Value.int .i64)).toArray=z1 at k1
 generalize hz2:(flCells (List.replicate n 0)).toArray=z2 at k2
 clear hy0 hy1 hy2 hx0 hx1 hx2 hi1 hi2
 go_enter Tryz.func96,Tryz.ntmps96
 go_upto_region 1 with fail
 go_cut [3]from 3 to 11 (fun s3 wx=>∃ q gw gp,s3=.pointer (some ⟨q,0,none⟩)/\Qu wx q gw gp none 0 (List.replicate n 0) (intL []) (plTo n 0)/\w.heap.size<=q/\w.heap.size<=gw/\w.heap.size<=gp/\Below w.heap.size w wx)
 case first=>
  go_region
  all_goals (go_wp2_with fail;go_meet)
  ·have e2:plTo n 0=zeros n:=by simp[plTo,zeros]
   have hs:((w.alloc (.cells z2 200)).alloc (.cells z1 3)).heap.size=w.heap.size+1+1:=by simp
   refine⟨w.heap.size+1+1,w.heap.size,w.heap.size+1,rfl,⟨?_,?_,?_,⟨rfl,.inl ⟨rfl,rfl⟩⟩⟩,by omega,by omega,by omega,(((below_alloc w _).alloc (by simp) _).alloc (by simp;omega) _).drew⟩
   ·rw[List.length_replicate,plTo_length]
    exact heap_at_new _ _ _ hs.symm
   ·unfold FRow
    rw[hz2]
    exact heap_at_old _ _ (heap_at_old _ _ (heap_at_new _ _ _ rfl))
   ·unfold Row
    rw[e2,hz1]
    exact heap_at_old _ _ (heap_at_new _ _ _ (by simp))
  ·have e2:plTo n 0=zeros n:=by simp[plTo,zeros]
   have hs:((w.alloc (.cells z1 3)).alloc (.cells z2 200)).heap.size=w.heap.size+1+1:=by simp
   refine⟨w.heap.size+1+1,w.heap.size+1,w.heap.size,rfl,⟨?_,?_,?_,⟨rfl,.inl ⟨rfl,rfl⟩⟩⟩,by omega,by omega,by omega,(((below_alloc w _).alloc (by simp) _).alloc (by simp;omega) _).drew⟩
   ·rw[List.length_replicate,plTo_length]
    exact heap_at_new _ _ _ hs.symm
   ·unfold FRow
    rw[hz2]
    exact heap_at_old _ _ (heap_at_new _ _ _ (by simp))
   ·unfold Row
    rw[e2,hz1]
    exact heap_at_old _ _ (heap_at_old _ _ (heap_at_new _ _ _ rfl))
 case rest=>
  obtain⟨q,gw,gp,rfl,hQ,b1,b2,b3,hb⟩:=hcut
  clear k1 k2 hz1 hz2
  go_wp2_with fail
  go_loopg [13] n (fun g v wx=>∃ k:Nat,∃ va vc,g=n - k/\k<=n/\v=.int .i64 k/\Qu wx q gw gp va vc (List.replicate n 0) (intL (List.range k)) (plTo n k)/\(∀ b∈blkOf va,w.heap.size<=b)/\Below w.heap.size w wx)
  case atStart=>exact⟨0,none,0,rfl,by omega,rfl,hQ,by simp[blkOf],hb⟩
  case round=>
   obtain⟨k,va,vc,rfl,hk,rfl,hQk,hva,hbk⟩:=hrel
   by_cases hlt:k < n
   ·have s2:wr.cell? ⟨q,2,none⟩=some (.slice (some ⟨gp,0,none⟩) n n):=by rw[cell_of_row _ _ _ _ _ _ hQk.1];simp[plTo_length]
    have px:=hQk.2.2.1.cell (k:=k) (by rw[plTo_length];exact hlt)
    have fx:wr.frozen? ⟨gp,k,none⟩=false:=frozen_of_row _ _ _ _ _ hQk.2.2.1
    obtain⟨W1,hW1⟩:∃ W1,W1=wr.setCell ⟨gp,k,none⟩ (.int .i64 (-1)):=⟨_,rfl⟩
    have hK1:Keeps [gp] wr W1:=by rw[hW1];exact(Keeps.refl _ _).set (by simp) _
    have a1:q≠gp:=apart_ty hQk.1 hQk.2.2.1 (by decide)
    have a2:gw≠gp:=apart_ty hQk.2.1 hQk.2.2.1 (by decide)
    have hQ1:Qu W1 q gw gp va vc (List.replicate n 0) (intL (List.range k)) ((plTo n k).set k (-1)):=by
     refine⟨?_,hK1.row (by simpa using a2) hQk.2.1,?_,own_keep hQk.2.2.2 hK1 (fun b hb1=>?_)⟩
     ·rw[List.length_set];exact hK1.row (by simpa using a1) hQk.1
     ·rw[hW1];exact hQk.2.2.1.set k (-1)
     ·rcases hQk.2.2.2.2 with⟨h2,_⟩ | ⟨g,cap,cur,hv,hg,hh,r⟩
      ·injection h2 with h2;rw[h2]at hb1;simp[blkOf]at hb1
      ·injection hv with hv h7 h8
       rw[hv]at hb1
       simp[blkOf]at hb1
       simp
       omega
    have hr:=return_raw q gw gp va vc (List.replicate n 0) (List.range k) ((plTo n k).set k (-1)) k W1 hQ1 (by rw[List.length_set,plTo_length,List.length_replicate]) (by rw[List.length_replicate];exact hlt) (by rw[List.length_range];omega)
     (by intro x hx;rw[List.length_replicate];have:=List.mem_range.1 hx;omega)
     (by rw[List.getD_eq_getElem?_getD,List.getElem?_set_self (by rw[plTo_length];exact hlt)];rfl)
     (by
       right
       refine lessF_zero n _ _ ?_
       rw[List.length_range,<-List.range_succ,List.getD_eq_getElem?_getD,List.getElem?_range (by omega)]
       simp
       omega)
    rw[List.length_range,plTo_set hlt,<-List.range_succ]at hr
    have Hr:=hide hr
    have hb1:Below w.heap.size w W1:=hK1.below hbk hbk.size (by simpa using b3)
    clear hr hQ1 hQk
    generalize (plTo n k).getD k 0=z at *
    go_upto_region 6 with fail
    rw[<-hW1]
    clear hW1 s2 px fx
    go_wp2_with fail
    refine Hr.out.mono ?_
    rintro e w5 ⟨rfl,g',vc',hQ5,hg5,hK5⟩
    go_wp2_with fail
    go_roundg (n - (k+1))
    case measure=>omega
    case rel=>
     refine⟨k+1,_,vc',rfl,by omega,by go_num,hQ5,?_,hK5.below hb1 hb1.size ?_⟩
     ·intro b hb5
      simp[blkOf]at hb5
      subst hb5
      rcases hg5 with h7 | h7
      ·exact hva _ h7
      ·exact Nat.le_trans hb1.size h7
     ·intro b hb5
      rcases List.mem_cons.1 hb5 with rfl | hb5
      ·exact b1
      ·rcases List.mem_cons.1 hb5 with rfl | hb5
       ·exact b3
       ·exact hva _ hb5
   ·have Hkl:Hid (k=n):=by show k=n;omega
    go_wp2_with fail
    go_ret
    have e:=Hkl.out
    subst e
    rw[plTo_all]at hQk
    refine⟨q,q :: gw :: gp :: blkOf va,rfl,⟨fun x hx=>?_,gw,gp,va,vc,rfl,⟨by rw[List.length_replicate];exact hQk,List.nodup_range,fun x hx=>by rw[List.length_replicate];exact List.mem_range.1 hx⟩⟩,?_,hbk⟩
    ·rw[(List.mem_replicate.1 hx).2];exact Nat.zero_le _
    ·intro b hb5
     rcases List.mem_cons.1 hb5 with rfl | hb5
     ·exact b1
     ·rcases List.mem_cons.1 hb5 with rfl | hb5
      ·exact b2
      ·rcases List.mem_cons.1 hb5 with rfl | hb5
       ·exact b3
       ·exact hva _ hb5
def leaveL(ws ns:List Nat)(x:Nat):List Nat:=if x∈ns then(remL ws ns (ns.idxOf x)).take (ns.length - 1)else ns
def returnL(ws ns:List Nat)(x:Nat):List Nat:=if x∈ns then ns else pushL ws ns x
theorem QQ.next_none(q:Nat)(F ws:List Nat)(w:World)(h:QQ w q F ws []) :
 Calls Tryz.prog 98 #[.pointer (some ⟨q,0,none⟩)] w fun e w'=>e=.returned (.tuple #[.int .i64 0,.bool false])/\w'=w:=by
 obtain⟨hg,gw,gp,va,vc,rfl,h⟩:=h
 exact qnext_none q gw gp va vc ws w h
theorem QQ.next_some(q:Nat)(F ws ns:List Nat)(w:World)(h:QQ w q F ws ns)(hne:ns≠[])(hl:ns.length<=900) :
 Calls Tryz.prog 98 #[.pointer (some ⟨q,0,none⟩)] w fun e w'=>e=.returned (.tuple #[.int .i64 ((popL ws ns).getD (ns.length - 1) 0:Nat),.bool true])/\QQ w' q F ws ((popL ws ns).take (ns.length - 1))/\Keeps F w w':=by
 obtain⟨hg,gw,gp,va,vc,rfl,h⟩:=h
 obtain⟨g,rfl⟩:=h.addr hne
 refine(qnext_some q gw gp g vc ws ns w h hne hl).mono ?_
 rintro e w' ⟨rfl,h1,h2⟩
 exact⟨rfl,⟨hg,gw,gp,_,vc,rfl,h1⟩,h2.mono (by intro k hk;simp[blkOf]at *; rcases hk with rfl | rfl | rfl <;> simp)⟩
theorem QQ.leave(q:Nat)(F ws ns:List Nat)(x:Nat)(w:World)(h:QQ w q F ws ns)(hx:x < ws.length)(hl:ns.length<=900) :
 Calls Tryz.prog 121 #[.pointer (some ⟨q,0,none⟩),.int .i64 x] w fun e w'=>e=.returned (.tuple #[])/\QQ w' q F ws (leaveL ws ns x)/\Keeps F w w':=by
 obtain⟨hg,gw,gp,va,vc,rfl,h⟩:=h
 unfold leaveL
 by_cases hm:x∈ns
 ·rw[if_pos hm]
  obtain⟨g,rfl⟩:=h.addr (List.ne_nil_of_mem hm)
  refine(qleave_in q gw gp g vc ws ns x w h hm hl).mono ?_
  rintro e w' ⟨rfl,h1,h2⟩
  exact⟨rfl,⟨hg,gw,gp,_,vc,rfl,h1⟩,h2.mono (by intro k hk;simp[blkOf]at *; rcases hk with rfl | rfl | rfl <;> simp)⟩
 ·rw[if_neg hm]
  refine(qleave_out q gw gp va vc ws ns x w h hm hx).mono ?_
  rintro e w' ⟨rfl,rfl⟩
  exact⟨rfl,⟨hg,gw,gp,_,vc,rfl,h⟩,Keeps.refl _ _⟩
theorem QQ.return(q:Nat)(F ws ns:List Nat)(x:Nat)(w:World)(h:QQ w q F ws ns)(hx:x < ws.length)(hl:ns.length<=900) :
 Calls Tryz.prog 115 #[.pointer (some ⟨q,0,none⟩),.int .i64 x] w fun e w'=>e=.returned (.tuple #[])/\∃ F',QQ w' q F' ws (returnL ws ns x)/\Fresh F F' w/\Keeps F w w':=by
 obtain⟨hg,gw,gp,va,vc,rfl,h⟩:=h
 unfold returnL
 by_cases hm:x∈ns
 ·rw[if_pos hm]
  refine(qreturn_in q gw gp va vc ws ns x w h hm).mono ?_
  rintro e w' ⟨rfl,rfl⟩
  exact⟨rfl,_,⟨hg,gw,gp,_,vc,rfl,h⟩,Fresh.refl _ _,Keeps.refl _ _⟩
 ·rw[if_neg hm]
  refine(qreturn_out q gw gp va vc ws ns x w h hm hx hl).mono ?_
  rintro e w' ⟨rfl,g',vc',h1,h2,h3⟩
  refine⟨rfl,_,⟨hg,gw,gp,_,vc',rfl,h1⟩,?_,h3.mono (by intro k hk;simp at *; rcases hk with rfl | rfl | hk <;> simp[*])⟩
  intro k hk
  simp[blkOf]at hk
  rcases hk with rfl | rfl | rfl | rfl
  ·simp
  ·simp
  ·simp
  ·rcases h2 with h7 | h7
   ·left;simp[h7]
   ·exact .inr h7
end Go.Proofs.YtjebhhoibofmfaaGreat
