import Derived.Test.YtjebhhoibofmfaaGreatBMLx
import Derived.Test.YtjebhhoibofmfaaGreatBMSe
import Derived.DeepKeys4
import Derived.Maps.Own
import Derived.Maps.OwnOps
import Derived.Maps.OwnSet
import Derived.Maps.Views
import Derived.Maps.AppendAt
import Derived.Deep.RegionLaw
import Derived.Test.YtjebhhoibofmfaaGreatBMWy
namespace Go.Proofs.YtjebhhoibofmfaaGreat
open Go.RowKit
theorem info_step:(Tryz.prog.info? 36).map (fun i=>(i.zero,i.size,i.bytes))=some (some (.agg #[.int .i64 0,.int .i64 0,.int .i64 0,.int .i64 0,.int .i64 0]),5,40):=by kernel_rfl
def siCells(s:St):List Value:=[.int .i64 s.r,.int .i64 s.a,.int .i64 s.b,.int .i64 s.c,.int .i64 s.d]
def stCells(sts:List St):List Value:=sts.flatMap siCells
theorem stCells_snoc(sts:List St)(s:St):stCells (sts++[s])=stCells sts++siCells s:=by simp[stCells]
theorem stCells_length(sts:List St):(stCells sts).length=sts.length*5:=by
 induction sts with
 | nil=>rfl
 | cons t ts ih=>simp only[stCells,List.flatMap_cons,List.length_append,siCells,List.length_cons,List.length_nil]at *; omega
theorem stCells_get(sts:List St):∀ i,i < sts.length->(stCells sts)[i*5]?=some (.int .i64 (sts.getD i st0).r)/\(stCells sts)[i*5+1]?=some (.int .i64 (sts.getD i st0).a)/\(stCells sts)[i*5+2]?=some (.int .i64 (sts.getD i st0).b) /\
 (stCells sts)[i*5+3]?=some (.int .i64 (sts.getD i st0).c)/\(stCells sts)[i*5+4]?=some (.int .i64 (sts.getD i st0).d):=by
 induction sts with
 | nil=>intro i hi;simp at hi
 | cons t ts ih=>
   intro i hi
   cases i with
   | zero=>exact⟨rfl,rfl,rfl,rfl,rfl⟩
   | succ i=>
     have h:=ih i (by simpa using hi)
     have hc:stCells (t :: ts)=.int .i64 t.r :: .int .i64 t.a :: .int .i64 t.b :: .int .i64 t.c :: .int .i64 t.d :: stCells ts:=rfl
     rw[hc,show(i+1)*5=i*5+1+1+1+1+1 by omega]
     simpa using h
theorem stepsAt_of_own{w:World}{base:Nat}{a:Option Addr}{cap:Nat}{sts:List St}(h:w.ownsRow base 36 5 (.slice a sts.length cap) sts.length (stCells sts)):StepsAt w a sts:=by
 obtain⟨h1,h2 | ⟨g,cap',cur,hv,hb,hg,hn,hm,hc,hx⟩⟩:=h
 ·exact .inl (List.eq_nil_of_length_eq_zero h2.2)
 ·injection hv with hv
  refine .inr ⟨g,0,hv,fun i hi=>?_⟩
  have hc:=stCells_get sts i hi
  rw[<-hx]at hc
  simp only[List.getElem?_take]at hc
  rw[if_pos (by omega),if_pos (by omega),if_pos (by omega),if_pos (by omega),if_pos (by omega)]at hc
  refine⟨?_,?_,?_,?_,?_⟩ <;> rw[Nat.zero_add,cell_of_row w g _ cur 36 (0,0) hg]
  ·simpa using hc.1
  ·simpa using hc.2.1
  ·simpa using hc.2.2.1
  ·simpa using hc.2.2.2.1
  ·simpa using hc.2.2.2.2
theorem new_si(w:World)(s:St)(t:TypeId):∀ j u,(siCells s)[j]?=some u->(w.alloc (.cells #[.int .i64 s.r,.int .i64 s.a,.int .i64 s.b,.int .i64 s.c,.int .i64 s.d] t)).cell? ((⟨w.heap.size,0,none⟩:Addr).add j)=some u:=by
 intro j u hj
 match j,hj with
 | 0,hj=>simp[siCells]at hj;subst hj;simp[Addr.add]
 | 1,hj=>simp[siCells]at hj;subst hj;simp[Addr.add]
 | 2,hj=>simp[siCells]at hj;subst hj;simp[Addr.add]
 | 3,hj=>simp[siCells]at hj;subst hj;simp[Addr.add]
 | 4,hj=>simp[siCells]at hj;subst hj;simp[Addr.add]
 | j+5,hj=>simp[siCells]at hj
theorem siCells_one(s:St):∀ u∈siCells s,u.oneCell'=true:=by
 intro u hu
 simp[siCells]at hu
 rcases hu with rfl | rfl | rfl | rfl | rfl <;> rfl
end Go.Proofs.YtjebhhoibofmfaaGreat
namespace Go.Proofs.YtjebhhoibofmfaaGreat
open Go.RowKit Go.Maps
theorem laidOut:laidOutB Tryz.prog=true:=by kernel_rfl
theorem rowSet:(95:TypeId) < Tryz.prog.types.size:=of_decide_eq_true (by kernel_rfl)
theorem wideSet:(match Tryz.prog.underlying 95 with | some (.array _ _) | some (.struct _)=>true | _=>false)=true:=by kernel_rfl
set_option maxRecDepth 100000 in
theorem setKeyed:Keyed Tryz.prog 95:=Keyed.of_law (deep_law_laid laidOut (m:=3) (by omega) rowSet (by kernel_rfl) wideSet)
theorem zeroInt(w:World):(zeroValue 3).run Tryz.prog w=.ok (.int .i64 0) w:=by kernel_rfl
def setV(p:Nat×Nat):Value:=.agg #[.int .u64 p.1,.int .u64 p.2]
theorem keyTypeSet:Tryz.prog.keyType 95=true:=by kernel_rfl
theorem cellsSet:Tryz.prog.cellsOf 95=2:=by kernel_rfl
theorem cellsUx:Tryz.prog.cellsOf 93=1:=by kernel_rfl
theorem wf_u64{n:Nat}(h:n < 18446744073709551616):(Lit.int .u64 (n:Int)).wf=true:=by
 simp[Lit.wf,IntKind.min,IntKind.max,IntKind.signed,IntKind.bits]
 omega
theorem setKey{p:Nat×Nat}(h1:p.1 < 18446744073709551616)(h2:p.2 < 18446744073709551616):∃ kl,keyOf Tryz.prog 95 (setV p)=some kl:=by
 have hf:(setV p).formed Tryz.prog 95=true:=by simp[setV,Value.formed,Tryz.underlying95,cellsSet]
 refine⟨.string (keyBytes [.int .u64 p.1,.int .u64 p.2]),?_⟩
 unfold keyOf
 have hs:Tryz.prog.types.size=Tryz.prog.types.size:=rfl
 generalize hN:Tryz.prog.types.size=N at hs
 have hN2:∃ k,N=k+1:=⟨N - 1,by
  have:(95:Nat) < N:=by rw[<-hN];exact rowSet
  omega⟩
 obtain⟨k,rfl⟩:=hN2
 simp only[Tryz.underlying95,keyTypeSet,hf,Bool.and_self,if_true]
 simp[setV,Value.cells,Program.keyLits,Tryz.underlying95,Tryz.underlying93,cellsSet,cellsUx,wf_u64 h1,wf_u64 h2]
theorem step_append_own_at{P:Program}{ops:Array Oper}{o:Oper}{a:Act}{w:World}{K:Act->World->Prop}{Q:Exit->Act->World->Prop}{E:Prop}
 (hgd:o.guard=none) (s x:Operand) (t:TypeId) (ho:o.op=.call { callee:=.builtin .append,args:=#[s,x],argTypes:=#[t,t] })
 (base:Nat) (e:TypeId) (i:TypeInfo) (z:Value) (size bytes:Nat) (ht:P.underlying t=some (.slice e)) (hi:P.info? e=some i) (hz:i.zero=some z)
 (hsize:i.size=size) (hby:i.bytes=bytes) (hzs:z.cells.size=size) (hsz:0 < size)
 (v:Value) (n:Nat) (xs:List Value) (hs:a.eval s=v) (hown:w.ownsRow base e size v n xs)
 (ad:Addr) (m c:Nat) (news:List Value) (hx:a.eval x=.slice (some ad) m c) (hl:news.length=m*size) (hnews:∀ j u,news[j]?=some u->w.cell? (ad.add j)=some u) (h1:∀ u∈news,u.oneCell'=true)
 (h63:n+m<=maxLen) (hbytes:(n+m)*bytes<=140737488355328) (hbase:base<=w.heap.size)
 (h:∀ v' w',w'.ownsRow base e size v' (n+m) (xs++news)->w.grownBy w' v.ownBlock->(v'.ownBlock=v.ownBlock\/v'.ownBlock=some w.heap.size)->K (a.put o.dst v') w') :
 if Region.wanted o (yielded ops a.tmps)=true then Oper.wp P o a w K Q else E:=by
 have hw:Region.wanted o (yielded ops a.tmps)=true:=by simp[Region.wanted,hgd]
 rw[if_pos hw]
 obtain⟨v',w',hrun,r1,r2,_,r3⟩:=run_append_own_at (P:=P) w base t o.type e i z size bytes ht hi hz hsize hby hzs hsz v n xs hown ad m c news hl hnews h1 h63 hbytes hbase
 unfold Oper.wp
 simp[execOp,ho,resolve,invoke,builtin,hs,hx,hrun,Result.andThen]
 exact h v' w' r1 r2 r3
theorem app_keep{W w2:World}{o:Obj}{a:Option Addr}{n c:Nat}(hgr:(W.alloc o).grownBy w2 (Value.slice a n c).ownBlock):Keeps (blkOf a) W w2:=by
 refine⟨hgr.os,hgr.tape,hgr.output,Nat.le_trans (by simp) hgr.size,fun k hk hn=>?_⟩
 rw[hgr.block k (by simp;omega) (fun e=>hn ?_)]
 ·exact Below.heap_alloc _ _ _ hk
 ·cases a with
  | none=>simp[Value.ownBlock]at e
  | some a=>simp[Value.ownBlock]at e;simp[blkOf,e]
theorem app_keep'{W W1 w2:World}{a:Option Addr}{n c:Nat}(hb:Below W.heap.size W W1)(hgr:W1.grownBy w2 (Value.slice a n c).ownBlock):Keeps (blkOf a) W w2:=by
 refine⟨hgr.os.trans hb.os,hgr.tape.trans hb.tape,hgr.output.trans hb.output,Nat.le_trans hb.size hgr.size,fun k hk hn=>?_⟩
 rw[hgr.block k (Nat.lt_of_lt_of_le hk hb.size) (fun e=>hn ?_)]
 ·exact hb.block k hk
 ·cases a with
  | none=>simp[Value.ownBlock]at e
  | some a=>simp[Value.ownBlock]at e;simp[blkOf,e]
theorem app_addr'{W W1 w2:World}{a:Option Addr}{n c base size:Nat}{e:TypeId}{v':Value}{xs:List Value}(hs:W.heap.size<=W1.heap.size)(hown:w2.ownsRow base e size v' (n+1) xs)(hat:v'.ownBlock=(Value.slice a n c).ownBlock\/v'.ownBlock=some W1.heap.size) :
 ∃ g c',v'=.slice (some ⟨g,0,none⟩) (n+1) c'/\(g∈blkOf a\/W.heap.size<=g):=by
 rcases hown.2 with⟨_,hn⟩ | ⟨g',cap,cur',hv,hb,hg',k1,k2,k3,k4⟩
 ·omega
 ·refine⟨g',cap,hv,?_⟩
  have hob:v'.ownBlock=some g':=by rw[hv];rfl
  rcases hat with h7 | h7
  ·left
   rw[hob]at h7
   cases a with
   | none=>simp[Value.ownBlock]at h7
   | some a=>simp[Value.ownBlock]at h7;simp[blkOf,h7]
  ·right
   rw[hob]at h7
   injection h7 with h7
   rw[h7]
   exact hs
theorem own_not{w:World}{base size n c:Nat}{e:TypeId}{a:Option Addr}{xs:List Value}(h:w.ownsRow base e size (.slice a n c) n xs){k:Nat}{o:Obj}(hk:w.heap[k]?=some o)(hne:∀ cur,o≠.cells cur e (0,0)):k ∉ blkOf a:=by
 intro hm
 rcases h.2 with⟨hv,_⟩ | ⟨g,cap,cur,hv,hb,hg,_⟩
 ·injection hv with hv _ _
  subst hv
  simp[blkOf]at hm
 ·injection hv with hv _ _
  subst hv
  simp[blkOf]at hm
  subst hm
  rw[hg]at hk
  injection hk with hk
  exact hne cur hk.symm
theorem own_two{w:World}{base base' size size' n n' c c':Nat}{e e':TypeId}{a a':Option Addr}{xs xs':List Value}(h:w.ownsRow base e size (.slice a n c) n xs)(h':w.ownsRow base' e' size' (.slice a' n' c') n' xs')(hne:e≠e'):∀ b∈blkOf a',b ∉ blkOf a:=by
 intro b hb
 rcases h'.2 with⟨hv,_⟩ | ⟨g,cap,cur,hv,_,hg,_⟩
 ·injection hv with hv _ _
  subst hv
  simp[blkOf]at hb
 ·injection hv with hv _ _
  subst hv
  simp[blkOf]at hb
  subst hb
  exact own_not h hg (fun cur e1=>by injection e1 with _ e1;exact hne e1.symm)
end Go.Proofs.YtjebhhoibofmfaaGreat
namespace Go.Proofs.YtjebhhoibofmfaaGreat
open Go.RowKit Go.Maps
def MapsTo(D:DataW Unit)(ss:List (Nat×Nat)):Prop:=∀ p:Nat×Nat,p.1 < 18446744073709551616->p.2 < 18446744073709551616->∀ kl,keyOf Tryz.prog 95 (setV p)=some kl ->
 Maps.has D kl=decide (p∈ss)/\(p∈ss->∀ z,D.atKey kl z=.lit (.int .i64 (ss.idxOf p:Nat)))
theorem MapsTo.nil:MapsTo (.map []) []:=fun p _ _ kl _=>⟨by simp[Maps.has_eq],fun h=>by cases h⟩
theorem setV_inj{p q:Nat×Nat}(h:setV p=setV q):p=q:=by
 obtain⟨a,b⟩:=p
 obtain⟨c,d⟩:=q
 simp[setV]at h
 rw[Int.ofNat.inj h.1,Int.ofNat.inj h.2]
theorem MapsTo.snoc{D:DataW Unit}{ss:List (Nat×Nat)}(h:MapsTo D ss)(hD:IsMap D){p:Nat×Nat}{kl:Lit}(hk:keyOf Tryz.prog 95 (setV p)=some kl)(hn:p ∉ ss) :
 MapsTo (D.put kl (.lit (.int .i64 (ss.length:Nat)))) (ss++[p]):=by
 intro q q1 q2 kq hq
 by_cases e:q=p
 ·subst e
  rw[hk]at hq
  injection hq with hq
  subst hq
  refine⟨by rw[has_put_same hD (setKeyed.key hk)];simp,fun _ z=>?_⟩
  rw[atKey_put_same hD (setKeyed.key hk),List.idxOf_append,if_neg hn]
  simp
 ·have hne:kq≠kl:=fun e2=>by
   subst e2
   exact e (setV_inj (setKeyed.inj hq hk))
  obtain⟨h1,h2⟩:=h q q1 q2 kq hq
  refine⟨by rw[has_put_other hne,h1];simp[e],fun hm z=>?_⟩
  have hm':q∈ss:=by simpa[e] using hm
  rw[atKey_put_other hne,h2 hm',List.idxOf_append,if_pos hm']
def PP(w:World)(m:Nat)(F:List Nat)(tv cv:Value)(P:Pf):Prop:=
 (P.sts.length=P.ss.length/\P.ss.Nodup/\∀ p∈P.ss,p.1 < 18446744073709551616/\p.2 < 18446744073709551616) /\
 ∃ la lc va vc mb D,F=m :: mb :: (blkOf la++blkOf va) /\
  w.heap[m]?=some (.cells #[tv,cv,.slice la P.sts.length lc,.slice va P.ss.length vc,.map (some mb)] 165 (0,0)) /\
  w.ownsRow 0 36 5 (.slice la P.sts.length lc) P.sts.length (stCells P.sts)/\w.ownsRow 0 95 2 (.slice va P.ss.length vc) P.ss.length (ssCells P.ss) /\
  w.ownsMap Tryz.prog 95 (plainElem (H:=Unit) Tryz.prog 3) mb P.ss.length D/\MapsTo D P.ss
theorem PP.keep{F G:List Nat}{w w':World}{m:Nat}{tv cv:Value}{P:Pf}(h:PP w m F tv cv P)(hk:Keeps G w w')(hn:∀ b∈F,b ∉ G):PP w' m F tv cv P:=by
 obtain⟨h0,la,lc,va,vc,mb,D,rfl,h1,h2,h3,⟨es,ck,h4,h5⟩,h6⟩:=h
 exact⟨h0,la,lc,va,vc,mb,D,rfl,hk.row (hn m (by simp)) h1,own_keep h2 hk (fun b hb=>hn b (by simp[hb])),own_keep h3 hk (fun b hb=>hn b (by simp[hb])),⟨es,ck,hk.row (hn mb (by simp)) h4,h5⟩,h6⟩
theorem keeps_below{w w':World}(h:Below w.heap.size w w'):Keeps [] w w':=⟨h.os,h.tape,h.output,h.size,fun k hk _=>h.block k hk⟩
theorem keep8{W W':World}{a b:Nat}{x0 x1 x2 x3 x4 x5 x6 x7:Value}{o:Nat} (h:W.cell? ⟨a,0,none⟩=some x0/\W.cell? ⟨a,1,none⟩=some x1/\W.cell? ⟨a,2,none⟩=some x2/\W.cell? ⟨a,3,none⟩=some x3/\W.cell? ⟨a,4,none⟩=some x4 /\
 W.cell? ⟨b,0,none⟩=some x5/\W.cell? ⟨b,1,none⟩=some x6/\W.cell? ⟨b,o,none⟩=some x7) (hb:Below W.heap.size W W') :
 W'.cell? ⟨a,0,none⟩=some x0/\W'.cell? ⟨a,1,none⟩=some x1/\W'.cell? ⟨a,2,none⟩=some x2/\W'.cell? ⟨a,3,none⟩=some x3/\W'.cell? ⟨a,4,none⟩=some x4 /\
  W'.cell? ⟨b,0,none⟩=some x5/\W'.cell? ⟨b,1,none⟩=some x6/\W'.cell? ⟨b,o,none⟩=some x7:=by
 obtain⟨h0,h1,h2,h3,h4,h5,h6,h7⟩:=h
 exact⟨cell_below hb h0,cell_below hb h1,cell_below hb h2,cell_below hb h3,cell_below hb h4,cell_below hb h5,cell_below hb h6,cell_below hb h7⟩
theorem below_drew1{W w':World}(hb:Below W.drew.heap.size W.drew w'):Below W.heap.size W w':=(Below.drew (Below.refl _ _)).trans hb
theorem zset{W w':World}(hb:Below (W.drew.alloc (.cells #[.int .u64 0,.int .u64 0] 95)).heap.size (W.drew.alloc (.cells #[.int .u64 0,.int .u64 0] 95)) w') :
 w'.cell? ⟨W.heap.size,0,none⟩=some (.int .u64 0)/\w'.cell? ⟨W.heap.size,1,none⟩=some (.int .u64 0)/\w'.frozen? ⟨W.heap.size,0,none⟩=false/\w'.frozen? ⟨W.heap.size,1,none⟩=false/\Below W.heap.size W w':=by
 have h0:(W.drew.alloc (.cells #[.int .u64 0,.int .u64 0] 95)).cell? ⟨W.heap.size,0,none⟩=some (.int .u64 0):=alloc_new rfl rfl
 have h1:(W.drew.alloc (.cells #[.int .u64 0,.int .u64 0] 95)).cell? ⟨W.heap.size,1,none⟩=some (.int .u64 0):=alloc_new rfl rfl
 have f0:(W.drew.alloc (.cells #[.int .u64 0,.int .u64 0] 95)).frozen? ⟨W.heap.size,0,none⟩=false:=(fun V:World=>(by simp:(V.alloc (.cells #[.int .u64 0,.int .u64 0] 95)).frozen? ⟨V.heap.size,0,none⟩=false)) W.drew
 have f1:(W.drew.alloc (.cells #[.int .u64 0,.int .u64 0] 95)).frozen? ⟨W.heap.size,1,none⟩=false:=(fun V:World=>(by simp:(V.alloc (.cells #[.int .u64 0,.int .u64 0] 95)).frozen? ⟨V.heap.size,1,none⟩=false)) W.drew
 have hl:=block_lt h0
 exact⟨cell_below hb h0,cell_below hb h1,frozen_below hb hl f0,frozen_below hb hl f1,(Below.alloc (Below.drew (Below.refl _ _)) (Nat.le_refl _) _).trans (hb.mono (by simp))⟩
theorem wf_i64{n:Nat}(h:n < 9223372036854775808):(Lit.int .i64 (n:Int)).wf=true:=by
 simp[Lit.wf,IntKind.min,IntKind.max,IntKind.signed,IntKind.bits]
 omega
theorem zero_elem:plainElem (H:=Unit) Tryz.prog 3 (.int .i64 0)=some (.lit (.int .i64 0),[]):=plainElem_int Tryz.underlying3 (wf_i64 (n:=0) (by omega))
set_option maxRecDepth 100000 in
theorem map_look{w:World}{mb n:Nat}{D:DataW Unit}{ss:List (Nat×Nat)}{q:Nat×Nat}(h:w.ownsMap Tryz.prog 95 (plainElem (H:=Unit) Tryz.prog 3) mb n D)(hD:MapsTo D ss)(h1:q.1 < 18446744073709551616)(h2:q.2 < 18446744073709551616) :
 (Instr.lookup 163 (.map (some mb)) (.agg #[.int .u64 q.1,.int .u64 q.2]) true).run Tryz.prog w=.ok (.tuple #[.int .i64 (if q∈ss then(ss.idxOf q:Nat)else(0:Nat):Nat),.bool (decide (q∈ss))]) w:=by
 obtain⟨kl,hk⟩:=setKey h1 h2
 obtain⟨d1,d2⟩:=hD q h1 h2 kl hk
 obtain⟨v,ps,hrun,hv⟩:=h.look_ok setKeyed Tryz.underlying163 (zeroInt w) zero_elem hk
 obtain⟨a,rfl,e,_⟩:=plainElem_int_inv Tryz.underlying3 hv
 rw[d1]at hrun
 rw[show(Value.agg #[.int .u64 q.1,.int .u64 q.2])=setV q from rfl,hrun]
 injection e with e _
 by_cases hm:q∈ss
 ·rw[d2 hm]at e
  injection e with e
  injection e with _ e
  rw[if_pos hm,<-e]
 ·have hf:Maps.has D kl=false:=by rw[d1];simp[hm]
  rw[atKey_of_not_has hf]at e
  injection e with e
  injection e with _ e
  rw[if_neg hm,<-e]
  rfl
theorem map_heap{w w':World}{mb n:Nat}{D:DataW Unit}(h:w.ownsMap Tryz.prog 95 (plainElem (H:=Unit) Tryz.prog 3) mb n D)(e:w'.heap[mb]?=w.heap[mb]?):w'.ownsMap Tryz.prog 95 (plainElem (H:=Unit) Tryz.prog 3) mb n D:=by
 obtain⟨es,ck,h1,h2⟩:=h
 exact⟨es,ck,e.trans h1,h2⟩
theorem map_below{w w':World}{mb n:Nat}{D:DataW Unit}(h:w.ownsMap Tryz.prog 95 (plainElem (H:=Unit) Tryz.prog 3) mb n D)(hb:Below w.heap.size w w'):w'.ownsMap Tryz.prog 95 (plainElem (H:=Unit) Tryz.prog 3) mb n D:=
 map_heap h (hb.block mb h.lt)
theorem addP_inv{E:Env}{P P':Pf}{s:St}{k:Nat}(h:addP E P s=some (k,P')) :
 E.ok P.ss s=true/\((E.go P.ss s∈P.ss/\k=P.ss.idxOf (E.go P.ss s)/\P'=P)\/(E.go P.ss s ∉ P.ss/\P.ss.length < stepsMax/\k=P.ss.length/\P'=⟨P.sts++[s],P.ss++[E.go P.ss s]⟩)):=by
 unfold addP at h
 by_cases h1:E.ok P.ss s=true
 ·rw[if_pos h1]at h
  refine⟨h1,?_⟩
  by_cases h2:E.go P.ss s∈P.ss
  ·rw[if_pos h2]at h
   injection h with h
   injection h with h3 h4
   exact .inl ⟨h2,h3.symm,h4.symm⟩
  ·rw[if_neg h2]at h
   by_cases h5:P.ss.length < stepsMax
   ·rw[if_pos h5]at h
    injection h with h
    injection h with h3 h4
    exact .inr ⟨h2,h5,h3.symm,h4.symm⟩
   ·rw[if_neg h5]at h;cases h
 ·rw[if_neg h1]at h;cases h
set_option maxRecDepth 100000 in
set_option maxHeartbeats 4000000 in
theorem add_any(hX:CutHolds){E:Env}{ts:List Tm}{cs:List Cl}(hE:EnvOf E ts cs)(m:Nat)(F:List Nat)(ta sa:Option Addr)(tc sc:Nat)(P P':Pf)(s:St)(k:Nat)(w:World)(ht:TermsAt w ta ts)(hcs:ClausesAt w sa cs)
 (hts:termsB ts=true) (hcl:clausesB ts.length cs=true) (hP:PP w m F (.slice ta ts.length tc) (.slice sa cs.length sc) P) (hadd:addP E P s=some (k,P')) :
 Calls Tryz.prog 114 #[.pointer (some ⟨m,0,none⟩),.agg #[.int .i64 s.r,.int .i64 s.a,.int .i64 s.b,.int .i64 s.c,.int .i64 s.d]] w fun e w'=>
  e=.returned (.int .i64 k)/\∃ F',PP w' m F' (.slice ta ts.length tc) (.slice sa cs.length sc) P'/\Fresh F F' w/\Keeps F w w':=by
 obtain⟨hok,hcase⟩:=addP_inv hadd
 rw[hE.ok]at hok
 rw[hE.go]at hcase
 obtain⟨⟨hl1,hnd,h64⟩,la,lc,va,vc,mb,D,hF,hm,hla,hva,hmap,hD⟩:=hP
 have hq64:=next_lt hts hcl h64 hok
 obtain⟨W,hW⟩:∃ W,W=w.alloc (.cells #[.int .i64 s.r,.int .i64 s.a,.int .i64 s.b,.int .i64 s.c,.int .i64 s.d] 36):=⟨_,rfl⟩
 have hbW:Below w.heap.size w W:=by rw[hW];exact below_alloc _ _
 have b0:W.cell? ⟨w.heap.size,0,none⟩=some (.int .i64 s.r):=by rw[hW];simp
 have b1:W.cell? ⟨w.heap.size,1,none⟩=some (.int .i64 s.a):=by rw[hW];simp
 have b2:W.cell? ⟨w.heap.size,2,none⟩=some (.int .i64 s.b):=by rw[hW];simp
 have b3:W.cell? ⟨w.heap.size,3,none⟩=some (.int .i64 s.c):=by rw[hW];simp
 have b4:W.cell? ⟨w.heap.size,4,none⟩=some (.int .i64 s.d):=by rw[hW];simp
 have hmW:W.heap[m]?=some (.cells #[.slice ta ts.length tc,.slice sa cs.length sc,.slice la P.sts.length lc,.slice va P.ss.length vc,.map (some mb)] 165 (0,0)):=(keeps_below hbW).row (by simp) hm
 have c0:W.cell? ⟨m,0,none⟩=some (.slice ta ts.length tc):=by rw[cell_of_row _ _ _ _ _ _ hmW];rfl
 have c1:W.cell? ⟨m,1,none⟩=some (.slice sa cs.length sc):=by rw[cell_of_row _ _ _ _ _ _ hmW];rfl
 have c3:W.cell? ⟨m,3,none⟩=some (.slice va P.ss.length vc):=by rw[cell_of_row _ _ _ _ _ _ hmW];rfl
 have hn0:∀ W',Below W.heap.size W W'->Calls Tryz.prog 88 #[.agg #[.slice ta ts.length tc,.slice sa cs.length sc],.slice va P.ss.length vc,.agg #[.int .i64 s.r,.int .i64 s.a,.int .i64 s.b,.int .i64 s.c,.int .i64 s.d]] W' fun e w'=>
  e=.returned (.tuple #[.agg #[.int .u64 (nextS ts cs P.ss s).1,.int .u64 (nextS ts cs P.ss s).2],.bool true])/\Below W'.heap.size W' w':=by
  intro W' hb'
  have hb2:=hbW.trans (hb'.mono hbW.size)
  have:=next_step hX ta sa va tc sc vc ts cs P.ss s W' (ht.below hb2) (hcs.below hb2) ((setsAt_of_own hva).below hb2) h64 hts hcl
  rw[hok,yes_yes]at this
  exact this
 have Hn:=hide hn0
 have HmW:=hide hmW
 have hltm:=block_lt c0
 have HN:=hide hnd
 have H64:=hide h64
 have Hq64:=hide hq64
 have Hla:=hide hla
 have Hva:=hide hva
 have Hmap:=hide hmap
 have HD:=hide hD
 have HbW:=hide hbW
 have HF:=hide hF
 have Hcase:=hide hcase
 have Hl1:=hide hl1
 have hszW:w.heap.size < W.heap.size:=block_lt b0
 clear hadd hn0 hmW hnd h64 hq64 hla hva hmap hD hbW hF hcase hl1 hm hok ht hcs
 generalize hq:nextS ts cs P.ss s=q at *
 have Hq:=hide hq
 clear hq
 go_enter Tryz.func114,Tryz.ntmps114
 go_upto_region 1 with fail
 rw[<-hW]
 clear hW
 go_cut [5]from 5 to 22 (fun s5 wx=>∃ b,s5=.pointer (some ⟨b,0,none⟩)/\wx.cell? ⟨b,0,none⟩=some (.int .u64 q.1)/\wx.cell? ⟨b,1,none⟩=some (.int .u64 q.2)/\W.heap.size<=b/\Below W.heap.size W wx)
 case first=>
  have e0:=World.new_ne W _ b0
  have e1:=World.new_ne W _ c0
  go_region_held3 (fun w'=>w'.cell? ⟨w.heap.size,0,none⟩=some (.int .i64 s.r)/\w'.cell? ⟨w.heap.size,1,none⟩=some (.int .i64 s.a)/\w'.cell? ⟨w.heap.size,2,none⟩=some (.int .i64 s.b)/\w'.cell? ⟨w.heap.size,3,none⟩=some (.int .i64 s.c)/\w'.cell? ⟨w.heap.size,4,none⟩=some (.int .i64 s.d) /\
   w'.cell? ⟨m,0,none⟩=some (.slice ta ts.length tc)/\w'.cell? ⟨m,1,none⟩=some (.slice sa cs.length sc)/\w'.cell? ⟨m,3,none⟩=some (.slice va P.ss.length vc)) (first | exact hS | exact keep8 hS (below_alloc _ _) | go_keep)
   (first
     | (go_at_call 88
        refine(Hn.out _ (by(repeat (first | exact Below.refl _ _ | refine Below.drew ?_ | refine Below.alloc ?_ (by simp) _)))).mono ?_
        rintro e w' ⟨rfl,hb⟩
        have hS:=keep8 (by assumption) hb
        first
         | (have hz:=zset hb;obtain⟨z0,z1,zf0,zf1,hbq⟩:=hz)
         | (have hbq:=below_drew1 hb)))
  all_goals
   go_wp2_with fail
   go_meet
   first
    | exact⟨_,rfl,alloc_new' rfl,alloc_new' rfl,hbq.size,hbq.trans ((below_alloc w' _).mono hbq.size)⟩
    | exact⟨_,rfl,set_other (.inr (by decide)) (set_same z0),set_same (set_other (.inr (by decide)) z1),Nat.le_refl _,(hbq.setCell (p:=⟨_,0,none⟩) (Nat.le_refl _) _).setCell (p:=⟨_,1,none⟩) (Nat.le_refl _) _⟩
 case rest=>
  obtain⟨b,rfl,d0,d1,hbB,hbx⟩:=hcut
  have hbw:=HbW.out.trans (hbx.mono HbW.out.size)
  have hm1:=(keeps_below hbx).row (by simp) HmW.out
  have hmap1:=map_below Hmap.out hbw
  have hlk:=fun j=>map_look (map_heap (w':=wc.drewN j) hmap1 (by simp)) HD.out Hq64.out.1 Hq64.out.2
  have c4:wc.cell? ⟨m,4,none⟩=some (.map (some mb)):=by rw[cell_of_row _ _ _ _ _ _ hm1];rfl
  have c2:wc.cell? ⟨m,2,none⟩=some (.slice la P.sts.length lc):=by rw[cell_of_row _ _ _ _ _ _ hm1];rfl
  have c3':wc.cell? ⟨m,3,none⟩=some (.slice va P.ss.length vc):=by rw[cell_of_row _ _ _ _ _ _ hm1];rfl
  have Hm1:=hide hm1
  have Hmap1:=hide hmap1
  have Hbw:=hide hbw
  have Hb:=hide (And.intro b0 (And.intro b1 (And.intro b2 (And.intro b3 b4))))
  clear hm1 hmap1 hbw b0 b1 b2 b3 b4 c0 c1 c3
  by_cases hin:q∈P.ss
  ·rw[if_pos hin]at hlk
   have hdec:decide (q∈P.ss)=true:=by simp[hin]
   rw[hdec]at hlk
   have Hin:=hide hin
   clear hdec hin
   generalize hix:P.ss.idxOf q=ix at *
   have Hix:=hide hix
   clear hix
   go_upto_region 2 with fail
   go_quiet (fail)
   go_wp2_with fail
   go_ret
   rcases Hcase.out with⟨_,e1,e2⟩ | ⟨e1,_⟩
   ·rw[e1,e2]
    have hbn:=below_drewN Hbw.out nq
    exact⟨rfl,F,⟨⟨Hl1.out,HN.out,H64.out⟩,la,lc,va,vc,mb,D,HF.out,Hm1.out,own_below Hla.out hbn,own_below Hva.out hbn,Hmap1.out,HD.out⟩,Fresh.refl _ _,Keeps.of hbn⟩
   ·exact absurd Hin.out e1
  ·rw[if_neg hin]at hlk
   have hdec:decide (q∈P.ss)=false:=by simp[hin]
   rw[hdec]at hlk
   have Hin:=hide hin
   clear hdec hin
   obtain⟨i1,hi1,hy0,hy1,hy2⟩:=info_parts info_step
   obtain⟨i2,hi2,hx0,hx1,hx2⟩:=info_parts info_set
   rcases Hcase.out with⟨e1,_⟩ | ⟨_,hmax,e3,e4⟩
   ·exact absurd e1 Hin.out
   have HP':=hide e4
   have Hk:=hide e3
   unfold stepsMax at hmax
   have hlen:P.sts.length < 3518437208883:=by rw[Hl1.out];exact hmax
   clear e3 e4 Hcase
   go_upto_region 2 with fail
   go_quiet (fail)
   go_upto_region 6 with fail
   generalize hV:wc.drewN _=V
   have hbV:Below wc.heap.size wc V:=by rw[<-hV];exact below_drewN (Below.refl _ _) _
   have hbwV:=Hbw.out.trans (hbV.mono Hbw.out.size)
   have hmV:=(keeps_below hbV).row (by simp) Hm1.out
   have v0:V.cell? ⟨b,0,none⟩=some (.int .u64 q.1):=cell_below hbV d0
   have v1:V.cell? ⟨b,1,none⟩=some (.int .u64 q.2):=cell_below hbV d1
   have hlaV:=own_below Hla.out hbwV
   have hvaV:=own_below Hva.out hbwV
   have hmapV:=map_below Hmap.out hbwV
   have u2:V.cell? ⟨m,2,none⟩=some (.slice la P.sts.length lc):=by rw[cell_of_row _ _ _ _ _ _ hmV];rfl
   have hbWV:=hbx.trans (hbV.mono hbx.size)
   obtain⟨x0,x1,x2,x3,x4⟩:=Hb.out
   replace x0:=cell_below hbWV x0
   replace x1:=cell_below hbWV x1
   replace x2:=cell_below hbWV x2
   replace x3:=cell_below hbWV x3
   replace x4:=cell_below hbWV x4
   have nm1:=own_not hlaV hmV (fun cur e=>by injection e with _ e;exact absurd e (by decide))
   have Hrow:=hide (And.intro hmV (And.intro hlaV (And.intro hvaV hmapV)))
   have HbV:=hide (And.intro hbwV hbWV)
   clear hmV hlaV hvaV hmapV hbwV hbWV hbV hV c2 c3' c4 hlk Hn HmW Hmap1 Hm1 Hbw HbW
   have e2:=alloc_old (o:=.cells #[.int .i64 s.r,.int .i64 s.a,.int .i64 s.b,.int .i64 s.c,.int .i64 s.d] 36) u2
   go_cut [39]from 39 to 48 (fun _ wx=>∃ g gc,wx.heap[m]?=some (.cells #[.slice ta ts.length tc,.slice sa cs.length sc,.slice (some ⟨g,0,none⟩) (P.sts.length+1) gc,.slice va P.ss.length vc,.map (some mb)] 165 (0,0)) /\
    wx.ownsRow 0 36 5 (.slice (some ⟨g,0,none⟩) (P.sts.length+1) gc) (P.sts.length+1) (stCells P.sts++siCells s)/\Keeps (m :: blkOf la) V wx/\(g∈blkOf la\/V.heap.size<=g))
   case first=>
    go_region_law (refine step_append_own_at rfl (.tmp 43) (.tmp 45) 26 rfl 0 36 i1 (.agg #[.int .i64 0,.int .i64 0,.int .i64 0,.int .i64 0,.int .i64 0]) 5 40 Tryz.underlying26 hi1 hy0 hy1 hy2 rfl (by decide) (.slice la P.sts.length lc) P.sts.length (stCells P.sts) (by simp[Act.eval]) (Hrow.out.2.1.alloc _) ⟨V.heap.size,0,none⟩ 1 1 (siCells s) (by simp[Act.eval]) rfl (new_si V s _) (siCells_one _) (by unfold maxLen;omega) (by omega) (by simp) ?_;intro v2 w2 hown2 hgrow2 hat2;obtain⟨g,gc,rfl,hg⟩:=app_addr' (W:=V) (by simp) hown2 hat2;have hk2:=app_keep' (W:=V) (below_alloc _ _).drew hgrow2;have hm2:=hk2.row nm1 Hrow.out.1;have y1:w2.cell? ⟨m,2,none⟩=some (.slice la P.sts.length lc):=(cell_of_row _ _ _ _ _ _ hm2).trans rfl;have y2:w2.frozen? ⟨m,2,none⟩=false:=frozen_of_row _ _ _ _ _ hm2)
    all_goals
     go_wp2_with fail
     go_meet
     have ng:g≠m:=fun e=>own_not hown2 hm2 (fun cur e=>by injection e with _ e;exact absurd e (by decide)) (by simp[blkOf,e])
     exact⟨g,gc,(heap_setCell_same _ _ _ _ _ _ hm2).trans rfl,hown2.kept (set_grown w2 m 2 _) (.inr (fun e=>ng (by injection e))),(hk2.mono (fun k h=>List.mem_cons_of_mem _ h)).set (by simp) _,hg⟩
   case rest=>
   obtain⟨g,gc,hm6,hla6,hk6,hg⟩:=hcut
   clear x0 x1 x2 x3 x4 e2 nm1
   generalize wc=W6 at *
   have nva:∀ k∈blkOf va,k ∉ m :: blkOf la:=by
    intro k hk h7
    rcases List.mem_cons.1 h7 with h7 | h7
    ·exact own_not Hrow.out.2.2.1 Hrow.out.1 (fun cur e=>by injection e with _ e;exact absurd e (by decide)) (h7 ▸ hk)
    ·exact own_two Hrow.out.2.1 Hrow.out.2.2.1 (by decide) k hk h7
   have hva6:=own_keep Hrow.out.2.2.1 hk6 nva
   have nmb:mb ∉ m :: blkOf la:=by
    intro h7
    obtain⟨es,ck,h8,_⟩:=Hrow.out.2.2.2
    rcases List.mem_cons.1 h7 with h7 | h7
    ·rw[h7,Hrow.out.1]at h8;injection h8 with h8;cases h8
    ·exact own_not Hrow.out.2.1 h8 (fun cur e=>by cases e) h7
   have hmap6:=map_heap Hrow.out.2.2.2 (hk6.block mb Hrow.out.2.2.2.lt nmb)
   have nb:b ∉ m :: blkOf la:=by
    intro h7
    rcases List.mem_cons.1 h7 with h7 | h7
    ·omega
    ·have:=(Hla.out.lt b (by cases la with
      | none=>simp[blkOf]at h7
      | some a=>simp[blkOf]at h7;simp[Value.ownBlock,h7])).2
     omega
   have p0:=hk6.cell nb v0
   have p1:=hk6.cell nb v1
   have p3:W6.cell? ⟨m,3,none⟩=some (.slice va P.ss.length vc):=by rw[cell_of_row _ _ _ _ _ _ hm6];rfl
   have nm6:=own_not hva6 hm6 (fun cur e=>by injection e with _ e;exact absurd e (by decide))
   have Hrow6:=hide (And.intro hm6 (And.intro hla6 (And.intro hva6 hmap6)))
   have Hk6:=hide hk6
   have Hg:=hide hg
   clear hm6 hla6 hva6 hmap6 hk6 v0 v1 u2 hg
   go_upto_region 7 with fail
   have e4:=alloc_old (o:=.cells #[.int .u64 q.1,.int .u64 q.2] 95) p3
   go_cut [49]from 49 to 58 (fun _ wx=>∃ h hc,wx.heap[m]?=some (.cells #[.slice ta ts.length tc,.slice sa cs.length sc,.slice (some ⟨g,0,none⟩) (P.sts.length+1) gc,.slice (some ⟨h,0,none⟩) (P.ss.length+1) hc,.map (some mb)] 165 (0,0)) /\
    wx.ownsRow 0 95 2 (.slice (some ⟨h,0,none⟩) (P.ss.length+1) hc) (P.ss.length+1) (ssCells P.ss++seCells q)/\Keeps (m :: blkOf va) W6 wx/\(h∈blkOf va\/W6.heap.size<=h))
   case first=>
    go_region_law (refine step_append_own_at rfl (.tmp 53) (.tmp 55) 144 rfl 0 95 i2 (.agg #[.int .u64 0,.int .u64 0]) 2 16 Tryz.underlying144 hi2 hx0 hx1 hx2 rfl (by decide) (.slice va P.ss.length vc) P.ss.length (ssCells P.ss) (by simp[Act.eval]) (Hrow6.out.2.2.1.alloc _) ⟨W6.heap.size,0,none⟩ 1 1 (seCells q) (by simp[Act.eval]) rfl (new_se W6 q _) (seCells_one _) (by unfold maxLen;omega) (by omega) (by simp) ?_;intro v2 w2 hown2 hgrow2 hat2;obtain⟨h,hc,rfl,hh⟩:=app_addr' (W:=W6) (by simp) hown2 hat2;have hk2:=app_keep' (W:=W6) (below_alloc _ _).drew hgrow2;have hm2:=hk2.row nm6 Hrow6.out.1;have y1:w2.cell? ⟨m,3,none⟩=some (.slice va P.ss.length vc):=(cell_of_row _ _ _ _ _ _ hm2).trans rfl;have y2:w2.frozen? ⟨m,3,none⟩=false:=frozen_of_row _ _ _ _ _ hm2)
    all_goals
     go_wp2_with fail
     go_meet
     have ng:h≠m:=fun e=>own_not hown2 hm2 (fun cur e=>by injection e with _ e;exact absurd e (by decide)) (by simp[blkOf,e])
     exact⟨h,hc,(heap_setCell_same _ _ _ _ _ _ hm2).trans rfl,hown2.kept (set_grown w2 m 3 _) (.inr (fun e=>ng (by injection e))),(hk2.mono (fun k h=>List.mem_cons_of_mem _ h)).set (by simp) _,hh⟩
   case rest=>
   obtain⟨h,hc,hm8,hva8,hk8,hh⟩:=hcut
   generalize wc=W8 at *
   have nla:∀ k∈blkOf (some (⟨g,0,none⟩:Addr)),k ∉ m :: blkOf va:=by
    intro k hk h7
    rcases List.mem_cons.1 h7 with h7 | h7
    ·exact own_not Hrow6.out.2.1 Hrow6.out.1 (fun cur e=>by injection e with _ e;exact absurd e (by decide)) (h7 ▸ hk)
    ·exact own_two Hrow6.out.2.2.1 Hrow6.out.2.1 (by decide) k hk h7
   have hla8:=own_keep Hrow6.out.2.1 hk8 nla
   have nmb8:mb ∉ m :: blkOf va:=by
    intro h7
    obtain⟨es,ck,h8,_⟩:=Hrow6.out.2.2.2
    rcases List.mem_cons.1 h7 with h7 | h7
    ·rw[h7,Hrow6.out.1]at h8;injection h8 with h8;cases h8
    ·exact own_not Hrow6.out.2.2.1 h8 (fun cur e=>by cases e) h7
   have hmap8:=map_heap (w':=W8.drew) Hrow6.out.2.2.2 (hk8.block mb Hrow6.out.2.2.2.lt nmb8)
   have nb8:b ∉ m :: blkOf va:=by
    intro h7
    rcases List.mem_cons.1 h7 with h7 | h7
    ·omega
    ·have:=(Hva.out.lt b (by cases va with
      | none=>simp[blkOf]at h7
      | some a=>simp[blkOf]at h7;simp[Value.ownBlock,h7])).2
     omega
   replace p0:=hk8.cell nb8 p0
   replace p1:=hk8.cell nb8 p1
   have p4:W8.cell? ⟨m,4,none⟩=some (.map (some mb)):=by rw[cell_of_row _ _ _ _ _ _ hm8];rfl
   obtain⟨kl,hkl⟩:=setKey Hq64.out.1 Hq64.out.2
   obtain⟨w9,hrun,hmap9,hturn⟩:=hmap8.store setKeyed Tryz.underlying163 (by unfold maxLen;omega) hkl (plainElem_int (a:=(P.sts.length:Nat)) Tryz.underlying3 (wf_i64 (by omega)))
   have hrun':(Instr.mapUpdate 163 (.map (some mb)) (.agg #[.int .u64 q.1,.int .u64 q.2]) (.int .i64 (P.sts.length:Nat))).run Tryz.prog W8.drew=.ok () w9:=hrun
   have Hkl:=hide hkl
   have Hmap9:=hide hmap9
   have Hturn:=hide hturn
   have Hrow8:=hide (And.intro hm8 (And.intro hla8 hva8))
   have Hk8:=hide hk8
   have Hh:=hide hh
   clear hrun hm8 hva8 hk8 hla8 hmap8 hkl hmap9 hturn hh e4 p3
   go_upto_region 8 with fail
   go_region
   go_wp2_with fail
   go_ret
   have hgr:=Hturn.out.grown
   have hk9:Keeps [mb] W8 w9:=⟨hgr.os,hgr.tape,hgr.output,hgr.size,fun k hk hn=>hgr.block k hk (fun e=>hn (by injection e with e;simp[e]))⟩
   have hsz1:w.heap.size<=V.heap.size:=HbV.out.1.size
   have hkF:Keeps F w w9:=by
    rw[HF.out]
    refine((((Keeps.of (F:=[]) HbV.out.1).mono (by simp)).tran Hk6.out ?_).tran Hk8.out ?_).tran hk9 ?_
    ·intro k hk;left;simp at hk ⊢; rcases hk with h1 | h1 <;> simp[h1]
    ·intro k hk;left;simp at hk ⊢; rcases hk with h1 | h1 <;> simp[h1]
    ·intro k hk;left;simp at hk ⊢; simp[hk]
   have nm:m≠mb:=by
    intro e
    obtain⟨es,ck,h8,_⟩:=Hmap9.out
    have:=Hrow.out.2.2.2
    obtain⟨es,ck,h8,_⟩:=this
    rw[<-e,Hrow.out.1]at h8;injection h8 with h8;cases h8
   refine⟨by rw[Hk.out,Hl1.out];rfl,m :: mb :: (blkOf (some (⟨g,0,none⟩:Addr))++blkOf (some (⟨h,0,none⟩:Addr))),?_,?_,hkF⟩
   ·rw[HP'.out]
    have hmapW:W8.heap[mb]?≠none:=by
     have:=Hrow6.out.2.2.2
     obtain⟨es,ck,h8,_⟩:=this
     rw[Hk8.out.row nmb8 h8];simp
    have nmo:∀ {e:TypeId} {size n c:Nat} {a:Option Addr} {xs:List Value},W8.ownsRow 0 e size (.slice a n c) n xs->∀ b∈blkOf a,b ∉ [mb]:=by
     intro e size n c a xs ho b hb h7
     simp at h7
     subst h7
     obtain⟨es,ck,h8,_⟩:=Hrow6.out.2.2.2
     exact own_not ho (Hk8.out.row nmb8 h8) (fun cur e=>by cases e) hb
    refine⟨⟨by simp[Hl1.out],?_,?_⟩,some ⟨g,0,none⟩,gc,some ⟨h,0,none⟩,hc,mb,D.put kl (.lit (.int .i64 (P.sts.length:Nat))),rfl,?_,?_,?_,?_,?_⟩
    ·show(P.ss++[q]).Nodup
     rw[List.nodup_append]
     exact⟨HN.out,by simp,fun x hx y hy=>by simp at hy;rw[hy];exact fun e=>Hin.out (e ▸ hx)⟩
    ·intro p hp
     rcases List.mem_append.1 hp with h1 | h1
     ·exact H64.out p h1
     ·simp at h1;rw[h1];exact Hq64.out
    ·show w9.heap[m]?=some (.cells #[_,_,.slice _ (P.sts++[s]).length _,.slice _ (P.ss++[q]).length _,_] 165 (0,0))
     rw[List.length_append,List.length_append]
     exact hk9.row (by simpa using nm) Hrow8.out.1
    ·show w9.ownsRow 0 36 5 (.slice _ (P.sts++[s]).length _) (P.sts++[s]).length (stCells (P.sts++[s]))
     rw[List.length_append,stCells_snoc]
     exact own_keep Hrow8.out.2.1 hk9 (nmo Hrow8.out.2.1)
    ·show w9.ownsRow 0 95 2 (.slice _ (P.ss++[q]).length _) (P.ss++[q]).length (ssCells (P.ss++[q]))
     rw[List.length_append,ssCells_snoc]
     exact own_keep Hrow8.out.2.2 hk9 (nmo Hrow8.out.2.2)
    ·show w9.ownsMap Tryz.prog 95 _ mb (P.ss++[q]).length _
     rw[List.length_append]
     exact Hmap9.out
    ·have:=HD.out.snoc Hmap.out.isMap Hkl.out Hin.out
     rw[<-Hl1.out]at this
     exact this
   ·rw[HF.out]
    intro k hk
    simp only[List.mem_cons,List.mem_append]at hk
    rcases hk with rfl | rfl | hk | hk
    ·left;simp
    ·left;simp
    ·simp[blkOf]at hk
     subst hk
     rcases Hg.out with h1 | h1
     ·left;simp[h1]
     ·right;omega
    ·simp[blkOf]at hk
     subst hk
     rcases Hh.out with h1 | h1
     ·left;simp[h1]
     ·right;have:=Hk6.out.size;omega
end Go.Proofs.YtjebhhoibofmfaaGreat
namespace Go.Proofs.YtjebhhoibofmfaaGreat
open Go.RowKit Go.Maps
set_option maxRecDepth 100000 in
set_option maxHeartbeats 1000000 in
theorem pnew_any(ta sa:Option Addr)(tn tc sn sc:Nat)(w:World) :
 Calls Tryz.prog 91 #[.agg #[.slice ta tn tc,.slice sa sn sc]] w fun e w'=>∃ m F,e=.returned (.pointer (some ⟨m,0,none⟩))/\PP w' m F (.slice ta tn tc) (.slice sa sn sc) pf0/\(∀ k∈F,w.heap.size<=k)/\Below w.heap.size w w':=by
 have hmm:=@run_makeMap Tryz.prog
 go_enter Tryz.func91,Tryz.ntmps91
 go_wp2_with fail
 go_ret
 have hmp:=World.ownsMap_made (H:=Unit) (w.alloc (.cells #[.slice ta tn tc,.slice sa sn sc] 25)) Tryz.prog 95 (plainElem Tryz.prog 3)
 rw[show(w.alloc (.cells #[.slice ta tn tc,.slice sa sn sc] 25)).heap.size=w.heap.size+1 by simp]at hmp
 refine⟨w.heap.size+1+1,[w.heap.size+1+1,w.heap.size+1],rfl,⟨⟨rfl,by simp[pf0],by simp[pf0]⟩,none,0,none,0,w.heap.size+1,.map [],?_,?_,⟨rfl,.inl ⟨rfl,rfl⟩⟩,⟨rfl,.inl ⟨rfl,rfl⟩⟩,map_below hmp (below_alloc _ _),MapsTo.nil⟩,?_,?_⟩
 ·simp[blkOf]
 ·exact heap_at_new _ _ _ (by simp)
 ·intro k hk
  simp at hk
  rcases hk with rfl | rfl <;> omega
 ·exact((below_alloc w _).alloc (by simp) _).alloc (by simp;omega) _
theorem clOf_cells{P:Pf}{w:World}{va:Option Addr}{vc:Nat}(h:w.ownsRow 0 95 2 (.slice va P.ss.length vc) P.ss.length (ssCells P.ss)){k:Nat}(hk:k < P.ss.length) :
 ∃ b o,va=some ⟨b,o,none⟩/\w.cell? ⟨b,o+k*2,none⟩=some (.int .u64 (clOf P k).1)/\w.cell? ⟨b,o+k*2+1,none⟩=some (.int .u64 (clOf P k).2):=by
 obtain⟨b,o,e,hc⟩:=(setsAt_of_own h).get hk
 exact⟨b,o,e,hc k hk⟩
set_option maxRecDepth 100000 in
set_option maxHeartbeats 1000000 in
theorem pclause_any(m:Nat)(F:List Nat)(tv cv:Value)(P:Pf)(k:Nat)(w:World)(hP:PP w m F tv cv P)(hk:k < P.ss.length) :
 Calls Tryz.prog 94 #[.pointer (some ⟨m,0,none⟩),.int .i64 k] w fun e w'=>e=.returned (.agg #[.int .u64 (clOf P k).1,.int .u64 (clOf P k).2])/\Below w.heap.size w w':=by
 obtain⟨_,la,lc,va,vc,mb,D,hF,hm,hla,hva,hmap,hD⟩:=hP
 obtain⟨b,o,rfl,s0,s1⟩:=clOf_cells hva hk
 have c3:w.cell? ⟨m,3,none⟩=some (.slice (some ⟨b,o,none⟩) P.ss.length vc):=by rw[cell_of_row _ _ _ _ _ _ hm];rfl
 have hl:=block_lt s0
 have hl2:=block_lt c3
 generalize clOf P k=q at *
 obtain⟨q1,q2⟩:=q
 clear hF hm hla hva hmap hD
 go_enter Tryz.func94,Tryz.ntmps94
 go_wp2_with fail
 exact bodyPost_ret (v:=.agg #[.int .u64 q1,.int .u64 q2]) (by simp[results,Tryz.results94,go_sem]) rfl ⟨rfl,by exact below_alloc _ _⟩
set_option maxRecDepth 100000 in
set_option maxHeartbeats 1000000 in
theorem pgiven_any(hX:CutHolds){E:Env}{ts:List Tm}{cs:List Cl}(hE:EnvOf E ts cs)(m:Nat)(F:List Nat)(ta sa:Option Addr)(tc sc:Nat)(P P':Pf)(i:Nat)(k:Nat)(w:World)(ht:TermsAt w ta ts)(hcs:ClausesAt w sa cs)
 (hts:termsB ts=true) (hcl:clausesB ts.length cs=true) (hP:PP w m F (.slice ta ts.length tc) (.slice sa cs.length sc) P) (hadd:addP E P (givenS i)=some (k,P')) :
 Calls Tryz.prog 92 #[.pointer (some ⟨m,0,none⟩),.int .i64 i] w fun e w'=>
  e=.returned (.int .i64 k)/\∃ F',PP w' m F' (.slice ta ts.length tc) (.slice sa cs.length sc) P'/\Fresh F F' w/\Keeps F w w':=by
 have H:=hide (add_any hX hE m F ta sa tc sc P P' (givenS i) k w ht hcs hts hcl hP hadd)
 clear hP ht hcs hadd
 go_enter Tryz.func92,Tryz.ntmps92
 go_wp2_with fail
 refine H.out.mono ?_
 rintro e w' ⟨rfl,h⟩
 have Hh:=hide h
 clear h H
 go_wp2_with fail
 go_ret
 exact⟨rfl,Hh.out⟩
set_option maxRecDepth 100000 in
set_option maxHeartbeats 1000000 in
theorem prefl_any(hX:CutHolds){E:Env}{ts:List Tm}{cs:List Cl}(hE:EnvOf E ts cs)(m:Nat)(F:List Nat)(ta sa:Option Addr)(tc sc:Nat)(P P':Pf)(a:Nat)(k:Nat)(w:World)(ht:TermsAt w ta ts)(hcs:ClausesAt w sa cs)
 (hts:termsB ts=true) (hcl:clausesB ts.length cs=true) (hP:PP w m F (.slice ta ts.length tc) (.slice sa cs.length sc) P) (hadd:addP E P (reflS a)=some (k,P')) :
 Calls Tryz.prog 146 #[.pointer (some ⟨m,0,none⟩),.int .i64 a] w fun e w'=>
  e=.returned (.int .i64 k)/\∃ F',PP w' m F' (.slice ta ts.length tc) (.slice sa cs.length sc) P'/\Fresh F F' w/\Keeps F w w':=by
 have H:=hide (add_any hX hE m F ta sa tc sc P P' (reflS a) k w ht hcs hts hcl hP hadd)
 clear hP ht hcs hadd
 go_enter Tryz.func146,Tryz.ntmps146
 go_wp2_with fail
 refine H.out.mono ?_
 rintro e w' ⟨rfl,h⟩
 have Hh:=hide h
 clear h H
 go_wp2_with fail
 go_ret
 exact⟨rfl,Hh.out⟩
set_option maxRecDepth 100000 in
set_option maxHeartbeats 1000000 in
theorem ptrans_any(hX:CutHolds){E:Env}{ts:List Tm}{cs:List Cl}(hE:EnvOf E ts cs)(m:Nat)(F:List Nat)(ta sa:Option Addr)(tc sc:Nat)(P P':Pf)(a b c:Nat)(k:Nat)(w:World)(ht:TermsAt w ta ts)(hcs:ClausesAt w sa cs)
 (hts:termsB ts=true) (hcl:clausesB ts.length cs=true) (hP:PP w m F (.slice ta ts.length tc) (.slice sa cs.length sc) P) (hadd:addP E P (transS a b c)=some (k,P')) :
 Calls Tryz.prog 150 #[.pointer (some ⟨m,0,none⟩),.int .i64 a,.int .i64 b,.int .i64 c] w fun e w'=>
  e=.returned (.int .i64 k)/\∃ F',PP w' m F' (.slice ta ts.length tc) (.slice sa cs.length sc) P'/\Fresh F F' w/\Keeps F w w':=by
 have H:=hide (add_any hX hE m F ta sa tc sc P P' (transS a b c) k w ht hcs hts hcl hP hadd)
 clear hP ht hcs hadd
 go_enter Tryz.func150,Tryz.ntmps150
 go_wp2_with fail
 refine H.out.mono ?_
 rintro e w' ⟨rfl,h⟩
 have Hh:=hide h
 clear h H
 go_wp2_with fail
 go_ret
 exact⟨rfl,Hh.out⟩
set_option maxRecDepth 100000 in
set_option maxHeartbeats 1000000 in
theorem pcong_any(hX:CutHolds){E:Env}{ts:List Tm}{cs:List Cl}(hE:EnvOf E ts cs)(m:Nat)(F:List Nat)(ta sa:Option Addr)(tc sc:Nat)(P P':Pf)(a b:Nat)(k:Nat)(w:World)(ht:TermsAt w ta ts)(hcs:ClausesAt w sa cs)
 (hts:termsB ts=true) (hcl:clausesB ts.length cs=true) (hP:PP w m F (.slice ta ts.length tc) (.slice sa cs.length sc) P) (hadd:addP E P (congS a b)=some (k,P')) :
 Calls Tryz.prog 149 #[.pointer (some ⟨m,0,none⟩),.int .i64 a,.int .i64 b] w fun e w'=>
  e=.returned (.int .i64 k)/\∃ F',PP w' m F' (.slice ta ts.length tc) (.slice sa cs.length sc) P'/\Fresh F F' w/\Keeps F w w':=by
 have H:=hide (add_any hX hE m F ta sa tc sc P P' (congS a b) k w ht hcs hts hcl hP hadd)
 clear hP ht hcs hadd
 go_enter Tryz.func149,Tryz.ntmps149
 go_wp2_with fail
 refine H.out.mono ?_
 rintro e w' ⟨rfl,h⟩
 have Hh:=hide h
 clear h H
 go_wp2_with fail
 go_ret
 exact⟨rfl,Hh.out⟩
set_option maxRecDepth 100000 in
set_option maxHeartbeats 1000000 in
theorem pcut_any(hX:CutHolds){E:Env}{ts:List Tm}{cs:List Cl}(hE:EnvOf E ts cs)(m:Nat)(F:List Nat)(ta sa:Option Addr)(tc sc:Nat)(P P':Pf)(i j:Nat)(t:Lt)(k:Nat)(w:World)(ht:TermsAt w ta ts)(hcs:ClausesAt w sa cs)
 (hts:termsB ts=true) (hcl:clausesB ts.length cs=true) (hP:PP w m F (.slice ta ts.length tc) (.slice sa cs.length sc) P) (hadd:addP E P (cutS i j t)=some (k,P')) :
 Calls Tryz.prog 102 #[.pointer (some ⟨m,0,none⟩),.int .i64 i,.int .i64 j,.agg #[.int .i64 t.x,.int .i64 t.y,.bool t.n]] w fun e w'=>
  e=.returned (.int .i64 k)/\∃ F',PP w' m F' (.slice ta ts.length tc) (.slice sa cs.length sc) P'/\Fresh F F' w/\Keeps F w w':=by
 obtain⟨W,hW⟩:∃ W,W=w.alloc (.cells #[.int .i64 t.x,.int .i64 t.y,.bool t.n] 60):=⟨_,rfl⟩
 have hb:Below w.heap.size w W:=by rw[hW];exact below_alloc _ _
 have c0:W.cell? ⟨w.heap.size,0,none⟩=some (.int .i64 t.x):=by rw[hW];simp
 have c1:W.cell? ⟨w.heap.size,1,none⟩=some (.int .i64 t.y):=by rw[hW];simp
 have c2:W.cell? ⟨w.heap.size,2,none⟩=some (.bool t.n):=by rw[hW];simp
 have H:=hide (add_any hX hE m F ta sa tc sc P P' (cutS i j t) k W (ht.below hb) (hcs.below hb) hts hcl (hP.keep (keeps_below hb) (by simp)) hadd)
 have Hb:=hide hb
 clear hP ht hcs hadd hb
 obtain⟨x,y,n⟩:=t
 cases n
 ·simp only[cutS,Bool.false_eq_true,if_false]at H
  go_enter Tryz.func102,Tryz.ntmps102
  go_upto_region 1 with fail
  rw[<-hW]
  clear hW
  go_wp2_with fail
  refine H.out.mono ?_
  rintro e w' ⟨rfl,h⟩
  have Hh:=hide h
  clear h H
  go_wp2_with fail
  go_ret
  obtain⟨F',h1,h2,h3⟩:=Hh.out
  exact⟨rfl,F',h1,fun b hb=>(h2 b hb).imp id (fun h=>Nat.le_trans Hb.out.size h),(Keeps.of Hb.out).trans h3 (fun b hb=>.inl hb)⟩
 ·simp only[cutS,if_true]at H
  go_enter Tryz.func102,Tryz.ntmps102
  go_upto_region 1 with fail
  rw[<-hW]
  clear hW
  go_wp2_with fail
  refine H.out.mono ?_
  rintro e w' ⟨rfl,h⟩
  have Hh:=hide h
  clear h H
  go_wp2_with fail
  go_ret
  obtain⟨F',h1,h2,h3⟩:=Hh.out
  exact⟨rfl,F',h1,fun b hb=>(h2 b hb).imp id (fun h=>Nat.le_trans Hb.out.size h),(Keeps.of Hb.out).trans h3 (fun b hb=>.inl hb)⟩
end Go.Proofs.YtjebhhoibofmfaaGreat
