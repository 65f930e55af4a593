import Derived.Test.YtjebhhoibofmfaaGreatAMPf
import Derived.Test.YtjebhhoibofmfaaGreatAMKp
import Derived.Laws.OwnMore
import Derived.Maps.AppendAt
import Derived.Test.YtjebhhoibofmfaaGreatAMMy
import Derived.Test.YtjebhhoibofmfaaGreatAMQCsE
import Derived.Test.YtjebhhoibofmfaaGreatAMRf
namespace Go.Proofs.YtjebhhoibofmfaaGreat
open Go.RowKit
structure Ls where
 a:Option Addr
 n:Nat
 cap:Nat
def ls0:Ls:=⟨none,0,0⟩
def lsV(l:Ls):Value:=.slice l.a l.n l.cap
def marks(mk:List Value)(n:Nat):List Value:=(List.replicate n mk).flatten
theorem marks_add(mk:List Value)(n m:Nat):marks mk (n+m)=marks mk n++marks mk m:=by
 unfold marks
 rw[<-List.replicate_append_replicate,List.flatten_append]
theorem marks_length{mk:List Value}{sz:Nat}(h:mk.length=sz)(n:Nat):(marks mk n).length=n*sz:=by
 simp[marks,List.length_flatten,h]
theorem own_prefix{w:World}{base:Nat}{e:TypeId}{sz g N cap k:Nat}{mk:List Value}(hmk:mk.length=sz)(h:w.ownsRow base e sz (.slice (some ⟨g,0,none⟩) N cap) N (marks mk N))(hk:k<=N) :
 w.ownsRow base e sz (.slice (some ⟨g,0,none⟩) k cap) k (marks mk k):=by
 obtain⟨h1,⟨h2,_⟩ | ⟨g',cap',cur,hv,hb,hg,hn,hm,hc,hx⟩⟩:=h
 ·injection h2 with h2
  cases h2
 ·injection hv with e1 _ e3
  injection e1 with e1
  injection e1 with e1
  subst e1
  subst e3
  refine⟨marks_length hmk k,.inr ⟨g,cap,cur,rfl,hb,hg,by omega,hm,hc,?_⟩⟩
  have h3:cur.toList.take (k*sz)=(cur.toList.take (N*sz)).take (k*sz):=by
   rw[List.take_take,Nat.min_eq_left (Nat.mul_le_mul_right _ hk)]
  rw[h3,hx,show N=k+(N - k) by omega,marks_add,<-marks_length hmk k,List.take_left]
def MG(B:Nat)(e:TypeId)(sz:Nat)(mk:List Value)(w:World)(us:List Ls):Prop:=∀ u∈us,w.ownsRow B e sz (lsV u) u.n (marks mk u.n)
theorem MG.below{B:Nat}{e:TypeId}{sz:Nat}{mk:List Value}{w w':World}{us:List Ls}(h:MG B e sz mk w us)(hb:Below w.heap.size w w'):MG B e sz mk w' us:=fun u hu=>own_below (h u hu) hb
def KeT(e:TypeId)(w w':World):Prop:=∀(B:Nat) (e':TypeId) (size n:Nat) (v:Value) (xs:List Value),e'≠e->w.ownsRow B e' size v n xs->w'.ownsRow B e' size v n xs
theorem KeT.refl(e:TypeId)(w:World):KeT e w w:=fun _ _ _ _ _ _ _ h=>h
theorem KeT.trans{e:TypeId}{w w1 w2:World}(h:KeT e w w1)(h':KeT e w1 w2):KeT e w w2:=fun B e' size n v xs hne ho=>h' B e' size n v xs hne (h B e' size n v xs hne ho)
theorem KeT.alloc{e:TypeId}{w w1:World}(h:KeT e w w1)(o:Obj):KeT e w (w1.alloc o):=fun B e' size n v xs hne ho=>(h B e' size n v xs hne ho).alloc o
theorem run_append_mark{P:Program}(w:World)(B:Nat)(t ty e:TypeId)(i:TypeInfo)(z:Value)(sz bytes:Nat)(ht:P.underlying t=some (.slice e))(hi:P.info? e=some i)(hz:i.zero=some z)
 (hsize:i.size=sz) (hby:i.bytes=bytes) (hzs:z.cells.size=sz) (hsz:0 < sz) (mk:List Value) (hmk:mk.length=sz) (l:Ls) (us:List Ls) (hl:l∈us) (hM:MG B e sz mk w us) (m:Nat) (hm:1<=m) (hle:∀ u∈us,u.n<=l.n+m)
 (ad:Addr) (c:Nat) (hnews:∀ j u,(marks mk m)[j]?=some u->w.cell? (ad.add j)=some u) (h1:∀ u∈marks mk m,u.oneCell'=true) (h63:l.n+m<=maxLen) (hbytes:(l.n+m)*bytes<=140737488355328) (hbase:B<=w.heap.size) :
 ∃ u' w',(Builtin.append_ #[t,t] ty #[lsV l,.slice (some ad) m c]).run P w=.ok (lsV u') w'/\u'.n=l.n+m/\MG B e sz mk w' (us++[u'])/\Below B w w'/\KeT e w w'/\w.grownBy w' (lsV l).ownBlock:=by
 have hown:=hM l hl
 obtain⟨v',w',hr,h2,h3,h4,h5⟩:=run_append_own_at (P:=P) w B t ty e i z sz bytes ht hi hz hsize hby hzs hsz (lsV l) l.n (marks mk l.n) hown ad m c (marks mk m) (marks_length hmk m) hnews h1 h63 hbytes hbase
 rw[<-marks_add]at h2
 obtain⟨va,vc,rfl⟩:=own_val h2
 have key:(∃ g cap,lsV l=.slice (some ⟨g,0,none⟩) l.n cap/\va=some ⟨g,0,none⟩/\vc=cap)\/w.grownBy w' none:=by
  subst hsize
  rcases hown.2 with⟨hv,h0⟩ | ⟨g,cap,cur,hv,hbg,hg,hnc,hcm,hcs,htake⟩
  ·right
   have hr2:=run_append_nil (P:=P) w t ty e i z ht hi hz ad m c (marks mk m) (marks_length hmk m) hnews (by omega) (by simp only[maxLen]at h63;omega) (by rw[hby];rw[Nat.add_mul]at hbytes;omega)
   rw[hv,hr2]at hr
   injection hr with _ hr
   subst hr
   exact⟨rfl,rfl,rfl,by simp,fun k hk _=>heap_alloc_old w.drew _ hk⟩
  ·by_cases hroom:l.n+m<=cap
   ·left
    have hfit:l.n*i.size+(marks mk m).length<=cur.size:=by rw[marks_length hmk,hcs,<-Nat.add_mul];exact Nat.mul_le_mul_right _ hroom
    have hr2:=run_append_room (P:=P) w t ty e i ht hi g l.n cap cur hg ad m c (marks mk m) (marks_length hmk m) hnews h1 hroom hfit
    rw[hv,hr2]at hr
    injection hr with hr _
    injection hr with e1 _ e3
    exact⟨g,cap,hv,e1.symm,e3.symm⟩
   ·right
    rw[hv]at hown
    have holds:∀ j u,(marks mk l.n)[j]?=some u->w.cell? ((⟨g,0,none⟩:Addr).add j)=some u:=hown.cells (g:=g) rfl
    have hr2:=run_append_grow (P:=P) w t ty e i z ht hi hz ⟨g,0,none⟩ l.n cap (marks mk l.n) hown.1 holds ad m c (marks mk m) (marks_length hmk m) hnews (by omega) (by simp only[maxLen]at h63;omega) (growslice_fits (by omega) (by rw[hby];exact hbytes))
    rw[hv,hr2]at hr
    injection hr with _ hr
    subst hr
    exact⟨rfl,rfl,rfl,by simp,fun k hk _=>heap_alloc_old w.drew _ hk⟩
 have hbel:Below B w w':=by
  refine(Below.refl _ _).grown h3 hbase (fun k hk=>(hown.lt k hk).1)
 refine⟨⟨va,l.n+m,vc⟩,w',hr,rfl,fun u hu=>?_,hbel,fun B' e' size n v xs hne ho=>own_apart ho h3 (own_type hown (fun e=>hne e.symm)),h3⟩
 rcases List.mem_append.1 hu with hu2 | hu
 ·have hou:=hM u hu2
  rcases key with⟨g,cap,hv,rfl,rfl⟩ | hg
  ·rcases hou.2 with⟨hu0,h0⟩ | ⟨gu,capu,cur,hu1,hbu,hgu,hnu,hmu,hcu,hxu⟩
   ·exact⟨hou.1,.inl ⟨hu0,h0⟩⟩
   ·by_cases hgg:gu=g
    ·subst hgg
     rw[hv]at hown
     rcases hown.2 with⟨hw0,_⟩ | ⟨g2,cap2,cur2,hv2,_,hg2,_,_,hc2,_⟩
     ·injection hw0 with hw0;cases hw0
     ·injection hv2 with f1 _ f3
      injection f1 with f1
      injection f1 with f1
      subst f1
      subst f3
      rw[hgu]at hg2
      injection hg2 with hg2
      injection hg2 with hg2
      subst hg2
      have hcap:capu=vc:=Nat.eq_of_mul_eq_mul_right hsz (hcu.symm.trans hc2)
      subst hcap
      rw[hu1]
      exact own_prefix hmk h2 (hle u hu2)
    ·refine hou.kept h3 (.inr ?_)
     rw[hu1,hv]
     simp[Value.ownBlock,hgg]
  ·refine hou.kept hg ?_
   cases hb:(lsV u).ownBlock with
   | none=>exact .inl rfl
   | some k=>exact .inr (by simp)
 ·simp at hu
  subst hu
  exact h2
theorem wpList_append_mark{P:Program}{w:World}{ops:Array Oper}{rest:List Oper}{o:Oper}{a:Act}{Q:Exit->Act->World->Prop}(hgd:o.guard=none)(s x:Operand)(t:TypeId)
 (ho:o.op=.call { callee:=.builtin .append,args:=#[s,x],argTypes:=#[t,t] })
 (B:Nat) (e:TypeId) (i:TypeInfo) (z:Value) (sz bytes:Nat) (ht:P.underlying t=some (.slice e)) (hi:P.info? e=some i) (hz:i.zero=some z)
 (hsize:i.size=sz) (hby:i.bytes=bytes) (hzs:z.cells.size=sz) (hsz:0 < sz) (mk:List Value) (hmk:mk.length=sz) (l:Ls) (us:List Ls) (hs:a.eval s=lsV l) (hl:l∈us) (hM:MG B e sz mk w us) (m:Nat) (hm:1<=m) (hle:∀ u∈us,u.n<=l.n+m)
 (ad:Addr) (c:Nat) (hx:a.eval x=.slice (some ad) m c) (hnews:∀ j u,(marks mk m)[j]?=some u->w.cell? (ad.add j)=some u) (h1:∀ u∈marks mk m,u.oneCell'=true) (h63:l.n+m<=maxLen) (hbytes:(l.n+m)*bytes<=140737488355328) (hbase:B<=w.heap.size)
 (h:∀ u' w',u'.n=l.n+m->MG B e sz mk w' (us++[u'])->Below B w w'->KeT e w w'->w.grownBy w' (lsV l).ownBlock->wpList P ops Q rest (a.put o.dst (lsV u')) w'):wpList P ops Q (o :: rest) a w:=by
 refine wpList_plain hgd fun K hK=>?_
 obtain⟨u',w',hr,h2,h3,h4,h5,h6⟩:=run_append_mark (P:=P) w B t o.type e i z sz bytes ht hi hz hsize hby hzs hsz mk hmk l us hl hM m hm hle ad c hnews h1 h63 hbytes hbase
 unfold Oper.wp execOp
 simp only[ho,resolve,invoke,builtin,Sem.run_bind,Sem.run_pure,Result.andThen_ok,List.map_toArray,List.map_cons,List.map_nil,hs,hx,hr]
 exact hK _ _ (h u' w' h2 h3 h4 h5 h6)
end Go.Proofs.YtjebhhoibofmfaaGreat
namespace Go.Proofs.YtjebhhoibofmfaaGreat
open Go.RowKit
theorem chk_full{ts:List Tm}{cs:List Cl}{sts:List St}(hr:refuseI ts cs=0)(h:(followL ts cs sts []).length=sts.length):folN ts cs sts=sts.length/\(chkE ts cs sts=0\/chkE ts cs sts=5) /\
 (sts≠[]->emptyB (lastS (followL ts cs sts [])).1 (lastS (followL ts cs sts [])).2=true->chkE ts cs sts=0):=by
 have hE:folE ts cs sts=0:=by unfold folE;rw[if_pos hr,h,if_neg (Nat.lt_irrefl _)]
 have hN:folN ts cs sts=(sts.length:Nat):=by unfold folN;rw[if_pos hr,h]
 have hS:folS ts cs sts=lastS (followL ts cs sts []):=by unfold folS;rw[if_pos hr,h,if_neg (Nat.lt_irrefl _)]
 refine⟨hN,?_,fun h0 he=>?_⟩
 ·unfold chkE
  rw[hE,if_pos rfl]
  split
  ·exact .inr rfl
  ·split
   ·exact .inl rfl
   ·exact .inr rfl
 ·have:sts.length≠0:=fun e=>h0 (List.eq_nil_of_length_eq_zero e)
  unfold chkE
  rw[hE,if_pos rfl,hN,if_neg (by omega),hS,he]
  rfl
theorem Steps.take{w:World}{a:Option Addr}{sts:List St}(h:StepsAt w a sts)(n:Nat):StepsAt w a (sts.take n):=by
 rcases h with h | ⟨b,o,rfl,h⟩
 ·exact .inl (by rw[h];simp)
 ·refine .inr ⟨b,o,rfl,fun i hi=>?_⟩
  have hi':i < sts.length:=by simp at hi;omega
  have hin:i < n:=by simp at hi;omega
  have e:(sts.take n).getD i st0=sts.getD i st0:=by
   rw[List.getD_eq_getElem?_getD,List.getD_eq_getElem?_getD,List.getElem?_take,if_pos hin]
  rw[e];exact h i hi'
theorem own_box{B g i:Nat}{w:World}{e:TypeId}{size n:Nat}{v:Value}{xs:List Value}{cur:Array Value}{t:TypeId}(h:w.ownsRow B e size v n xs)(hg:w.heap[g]?=some (.cells cur t (0,0)))(hne:t≠e)(x:Value):(w.setCell ⟨g,i,none⟩ x).ownsRow B e size v n xs:=by
 have hK:Keeps [g] w (w.setCell ⟨g,i,none⟩ x):=(Keeps.refl _ _).set (by simp) _
 obtain⟨a,cap,rfl⟩:=own_val h
 refine own_keep h hK (fun b hb hm=>?_)
 have:b=g:=by simpa using hm
 subst this
 exact own_not h hg (fun cur' e'=>by injection e' with _ e'; exact hne e') hb
theorem CsOwn.box{B g i:Nat}{w:World}{v:Value}{cs:List Cl}{cur:Array Value}(h:CsOwn B w v cs)(hg:w.heap[g]?=some (.cells cur 25 (0,0)))(x:Value):CsOwn B (w.setCell ⟨g,i,none⟩ x) v cs:=
 ⟨own_box h.1 hg (by decide) x,fun j hj=>own_box (h.2 j hj) hg (by decide) x⟩
end Go.Proofs.YtjebhhoibofmfaaGreat
namespace Go.Proofs.YtjebhhoibofmfaaGreat
open Go.RowKit
def eR(f:Nat):TypeId:=if f < 2 then 29 else if f < 4 then 61 else 26
def eL(f:Nat):TypeId:=if f < 2 then 3 else if f < 4 then 60 else 36
def szL(f:Nat):Nat:=if f < 2 then 1 else if f < 4 then 3 else 5
def mkN(f k:Nat):List Value:=if f < 2 then [.int .i64 (-1 - k)]else if f < 4 then [.int .i64 (-1 - k),.int .i64 0,.bool false]else [.int .i64 (-1 - k),.int .i64 0,.int .i64 0,.int .i64 0,.int .i64 0]
def mkc(f k:Nat):List Value:=mkN f (if f % 2=0 then k else k / 3)
theorem types_apart:∀ i f:Fin 6,eL i≠eR f:=by decide
theorem types_world:∀ i:Fin 6,44≠eR i/\44≠eL i:=by decide
theorem type_ne{i f:Nat}(hi:i < 6)(hf:f < 6):eL i≠eR f:=types_apart ⟨i,hi⟩ ⟨f,hf⟩
theorem type_wR{i:Nat}(hi:i < 6):44≠eR i:=(types_world ⟨i,hi⟩).1
theorem type_wL{i:Nat}(hi:i < 6):44≠eL i:=(types_world ⟨i,hi⟩).2
structure Wd where
 a:Nat->Option Addr
 c:Nat->Nat
 us:Nat->List Ls
def Wd.val(D:Wd)(f:Nat):Value:=.slice (D.a f) (D.us f).length (D.c f)
def Wd.push(D:Wd)(f:Nat)(u:Ls)(g c:Nat):Wd:=⟨fun i=>if i=f then some ⟨g,0,none⟩else D.a i,fun i=>if i=f then c else D.c i,fun i=>if i=f then D.us i++[u]else D.us i⟩
def wd0:Wd:=⟨fun _=>none,fun _=>0,fun _=>[]⟩
def wdBox(D:Wd):Array Value:=#[D.val 0,D.val 1,D.val 2,D.val 3,D.val 4,D.val 5]
structure Wo (B:Nat) (w:World) (H:Nat) (D:Wd):Prop where
 box:w.heap[H]?=some (.cells (wdBox D) 44 (0,0))
 hB:B<=H
 row:∀ f,f < 6->w.ownsRow B (eR f) 1 (D.val f) (D.us f).length ((D.us f).map lsV)
 ap:∀ f g,f < 6->g < 6->f≠g->∀ b∈blkOf (D.a f),b ∉ blkOf (D.a g)
 mks:∀ f,f < 6->∀ k,k < (D.us f).length->w.ownsRow B (eL f) (szL f) (lsV ((D.us f).getD k ls0)) ((D.us f).getD k ls0).n (marks (mkc f k) ((D.us f).getD k ls0).n)
theorem Wo.below{B H:Nat}{w w':World}{D:Wd}(h:Wo B w H D)(hb:Below w.heap.size w w'):Wo B w' H D:=
 ⟨(keeps_below hb).row (by simp) h.box,h.hB,fun f hf=>own_below (h.row f hf) hb,h.ap,fun f hf k hk=>own_below (h.mks f hf k hk) hb⟩
theorem Wo.cell{B H:Nat}{w:World}{D:Wd}(h:Wo B w H D){f:Nat}(hf:f < 6):w.cell? ⟨H,f,none⟩=some (D.val f)/\w.frozen? ⟨H,f,none⟩=false:=by
 refine⟨?_,frozen_of_row _ _ _ _ _ h.box⟩
 rw[cell_of_row _ _ _ _ _ _ h.box]
 match f,hf with
 | 0,_=>rfl
 | 1,_=>rfl
 | 2,_=>rfl
 | 3,_=>rfl
 | 4,_=>rfl
 | 5,_=>rfl
theorem box_push(D:Wd){f:Nat}(hf:f < 6)(u:Ls)(g c:Nat):(wdBox D).setIfInBounds f (.slice (some ⟨g,0,none⟩) ((D.us f).length+1) c)=wdBox (D.push f u g c):=by
 match f,hf with
 | 0,_=>simp[wdBox,Wd.push,Wd.val]
 | 1,_=>simp[wdBox,Wd.push,Wd.val]
 | 2,_=>simp[wdBox,Wd.push,Wd.val]
 | 3,_=>simp[wdBox,Wd.push,Wd.val]
 | 4,_=>simp[wdBox,Wd.push,Wd.val]
 | 5,_=>simp[wdBox,Wd.push,Wd.val]
theorem Wo.push{B H:Nat}{w W1 w2:World}{D:Wd}(h:Wo B w H D){f:Nat}(hf:f < 6)(hb:Below w.heap.size w W1){u:Ls}{g c:Nat}(hu:W1.ownsRow B (eL f) (szL f) (lsV u) u.n (marks (mkc f (D.us f).length) u.n))
 (ho:w2.ownsRow B (eR f) 1 (.slice (some ⟨g,0,none⟩) ((D.us f).length+1) c) ((D.us f).length+1) ((D.us f).map lsV++[lsV u])) (hg:W1.grownBy w2 (D.val f).ownBlock) (hat:some g=(D.val f).ownBlock\/g=W1.heap.size) :
 Wo B (w2.setCell ⟨H,f,none⟩ (.slice (some ⟨g,0,none⟩) ((D.us f).length+1) c)) H (D.push f u g c)/\Below B w (w2.setCell ⟨H,f,none⟩ (.slice (some ⟨g,0,none⟩) ((D.us f).length+1) c)) /\
 (∀(e:TypeId) (size n:Nat) (v:Value) (xs:List Value),w.ownsRow B e size v n xs->(∀ i,i < 6->e≠eR i)->e≠44->(w2.setCell ⟨H,f,none⟩ (.slice (some ⟨g,0,none⟩) ((D.us f).length+1) c)).ownsRow B e size v n xs):=by
 have hK:Keeps (blkOf (D.a f)) w w2:=app_keep' hb hg
 have hHn:H ∉ blkOf (D.a f):=own_not (h.row f hf) h.box (fun cur e=>by injection e with _ e;exact type_wR hf e)
 have hbox2:=hK.row hHn h.box
 have ht:∀ {e:TypeId},e≠eR f->∀ k,(D.val f).ownBlock=some k->∃ cur e',W1.heap[k]?=some (.cells cur e' (0,0))/\e'≠e:=fun hne=>own_type (own_below (h.row f hf) hb) (fun e=>hne e.symm)
 have hrest:∀(e:TypeId) (size n:Nat) (v:Value) (xs:List Value),W1.ownsRow B e size v n xs->e≠eR f->e≠44->(w2.setCell ⟨H,f,none⟩ (.slice (some ⟨g,0,none⟩) ((D.us f).length+1) c)).ownsRow B e size v n xs:=by
  intro e size n v xs ho' hne hnw
  exact own_box (own_apart ho' hg (ht hne)) hbox2 (fun e'=>hnw e'.symm) _
 have hrow:∀ i,i < 6->i≠f->(w2.setCell ⟨H,f,none⟩ (.slice (some ⟨g,0,none⟩) ((D.us f).length+1) c)).ownsRow B (eR i) 1 (D.val i) (D.us i).length ((D.us i).map lsV):=by
  intro i hi hif
  exact own_box (own_keep (h.row i hi) hK (fun b hb'=>h.ap i f hi hf hif b hb')) hbox2 (type_wR hi) _
 have hgf:∀ i,i < 6->i≠f->∀ b∈blkOf (D.a i),b≠g:=by
  intro i hi hif b hb' e
  subst e
  rcases hat with hat | hat
  ·refine h.ap i f hi hf hif b hb' ?_
   unfold Wd.val at hat
   cases ha:D.a f with
   | none=>rw[ha]at hat;cases hat
   | some ad=>
     rw[ha]at hat
     simp[Value.ownBlock]at hat
     simp[blkOf,hat]
  ·have:=(own_lt (h.row i hi) b hb').2
   have:=hb.size
   omega
 refine⟨⟨?_,h.hB,fun i hi=>?_,fun i j hi hj hij b hb1 hb2=>?_,fun i hi k hk=>?_⟩,?_,fun e size n v xs h1 h2 h3=>hrest e size n v xs (own_below h1 hb) (h2 f hf) h3⟩
 ·rw[heap_setCell_same _ _ _ _ _ _ hbox2,box_push D hf]
 ·by_cases hif:i=f
  ·subst hif
   have e1:(D.push i u g c).val i=.slice (some ⟨g,0,none⟩) ((D.us i).length+1) c:=by simp[Wd.push,Wd.val]
   have e2:(D.push i u g c).us i=D.us i++[u]:=by simp[Wd.push]
   rw[e1,e2,List.length_append,List.map_append]
   exact own_box ho hbox2 (type_wR hi) _
  ·have e1:(D.push f u g c).val i=D.val i:=by simp[Wd.push,Wd.val,hif]
   have e2:(D.push f u g c).us i=D.us i:=by simp[Wd.push,hif]
   rw[e1,e2]
   exact hrow i hi hif
 ·have ea:∀ i,(D.push f u g c).a i=if i=f then some ⟨g,0,none⟩else D.a i:=fun i=>rfl
  rw[ea]at hb1 hb2
  by_cases hif:i=f
  ·rw[if_pos hif]at hb1
   have hjf:j≠f:=fun e=>hij (by rw[hif,e])
   rw[if_neg hjf]at hb2
   have:b=g:=by simpa[blkOf] using hb1
   exact hgf j hj hjf b hb2 this
  ·rw[if_neg hif]at hb1
   by_cases hjf:j=f
   ·rw[if_pos hjf]at hb2
    have:b=g:=by simpa[blkOf] using hb2
    exact hgf i hi hif b hb1 this
   ·rw[if_neg hjf]at hb2
    exact h.ap i j hi hj hij b hb1 hb2
 ·by_cases hif:i=f
  ·subst hif
   have e2:(D.push i u g c).us i=D.us i++[u]:=by simp[Wd.push]
   rw[e2]at hk ⊢
   rw[List.length_append,List.length_singleton]at hk
   by_cases hkl:k < (D.us i).length
   ·rw[getD_snoc_lt _ _ _ hkl]
    exact hrest _ _ _ _ _ (own_below (h.mks i hi k hkl) hb) (type_ne hi hi) (fun e=>type_wL hi e.symm)
   ·have:k=(D.us i).length:=by omega
    subst this
    rw[getD_snoc_eq]
    exact hrest _ _ _ _ _ hu (type_ne hi hi) (fun e=>type_wL hi e.symm)
  ·have e2:(D.push f u g c).us i=D.us i:=by simp[Wd.push,hif]
   rw[e2]at hk ⊢
   exact hrest _ _ _ _ _ (own_below (h.mks i hi k hk) hb) (type_ne hi hf) (fun e=>type_wL hi e.symm)
 ·have hlt:w.heap.size<=w2.heap.size:=hK.size
  have hBw:B<=w.heap.size:=Nat.le_of_lt (Nat.lt_of_le_of_lt h.hB (Array.getElem?_eq_some_iff.1 h.box).1)
  exact((hK.mono (fun k hk=>List.mem_cons_of_mem H hk)).set (by simp) _).below (Below.refl B w) hBw (fun k hk=>by
   rcases List.mem_cons.1 hk with rfl | hk
   ·exact h.hB
   ·exact(own_lt (h.row f hf) k hk).1)
def Apart'(D:Wd)(a:Option Addr):Prop:=∀ f,f < 6->∀ k,k < (D.us f).length->∀ b∈blkOf ((D.us f).getD k ls0).a,b ∉ blkOf a
theorem Wo.keeps{B H:Nat}{w w':World}{D:Wd}(h:Wo B w H D){e:TypeId}{size n c:Nat}{a:Option Addr}{xs:List Value}(hc:w.ownsRow B e size (.slice a n c) n xs)(he:(∀ i,i < 6->e≠eR i)/\e≠44)(hk:Keeps (blkOf a) w w')(hfr:Apart' D a):Wo B w' H D:=by
 refine⟨hk.row (own_not hc h.box (fun cur e'=>by injection e' with _ e'; exact he.2 e'.symm)) h.box,h.hB,fun f hf=>?_,h.ap,fun f hf k hk'=>?_⟩
 ·exact own_keep (h.row f hf) hk (own_two hc (h.row f hf) (he.1 f hf))
 ·exact own_keep (h.mks f hf k hk') hk (hfr f hf k hk')
end Go.Proofs.YtjebhhoibofmfaaGreat
namespace Go.Proofs.YtjebhhoibofmfaaGreat
open Go.RowKit
def canB(ts:List Tm)(cs:List Cl):Bool:=(eachL ts ts.length [] (-1)).any fun d=>allHoldB d cs
theorem can_sol{ts:List Tm}{cs:List Cl}{b:Bool}{cls:List Int}{sts:List St}(hr:refuseI ts cs=0)(h:SolOk ts cs b cls sts):canB ts cs=b:=by
 obtain⟨hts,hcl⟩:=of_refuse hr
 unfold canB
 cases b with
 | true=>
   obtain⟨g1,g2,g3,g4,_⟩:=h.yes rfl
   exact List.any_eq_true.2 ⟨cls,eachL_all hts g1 g2 g3,g4⟩
 | false=>
   obtain⟨_,g2,g3,g4⟩:=h.no rfl
   rw[List.any_eq_false]
   intro d hd hh
   exact no_model hts hcl g2 g3 g4 d (eachL_only hts hd).2 hh
theorem ways_mem{ts:List Tm}{ys:List Wy}(hm:ys.map Wy.xs=eachL ts ts.length [] (-1)){i:Nat}(hi:i < ys.length):(ys.getD i wy0).xs∈eachL ts ts.length [] (-1):=by
 rw[<-hm,List.getD_eq_getElem?_getD,List.getElem?_eq_getElem hi,Option.getD_some]
 exact List.mem_map.2 ⟨_,List.getElem_mem hi,rfl⟩
theorem can_yes{ts:List Tm}{cs:List Cl}{ys:List Wy}(hm:ys.map Wy.xs=eachL ts ts.length [] (-1)){i:Nat}(hi:i < ys.length)(h:allHoldB (ys.getD i wy0).xs cs=true):canB ts cs=true:=
 List.any_eq_true.2 ⟨_,ways_mem hm hi,h⟩
theorem can_not{ts:List Tm}{cs:List Cl}{ys:List Wy}(hm:ys.map Wy.xs=eachL ts ts.length [] (-1))(h:∀ t,t < ys.length->allHoldB (ys.getD t wy0).xs cs=false):canB ts cs=false:=by
 unfold canB
 rw[List.any_eq_false]
 intro d hd hh
 rw[<-hm]at hd
 obtain⟨y,hy,rfl⟩:=List.mem_map.1 hd
 obtain⟨i,hi,e⟩:=List.getElem_of_mem hy
 have:=h i hi
 rw[List.getD_eq_getElem?_getD,List.getElem?_eq_getElem hi,Option.getD_some,e,hh]at this
 cases this
set_option maxRecDepth 100000 in
set_option maxHeartbeats 2000000 in
theorem can_any(ta sa:Option Addr)(tc sc:Nat)(ts:List Tm)(cs:List Cl)(w:World)(ht:TermsAt w ta ts)(hcs:ClausesAt w sa cs)(hts:termsB ts=true)(hcl:clausesB ts.length cs=true)(htc:ts.length<=tc) :
 Calls Tryz.prog 28 #[.agg #[.slice ta ts.length tc,.slice sa cs.length sc]] w fun e w'=>e=.returned (.bool (canB ts cs))/\Below w.heap.size w w':=by
 obtain⟨W,hW⟩:∃ W,W=w.alloc (.cells #[.slice ta ts.length tc,.slice sa cs.length sc] 25):=⟨_,rfl⟩
 have hbW:Below w.heap.size w W:=by rw[hW];exact below_alloc _ _
 have p0:W.cell? ⟨w.heap.size,0,none⟩=some (.slice ta ts.length tc):=by rw[hW];simp
 have p1:W.cell? ⟨w.heap.size,1,none⟩=some (.slice sa cs.length sc):=by rw[hW];simp
 have hT:=ht.below hbW
 have hC:=hcs.below hbW
 have Hts:=hide hts
 have Hcl:=hide hcl
 clear ht hcs hts hcl
 go_enter Tryz.func28,Tryz.ntmps28
 go_upto_region 1 with fail
 rw[<-hW]
 clear hW
 have hcon:=all_any ta tc ts W hT Hts.out htc
 have Hcon:=hide hcon
 clear hcon
 go_wp2_with fail
 refine Hcon.out.mono ?_
 rintro e w1 ⟨ya,yc,ys,rfl,hys,hmap,hy9,hb1⟩
 have hbw:Below w.heap.size w w1:=hbW.trans (hb1.mono hbW.size)
 have q0:=cell_below hb1 p0
 have q1:=cell_below hb1 p1
 have hC1:=hC.below hb1
 have Hmap:=hide hmap
 clear hmap Hcon p0 p1 hT hC hb1 hbW
 have hBs:w.heap.size<=w1.heap.size:=hbw.size
 go_wp2_with fail
 go_loopg [4] ys.length (fun g s wr=>∃ i:Nat,g=ys.length - i/\i<=ys.length/\s=.int .i64 i/\Hid (∀ t,t < i->allHoldB (ys.getD t wy0).xs cs=false)/\Below w1.heap.size w1 wr)
 case atStart=>exact⟨0,by omega,by omega,rfl,(fun t ht=>by omega),Below.refl _ _⟩
 case round=>
  obtain⟨i,rfl,hi,rfl,Hno,hbr⟩:=hrel
  have hbwr:Below w.heap.size w wr:=hbw.trans (hbr.mono hBs)
  by_cases hlt:i < ys.length
  ·obtain⟨yb,yo,rfl,ycell⟩:=(hys.below hbr).get hlt
   obtain⟨y1,y2⟩:=ycell i hlt
   have hl:=(eachL_only Hts.out (ways_mem Hmap.out hlt)).1
   have Hy:Hid (allHoldB (ys.getD i wy0).xs cs=true->canB ts cs=true):=fun h=>can_yes Hmap.out hlt h
   have Hn:Hid (allHoldB (ys.getD i wy0).xs cs=false->∀ t,t < i+1->allHoldB (ys.getD t wy0).xs cs=false):=fun h=>(upto_succ Hno.out h:∀ t,t < i+1->allHoldB (ys.getD t wy0).xs cs=false)
   generalize ys.getD i wy0=y at *
   obtain⟨xa,xc,xs⟩:=y
   simp only[wyVal]at y1 y2 hl
   have hcon:=fun u:Up wr=>rHolds_any ta sa xa ts.length tc sc xc cs xs u.world ((hC1.below hbr).below u.above) (y2.below u.above) (by rw[hl];exact clausesIn_of Hcl.out)
   have Hb:Hid (∀ b,allHoldB xs cs=b->(b=true->canB ts cs=true)/\(b=false->∀ t,t < i+1->allHoldB (ys.getD t wy0).xs cs=false)):=fun b e=>by rw[<-e];exact⟨Hy.out,Hn.out⟩
   have c0:=cell_below hbr q0
   have c1:=cell_below hbr q1
   have ilt:(i:Int) < (ys.length:Int):=by omega
   have i0:(0:Int)<=(i:Int):=by omega
   generalize hbb:allHoldB xs cs=bb at *
   have HB:=hide (Hb.out bb rfl)
   have Hcon:Hid (∀ u:Up wr,Calls Tryz.prog 61 #[.agg #[.slice ta ts.length tc,.slice sa cs.length sc],.slice xa xs.length xc] u.world fun e w'=>e=.returned (.bool bb)/\Below u.world.heap.size u.world w'):=hcon
   clear ycell hcon Hy Hn Hb hbb hl
   have hne:Nonempty (Up wr):=⟨⟨wr,Below.refl _ _⟩⟩
   have d0:∀ u:Up wr,u.world.cell? ⟨w.heap.size,0,none⟩=some (.slice ta ts.length tc):=fun u=>u.cell c0
   have d1:∀ u:Up wr,u.world.cell? ⟨w.heap.size,1,none⟩=some (.slice sa cs.length sc):=fun u=>u.cell c1
   have d2:∀ u:Up wr,u.world.cell? ⟨yb,yo+i,none⟩=some (.slice xa xs.length xc):=fun u=>u.cell y1
   go_upto_region 5 with fail
   refine wp_region_up (by kernel_rfl) (by kernel_rfl) ?_
   repeat (go_big_quiet_step ((go_at_call 61; exact calls_up (Hcon.out _))))
   refine wpQuiet_nil ?_
   intro _ hw'
   obtain⟨nq,hw''⟩:=hw'
   subst hw''
   have hbc:=nq.above
   have hbr2:Below w1.heap.size w1 nq.world:=hbr.trans (hbc.mono hbr.size)
   have hbw2:Below w.heap.size w nq.world:=hbw.trans (hbr2.mono hBs)
   clear d0 d1 d2 hne
   cases bb with
   | true=>
     go_wp2_with fail
     go_ret
     rw[HB.out.1 trivial]
     exact⟨rfl,hbw2⟩
   | false=>
     go_wp2_with fail
     go_roundg (ys.length - (i+1))
     case measure=>omega
     case rel=>exact⟨i+1,rfl,by omega,by go_num,HB.out.2 trivial,hbr2⟩
  ·have Hf:Hid (canB ts cs=false):=can_not Hmap.out (fun t ht=>Hno.out t (by omega))
   go_wp2_with fail
   go_ret
   rw[Hf.out]
   exact⟨rfl,hbwr⟩
end Go.Proofs.YtjebhhoibofmfaaGreat
