import Derived.Test.YtjebhhoibofmfaaGreatBMPf
import Derived.Test.YtjebhhoibofmfaaGreatBMCl
import Derived.Test.YtjebhhoibofmfaaGreatBMLt
import Derived.Test.YtjebhhoibofmfaaGreatBXLtQ
import Derived.Test.YtjebhhoibofmfaaGreatBMSa
import Derived.Deep.RegionHeld3
import Derived.BigQuiet
namespace Go.Proofs.YtjebhhoibofmfaaGreat
open Go.RowKit
def othN(a b t:Nat):Nat×Bool:=if t=a then(b,true)else if t=b then(a,true)else(0,false)
set_option maxRecDepth 100000 in
set_option maxHeartbeats 1000000 in
theorem other_any(a b t:Nat)(w:World) :
 Calls Tryz.prog 151 #[.agg #[.int .i64 a,.int .i64 b],.int .i64 t] w fun e w'=>e=.returned (.tuple #[.int .i64 (othN a b t).1,.bool (othN a b t).2])/\Below w.heap.size w w':=by
 by_cases h1:t=a
 ·subst h1
  have H:Hid (othN t b t=(b,true)):=by show othN t b t=_;simp[othN]
  go_enter Tryz.func151,Tryz.ntmps151
  go_wp2_with fail
  go_ret2
  rw[H.out]
  exact⟨rfl,below_alloc _ _⟩
 ·by_cases h2:t=b
  ·subst h2
   have H:Hid (othN a t t=(a,true)):=by show othN a t t=_;simp[othN,h1]
   have hb:((t:Int) == (a:Int))=false:=by simp;omega
   have h1':(t:Int)≠(a:Int):=by omega
   go_enter Tryz.func151,Tryz.ntmps151
   go_wp2_with fail
   go_ret2
   rw[H.out]
   exact⟨rfl,below_alloc _ _⟩
  ·have H:Hid (othN a b t=(0,false)):=by show othN a b t=_;simp[othN,h1,h2]
   have hb:((t:Int) == (a:Int))=false:=by simp;omega
   have hb2:((t:Int) == (b:Int))=false:=by simp;omega
   go_enter Tryz.func151,Tryz.ntmps151
   go_wp2_with fail
   go_ret2
   rw[H.out]
   exact⟨rfl,below_alloc _ _⟩
def LinksIn(n:Nat)(L:List Pr):Prop:=∀ i,i < L.length->∃ a b:Nat,L.getD i pr0=⟨a,b⟩/\a < n/\b < n
theorem natL_mem{n:Nat}{L:List Pr}(h:LinksIn n L){a b:Nat}:(a,b)∈natL L↔∃ i,i < L.length/\L.getD i pr0=⟨a,b⟩:=by
 unfold natL
 rw[List.mem_reverse,List.mem_map]
 constructor
 ·rintro⟨p,hp,e⟩
  obtain⟨i,hi,rfl⟩:=List.getElem_of_mem hp
  obtain⟨a',b',h1,_⟩:=h i hi
  have h2:L[i]=⟨a',b'⟩:=by rw[<-h1,List.getD_eq_getElem?_getD,List.getElem?_eq_getElem hi];rfl
  rw[h2]at e
  injection e with e1 e2
  simp at e1 e2
  subst e1
  subst e2
  exact⟨i,hi,h1⟩
 ·rintro⟨i,hi,e⟩
  refine⟨L[i],List.getElem_mem hi,?_⟩
  have h2:L[i]=⟨a,b⟩:=by rw[<-e,List.getD_eq_getElem?_getD,List.getElem?_eq_getElem hi];rfl
  rw[h2];rfl
theorem oth_adj{n:Nat}{L:List Pr}(h:LinksIn n L){i a b t:Nat}(hi:i < L.length)(e:L.getD i pr0=⟨a,b⟩)(ho:(othN a b t).2=true):adj (natL L) t (othN a b t).1:=by
 unfold othN at *
 have hm:=(natL_mem h).2 ⟨i,hi,e⟩
 split
 ·rename_i h1;subst h1;exact .inl hm
 ·rename_i h1
  rw[if_neg h1]at ho
  split
  ·rename_i h2;subst h2;exact .inr hm
  ·rename_i h2;rw[if_neg h2]at ho;cases ho
theorem adj_oth{n:Nat}{L:List Pr}(h:LinksIn n L){t y:Nat}(ha:adj (natL L) t y):∃ i a b,i < L.length/\L.getD i pr0=⟨(a:Nat),(b:Nat)⟩/\othN a b t=(y,true):=by
 rcases ha with ha | ha
 ·obtain⟨i,hi,e⟩:=(natL_mem h).1 ha
  exact⟨i,t,y,hi,e,by simp[othN]⟩
 ·obtain⟨i,hi,e⟩:=(natL_mem h).1 ha
  refine⟨i,y,t,hi,e,?_⟩
  unfold othN
  by_cases h1:t=y
  ·rw[if_pos h1,h1]
  ·rw[if_neg h1,if_pos rfl]
def ReachHolds(n:Nat)(L:List Pr)(f:Nat):Prop:=∀(m:Nat) (la:Option Addr) (lc:Nat) (pr:Nat×Nat) (a t back:Nat) (w:World),PairsAt w la L->a < n->adj (natL L) a back->side (natL L) n a back<=f ->
 Calls Tryz.prog 152 #[.agg #[.pointer (some ⟨m,0,none⟩),.slice la L.length lc,.int .u64 pr.1,.int .u64 pr.2],.int .i64 a,.int .i64 t,.int .i64 back] w fun e w'=>
  e=.returned (.bool (rch (natL L) a t back))/\Below w.heap.size w w'
theorem side_pos{M:List (Nat×Nat)}{n a back:Nat}(ha:a < n):0 < side M n a back:=by
 unfold side
 rw[List.countP_pos_iff]
 exact⟨a,List.mem_range.2 ha,rch_self M a back⟩
set_option maxRecDepth 100000 in
set_option maxHeartbeats 2000000 in
theorem reach_succ{n:Nat}{L:List Pr}(hL:LinksIn n L)(hf:forest (natL L))(hl:L.length<=9)(f:Nat)(ih:ReachHolds n L f):ReachHolds n L (f+1):=by
 intro m la lc pr a t back w hp han hadj hside
 obtain⟨p1,p2⟩:=pr
 obtain⟨W,hW⟩:∃ W,W=w.alloc (.cells #[.pointer (some ⟨m,0,none⟩),.slice la L.length lc,.int .u64 p1,.int .u64 p2] 206):=⟨_,rfl⟩
 have hbW:Below w.heap.size w W:=by rw[hW];exact below_alloc _ _
 have c0:W.cell? ⟨w.heap.size,0,none⟩=some (.pointer (some ⟨m,0,none⟩)):=by rw[hW];simp
 have c1:W.cell? ⟨w.heap.size,1,none⟩=some (.slice la L.length lc):=by rw[hW];simp
 have c2:W.cell? ⟨w.heap.size,2,none⟩=some (.int .u64 p1):=by rw[hW];simp
 have c3:W.cell? ⟨w.heap.size,3,none⟩=some (.int .u64 p2):=by rw[hW];simp
 have Hih:=hide ih
 have Hp:=hide (hp.below hbW)
 have HbW:=hide hbW
 have Hadj:=hide hadj
 have Hside:=hide hside
 have HL:=hide hL
 have Hf:=hide hf
 clear ih hp hbW hadj hside hL hf
 by_cases hat:a=t
 ·subst hat
  have Hr:=hide (rch_self (natL L) a back)
  go_enter Tryz.func152,Tryz.ntmps152
  go_upto_region 1 with fail
  rw[<-hW]
  clear hW
  go_wp2_with fail
  go_ret
  rw[Hr.out]
  exact⟨rfl,HbW.out⟩
 ·have hb:((a:Int) == (t:Int))=false:=by simp;omega
  have Hat:=hide hat
  have hat':(a:Int)≠(t:Int):=by omega
  go_enter Tryz.func152,Tryz.ntmps152
  go_upto_region 1 with fail
  rw[<-hW]
  clear hW
  go_wp2_with fail
  go_loopg [19] L.length (fun q v wx=>∃ j:Nat,q=L.length - j/\j<=L.length/\v=.int .i64 j/\Hid (∀ i,i < j->∀ x y:Nat,L.getD i pr0=⟨x,y⟩->(othN x y a).2=true->(othN x y a).1≠back->rch (natL L) (othN x y a).1 t a=false)/\Below W.heap.size W wx)
  case atStart=>exact⟨0,rfl,Nat.zero_le _,rfl,(fun i hi=>absurd hi (by omega)),Below.refl _ _⟩
  case round=>
   obtain⟨j,rfl,hj,rfl,Hall,hbx⟩:=hrel
   by_cases hlt:j < L.length
   ·obtain⟨pb,po,hpa,pcell⟩:=(Hp.out.below hbx).get hlt
    obtain⟨g1,g2⟩:=pcell j hlt
    obtain⟨x,y,hxy,hx,hy⟩:=HL.out j hlt
    rw[hxy]at g1 g2
    subst hpa
    have Hxy:=hide hxy
    clear pcell hxy
    simp only at g1 g2
    have d0:=cell_below hbx c0
    have d1:=cell_below hbx c1
    have d2:=cell_below hbx c2
    have d3:=cell_below hbx c3
    have hgl:=block_lt g1
    have hdl:=block_lt d0
    obtain⟨W2,hW2⟩:∃ W2,W2=wr.alloc (.cells #[.int .i64 x,.int .i64 y] 58):=⟨_,rfl⟩
    have hbA:Below wr.heap.size wr W2:=by rw[hW2];exact below_alloc _ _
    have e0:W2.cell? ⟨wr.heap.size,0,none⟩=some (.int .i64 x):=by rw[hW2];simp
    have e1:W2.cell? ⟨wr.heap.size,1,none⟩=some (.int .i64 y):=by rw[hW2];simp
    have hbB:Below W.heap.size W W2:=hbx.trans (hbA.mono hbx.size)
    have Ho:=hide (other_any x y a W2)
    go_upto_region 6 with fail
    rw[<-hW2]
    clear hW2 hbA g1 g2
    go_wp2_with fail
    refine Ho.out.mono ?_
    rintro e w4 ⟨rfl,hb4⟩
    clear Ho
    have hbC:Below W.heap.size W w4:=hbB.trans (hb4.mono hbB.size)
    have q0:=cell_below hbC c0
    have q1:=cell_below hbC c1
    have q2:=cell_below hbC c2
    have q3:=cell_below hbC c3
    have Hadj2:Hid ((othN x y a).2=true->adj (natL L) a (othN x y a).1):=fun h=>oth_adj HL.out hlt Hxy.out h
    have Hnext:Hid (((othN x y a).2=true->(othN x y a).1≠back->rch (natL L) (othN x y a).1 t a=false)->∀ i,i < j+1->∀ x y:Nat,L.getD i pr0=⟨x,y⟩->(othN x y a).2=true->(othN x y a).1≠back->rch (natL L) (othN x y a).1 t a=false):=by
     intro hh i hi x' y' e1 e2 e3
     by_cases hi':i < j
     ·exact Hall.out i hi' x' y' e1 e2 e3
     ·have hij:i=j:=by omega
      subst hij
      rw[Hxy.out]at e1
      injection e1 with e4 e5
      have e4:=Int.ofNat.inj e4
      have e5:=Int.ofNat.inj e5
      subst e4
      subst e5
      exact hh e2 e3
    clear e0 e1 d0 d1 d2 d3 hb4 hbB hgl hdl Hall
    generalize hoo:othN x y a=oo at *
    obtain⟨o1,o2⟩:=oo
    have Hoo:=hide hoo
    clear hoo
    cases o2
    ·go_wp2_with fail
     go_roundg (L.length - (j+1))
     case measure=>omega
     case rel=>exact⟨j+1,rfl,by omega,by go_num,Hnext.out (fun h=>by cases h),hbC⟩
    ·by_cases hob:o1=back
     ·subst hob
      have hnb:((o1:Int) != (o1:Int))=false:=by simp
      go_wp2_with fail
      go_roundg (L.length - (j+1))
      case measure=>omega
      case rel=>exact⟨j+1,rfl,by omega,by go_num,Hnext.out (fun _ h=>absurd rfl h),hbC⟩
     ·have hnb:((o1:Int) != (back:Int))=true:=by simp;omega
      have hob':(o1:Int)≠(back:Int):=by omega
      have hadj2:adj (natL L) a o1:=Hadj2.out rfl
      have ho1n:o1 < n:=by
       rcases hadj2 with h1 | h1
       ·obtain⟨i,hi,e⟩:=(natL_mem HL.out).1 h1
        obtain⟨a',b',e2,h3,h4⟩:=HL.out i hi
        rw[e]at e2
        injection e2 with e3 e4
        omega
       ·obtain⟨i,hi,e⟩:=(natL_mem HL.out).1 h1
        obtain⟨a',b',e2,h3,h4⟩:=HL.out i hi
        rw[e]at e2
        injection e2 with e3 e4
        omega
      have hsd:=side_lt Hf.out hadj2 han hob
      have Hrec:=hide (Hih.out m (some ⟨pb,po,none⟩) lc (p1,p2) o1 t a w4 (Hp.out.below hbC) ho1n (adj_symm hadj2) (by have:=Hside.out;omega))
      have Hstep:Hid (rch (natL L) o1 t a=true->rch (natL L) a t back=true):=fun h=>rch_step Hf.out hadj2 hob h
      clear hadj2 hsd
      generalize hrb:rch (natL L) o1 t a=rb at *
      have Hrb:=hide hrb
      clear hrb
      go_wp2_with fail
      refine Hrec.out.mono ?_
      rintro e w5 ⟨rfl,hb5⟩
      clear Hrec
      have hbD:Below W.heap.size W w5:=hbC.trans (hb5.mono hbC.size)
      cases rb
      ·go_wp2_with fail
       go_roundg (L.length - (j+1))
       case measure=>omega
       case rel=>exact⟨j+1,rfl,by omega,by go_num,Hnext.out (fun _ _=>by first | exact Hrb.out | trivial),hbD⟩
      ·have Hres:=hide (Hstep.out rfl)
       go_wp2_with fail
       go_ret
       rw[Hres.out]
       exact⟨rfl,HbW.out.trans (hbD.mono HbW.out.size)⟩
   ·have Hres:Hid (rch (natL L) a t back=false):=by
     refine rch_none Hf.out Hat.out (fun y hy hyb=>?_)
     obtain⟨i,x',y',hi,e1,e2⟩:=adj_oth HL.out hy
     have:=Hall.out i (by omega) x' y' e1 (by rw[e2]) (by rw[e2];exact hyb)
     rw[e2]at this
     exact this
    go_wp2_with fail
    go_ret
    rw[Hres.out]
    exact⟨rfl,HbW.out.trans (hbx.mono HbW.out.size)⟩
theorem reach_all{n:Nat}{L:List Pr}(hL:LinksIn n L)(hf:forest (natL L))(hl:L.length<=9):∀ f,ReachHolds n L f
 | 0=>fun _ _ _ _ a _ back _ _ ha _ hs=>absurd (side_pos (M:=natL L) (back:=back) ha) (by omega)
 | f+1=>reach_succ hL hf hl f (reach_all hL hf hl f)
end Go.Proofs.YtjebhhoibofmfaaGreat
namespace Go.Proofs.YtjebhhoibofmfaaGreat
open Go.RowKit
def Off(D F:List Nat)(w:World):Prop:=∀ b∈D,b ∉ F/\b < w.heap.size
theorem Off.step{D F F':List Nat}{w w':World}(h:Off D F w)(hf:Fresh F F' w)(hs:w.heap.size<=w'.heap.size):Off D F' w':=fun b hb=>by
 obtain⟨h1,h2⟩:=h b hb
 refine⟨fun h3=>?_,by omega⟩
 rcases hf b h3 with h4 | h4
 ·exact h1 h4
 ·omega
theorem PairsAt.keep{F:List Nat}{w w':World}{a:Option Addr}{ps:List Pr}(h:PairsAt w a ps)(hk:Keeps F w w')(hn:∀ b∈blkOf a,b ∉ F):PairsAt w' a ps:=by
 rcases h with h | ⟨b,o,rfl,h⟩
 ·exact .inl h
 ·exact .inr ⟨b,o,rfl,fun i hi=>⟨hk.cell (hn b (by simp[blkOf])) (h i hi).1,hk.cell (hn b (by simp[blkOf])) (h i hi).2⟩⟩
theorem LitsAt.keep{F:List Nat}{w w':World}{a:Option Addr}{ls:List Lt}(h:LitsAt w a ls)(hk:Keeps F w w')(hn:∀ b∈blkOf a,b ∉ F):LitsAt w' a ls:=by
 rcases h with h | ⟨b,o,rfl,h⟩
 ·exact .inl h
 ·exact .inr ⟨b,o,rfl,fun i hi=>⟨hk.cell (hn b (by simp[blkOf])) (h i hi).1,hk.cell (hn b (by simp[blkOf])) (h i hi).2.1,hk.cell (hn b (by simp[blkOf])) (h i hi).2.2⟩⟩
theorem own_lt{w:World}{base size n c:Nat}{e:TypeId}{a:Option Addr}{xs:List Value}(h:w.ownsRow base e size (.slice a n c) n xs):∀ b∈blkOf a,base<=b/\b < w.heap.size:=by
 intro b hb
 refine h.lt b ?_
 cases a with
 | none=>simp[blkOf]at hb
 | some a=>simp[blkOf]at hb;simp[Value.ownBlock,hb]
theorem PP.lt{w:World}{m:Nat}{F:List Nat}{tv cv:Value}{P:Pf}(h:PP w m F tv cv P):∀ b∈F,b < w.heap.size:=by
 obtain⟨_,la,lc,va,vc,mb,D,hF,hm,hla,hva,hmap,hD⟩:=h
 intro b hb
 rw[hF]at hb
 simp only[List.mem_cons,List.mem_append]at hb
 rcases hb with rfl | rfl | hb | hb
 ·exact(Array.getElem?_eq_some_iff.1 hm).1
 ·exact hmap.lt
 ·exact(own_lt hla b hb).2
 ·exact(own_lt hva b hb).2
structure Wc where
 E:Env
 ts:List Tm
 cs:List Cl
 w0:World
 ta:Option Addr
 sa:Option Addr
 tc:Nat
 sc:Nat
 m:Nat
 la:Option Addr
 lc:Nat
 L:List Pr
 p1:Nat
 p2:Nat
structure Wc.Ok (c:Wc):Prop where
 hX:CutHolds
 hE:EnvOf c.E c.ts c.cs
 hts:termsB c.ts=true
 hcl:clausesB c.ts.length c.cs=true
 ht:TermsAt c.w0 c.ta c.ts
 hcs:ClausesAt c.w0 c.sa c.cs
 hL:LinksIn c.ts.length c.L
 hf:forest (natL c.L)
 hl:c.L.length<=9
 h1:c.p1 < 18446744073709551616
 h2:c.p2 < 18446744073709551616
def Wc.At(c:Wc)(w:World)(F:List Nat)(P:Pf):Prop:=
 Below c.w0.heap.size c.w0 w/\(∀ k∈F,c.w0.heap.size<=k)/\PP w c.m F (.slice c.ta c.ts.length c.tc) (.slice c.sa c.cs.length c.sc) P/\PairsAt w c.la c.L/\Off (blkOf c.la) F w
theorem Wc.At.step{c:Wc}{w w':World}{F F':List Nat}{P P':Pf}(h:c.At w F P)(hP:PP w' c.m F' (.slice c.ta c.ts.length c.tc) (.slice c.sa c.cs.length c.sc) P')(hf:Fresh F F' w)(hk:Keeps F w w'):c.At w' F' P':=by
 obtain⟨h1,h2,h3,h4,h5⟩:=h
 refine⟨hk.below h1 h1.size h2,fun k hk'=>?_,hP,h4.keep hk (fun b hb=>(h5 b hb).1),h5.step hf hk.size⟩
 rcases hf k hk' with h6 | h6
 ·exact h2 k h6
 ·exact Nat.le_trans h1.size h6
theorem Wc.At.up{c:Wc}{w w':World}{F:List Nat}{P:Pf}(h:c.At w F P)(hb:Below w.heap.size w w'):c.At w' F P:=
 h.step (h.2.2.1.keep (keeps_below hb) (by simp)) (Fresh.refl _ _) (Keeps.of hb)
def Wc.val(c:Wc):Value:=.agg #[.pointer (some ⟨c.m,0,none⟩),.slice c.la c.L.length c.lc,.int .u64 c.p1,.int .u64 c.p2]
def Wc.Makes(c:Wc)(w:World)(F:List Nat)(k:Nat)(P:Pf)(e:Ending)(w':World):Prop:=
 e=.returned (.int .i64 k)/\∃ F',PP w' c.m F' (.slice c.ta c.ts.length c.tc) (.slice c.sa c.cs.length c.sc) P/\Fresh F F' w/\Keeps F w w'
def EqHolds(c:Wc)(f:Nat):Prop:=∀(a b:Nat) (P P':Pf) (k:Nat) (F:List Nat) (w:World),c.At w F P->eqP c.E (natL c.L) (c.p1,c.p2) f a b P=some (k,P') ->
 Calls Tryz.prog 145 #[.agg #[.pointer (some ⟨c.m,0,none⟩),.slice c.la c.L.length c.lc,.int .u64 c.p1,.int .u64 c.p2],.int .i64 a,.int .i64 b] w (c.Makes w F k P')
def CutsHolds(c:Wc)(f:Nat):Prop:=∀(k:Nat) (P P':Pf) (k':Nat) (F:List Nat) (w:World),c.At w F P->k < P.ss.length->cutsP c.E (c.p1,c.p2) (eqP c.E (natL c.L) (c.p1,c.p2) f) (inOrd (clOf P k).1 (clOf P k).2) k P=some (k',P') ->
 Calls Tryz.prog 148 #[.agg #[.pointer (some ⟨c.m,0,none⟩),.slice c.la c.L.length c.lc,.int .u64 c.p1,.int .u64 c.p2],.int .i64 k] w (c.Makes w F k' P')
set_option maxRecDepth 100000 in
set_option maxHeartbeats 2000000 in
theorem nextTo_any{n:Nat}{L:List Pr}(hL:LinksIn n L)(hf:forest (natL L))(hl:L.length<=9)(m:Nat)(la:Option Addr)(lc p1 p2:Nat)(a b:Nat)(w:World)(hp:PairsAt w la L)(_:a < n)(hab:a≠b)(hc:conn (natL L) a b=true) :
 Calls Tryz.prog 147 #[.agg #[.pointer (some ⟨m,0,none⟩),.slice la L.length lc,.int .u64 p1,.int .u64 p2],.int .i64 a,.int .i64 b] w fun e w'=>e=.returned (.int .i64 (nx (natL L) a b:Nat))/\Below w.heap.size w w':=by
 obtain⟨W,hW⟩:∃ W,W=w.alloc (.cells #[.pointer (some ⟨m,0,none⟩),.slice la L.length lc,.int .u64 p1,.int .u64 p2] 206):=⟨_,rfl⟩
 have hbW:Below w.heap.size w W:=by rw[hW];exact below_alloc _ _
 have c0:W.cell? ⟨w.heap.size,0,none⟩=some (.pointer (some ⟨m,0,none⟩)):=by rw[hW];simp
 have c1:W.cell? ⟨w.heap.size,1,none⟩=some (.slice la L.length lc):=by rw[hW];simp
 have c2:W.cell? ⟨w.heap.size,2,none⟩=some (.int .u64 p1):=by rw[hW];simp
 have c3:W.cell? ⟨w.heap.size,3,none⟩=some (.int .u64 p2):=by rw[hW];simp
 have Hih:=hide (reach_all hL hf hl)
 have Hp:=hide (hp.below hbW)
 have HbW:=hide hbW
 have Hc:=hide hc
 have HL:=hide hL
 have Hf:=hide hf
 have Hab:=hide hab
 clear hp hbW hc hL hf hab
 go_enter Tryz.func147,Tryz.ntmps147
 go_upto_region 1 with fail
 rw[<-hW]
 clear hW
 go_wp2_with fail
 go_loopg [14] L.length (fun q v wx=>∃ j:Nat,q=L.length - j/\j<=L.length/\v=.int .i64 j/\Hid (∀ i,i < j->∀ x y:Nat,L.getD i pr0=⟨x,y⟩->(othN x y a).2=true->rch (natL L) (othN x y a).1 b a=false)/\Below W.heap.size W wx)
 case atStart=>exact⟨0,rfl,Nat.zero_le _,rfl,(fun i hi=>absurd hi (by omega)),Below.refl _ _⟩
 case round=>
  obtain⟨j,rfl,hj,rfl,Hall,hbx⟩:=hrel
  by_cases hlt:j < L.length
  ·obtain⟨pb,po,hpa,pcell⟩:=(Hp.out.below hbx).get hlt
   obtain⟨g1,g2⟩:=pcell j hlt
   obtain⟨x,y,hxy,hx,hy⟩:=HL.out j hlt
   rw[hxy]at g1 g2
   subst hpa
   have Hxy:=hide hxy
   clear pcell hxy
   simp only at g1 g2
   have d0:=cell_below hbx c0
   have d1:=cell_below hbx c1
   have d2:=cell_below hbx c2
   have d3:=cell_below hbx c3
   have hgl:=block_lt g1
   have hdl:=block_lt d0
   obtain⟨W2,hW2⟩:∃ W2,W2=wr.alloc (.cells #[.int .i64 x,.int .i64 y] 58):=⟨_,rfl⟩
   have hbA:Below wr.heap.size wr W2:=by rw[hW2];exact below_alloc _ _
   have e0:W2.cell? ⟨wr.heap.size,0,none⟩=some (.int .i64 x):=by rw[hW2];simp
   have e1:W2.cell? ⟨wr.heap.size,1,none⟩=some (.int .i64 y):=by rw[hW2];simp
   have hbB:Below W.heap.size W W2:=hbx.trans (hbA.mono hbx.size)
   have Ho:=hide (other_any x y a W2)
   go_upto_region 4 with fail
   rw[<-hW2]
   clear hW2 hbA g1 g2
   go_wp2_with fail
   refine Ho.out.mono ?_
   rintro e w4 ⟨rfl,hb4⟩
   clear Ho
   have hbC:Below W.heap.size W w4:=hbB.trans (hb4.mono hbB.size)
   have q0:=cell_below hbC c0
   have q1:=cell_below hbC c1
   have q2:=cell_below hbC c2
   have q3:=cell_below hbC c3
   have Hadj2:Hid ((othN x y a).2=true->adj (natL L) a (othN x y a).1):=fun h=>oth_adj HL.out hlt Hxy.out h
   have Hnext:Hid (((othN x y a).2=true->rch (natL L) (othN x y a).1 b a=false)->∀ i,i < j+1->∀ x y:Nat,L.getD i pr0=⟨x,y⟩->(othN x y a).2=true->rch (natL L) (othN x y a).1 b a=false):=by
    intro hh i hi x' y' e1 e2
    by_cases hi':i < j
    ·exact Hall.out i hi' x' y' e1 e2
    ·have hij:i=j:=by omega
     subst hij
     rw[Hxy.out]at e1
     injection e1 with e4 e5
     have e4:=Int.ofNat.inj e4
     have e5:=Int.ofNat.inj e5
     subst e4
     subst e5
     exact hh e2
   clear e0 e1 d0 d1 d2 d3 hb4 hbB hgl hdl Hall
   generalize hoo:othN x y a=oo at *
   obtain⟨o1,o2⟩:=oo
   have Hoo:=hide hoo
   clear hoo
   cases o2
   ·go_wp2_with fail
    go_roundg (L.length - (j+1))
    case measure=>omega
    case rel=>exact⟨j+1,rfl,by omega,by go_num,Hnext.out (fun h=>by cases h),hbC⟩
   ·have hadj2:adj (natL L) a o1:=Hadj2.out rfl
    have ho1n:o1 < n:=by
     rcases hadj2 with h1 | h1
     ·obtain⟨i,hi,e⟩:=(natL_mem HL.out).1 h1
      obtain⟨a',b',e2,h3,h4⟩:=HL.out i hi
      rw[e]at e2
      injection e2 with e3 e4
      omega
     ·obtain⟨i,hi,e⟩:=(natL_mem HL.out).1 h1
      obtain⟨a',b',e2,h3,h4⟩:=HL.out i hi
      rw[e]at e2
      injection e2 with e3 e4
      omega
    have Hrec:=hide (Hih.out _ m (some ⟨pb,po,none⟩) lc (p1,p2) o1 b a w4 (Hp.out.below hbC) ho1n (adj_symm hadj2) (Nat.le_refl _))
    have Hstep:Hid (rch (natL L) o1 b a=true->nx (natL L) a b=o1):=fun h=>((rch_iff Hf.out hadj2).1 h).2.2
    clear hadj2
    generalize hrb:rch (natL L) o1 b a=rb at *
    have Hrb:=hide hrb
    clear hrb
    go_wp2_with fail
    refine Hrec.out.mono ?_
    rintro e w5 ⟨rfl,hb5⟩
    clear Hrec
    have hbD:Below W.heap.size W w5:=hbC.trans (hb5.mono hbC.size)
    cases rb
    ·go_wp2_with fail
     go_roundg (L.length - (j+1))
     case measure=>omega
     case rel=>exact⟨j+1,rfl,by omega,by go_num,Hnext.out (fun _=>by first | exact Hrb.out | trivial),hbD⟩
    ·have Hres:=hide (Hstep.out rfl)
     go_wp2_with fail
     go_ret
     rw[Hres.out]
     exact⟨rfl,HbW.out.trans (hbD.mono HbW.out.size)⟩
  ·have Hres:Hid False:=by
    obtain⟨n1,n2,n3⟩:=nx_near Hf.out Hc.out Hab.out
    obtain⟨i,x',y',hi,e1,e2⟩:=adj_oth HL.out n1
    have:=Hall.out i (by omega) x' y' e1 (by rw[e2])
    rw[e2,(rch_iff Hf.out n1).2 ⟨Hc.out,Hab.out,rfl⟩]at this
    cases this
   exact Hres.out.elim
end Go.Proofs.YtjebhhoibofmfaaGreat
namespace Go.Proofs.YtjebhhoibofmfaaGreat
open Go.RowKit
theorem Makes.step{c:Wc}{w w' w1:World}{F F1:List Nat}{k:Nat}{P:Pf}{e:Ending}(hf:Fresh F F1 w)(hk:Keeps F w w1)(h:c.Makes w1 F1 k P e w'):c.Makes w F k P e w':=by
 obtain⟨h1,F',h2,h3,h4⟩:=h
 exact⟨h1,F',h2,hf.trans h3 hk.size,hk.tran h4 hf⟩
theorem keepW{W w':World}{F:List Nat}{b:Nat}{x0 x1 x2 x3:Value}(h:W.cell? ⟨b,0,none⟩=some x0/\W.cell? ⟨b,1,none⟩=some x1/\W.cell? ⟨b,2,none⟩=some x2/\W.cell? ⟨b,3,none⟩=some x3)(hk:Keeps F W w')(hn:b ∉ F) :
 w'.cell? ⟨b,0,none⟩=some x0/\w'.cell? ⟨b,1,none⟩=some x1/\w'.cell? ⟨b,2,none⟩=some x2/\w'.cell? ⟨b,3,none⟩=some x3:=
 ⟨hk.cell hn h.1,hk.cell hn h.2.1,hk.cell hn h.2.2.1,hk.cell hn h.2.2.2⟩
set_option maxRecDepth 100000 in
set_option maxHeartbeats 4000000 in
theorem eq_succ(c:Wc)(hc:c.Ok)(f:Nat)(hcuts:CutsHolds c f):EqHolds c (f+1):=by
 intro a b P P' k F w hA he
 obtain⟨W,hW⟩:∃ W,W=w.alloc (.cells #[.pointer (some ⟨c.m,0,none⟩),.slice c.la c.L.length c.lc,.int .u64 c.p1,.int .u64 c.p2] 206):=⟨_,rfl⟩
 have hbW:Below w.heap.size w W:=by rw[hW];exact below_alloc _ _
 have c0:W.cell? ⟨w.heap.size,0,none⟩=some (.pointer (some ⟨c.m,0,none⟩)):=by rw[hW];simp
 have c1:W.cell? ⟨w.heap.size,1,none⟩=some (.slice c.la c.L.length c.lc):=by rw[hW];simp
 have c2:W.cell? ⟨w.heap.size,2,none⟩=some (.int .u64 c.p1):=by rw[hW];simp
 have c3:W.cell? ⟨w.heap.size,3,none⟩=some (.int .u64 c.p2):=by rw[hW];simp
 have hAW:=hA.up hbW
 have hbF:w.heap.size ∉ F:=fun h=>by have:=hA.2.2.1.lt _ h;omega
 have HAW:=hide hAW
 have HbW:=hide hbW
 have Hcuts:=hide hcuts
 have Hfin:Hid (∀ e w',c.Makes W F k P' e w'->c.Makes w F k P' e w'):=fun e w' h=>Makes.step (Fresh.refl _ _) (Keeps.of HbW.out) h
 unfold eqP at he
 clear hA hAW hbW hcuts
 by_cases hab:a=b
 ·subst hab
  rw[if_pos rfl]at he
  have Hr:=hide (prefl_any hc.hX hc.hE c.m F c.ta c.sa c.tc c.sc P P' a k W (hc.ht.below HAW.out.1) (hc.hcs.below HAW.out.1) hc.hts hc.hcl HAW.out.2.2.1 he)
  clear he
  go_enter Tryz.func145,Tryz.ntmps145
  go_upto_region 1 with fail
  rw[<-hW]
  clear hW
  go_wp2_with fail
  refine Hr.out.mono ?_
  rintro e w' ⟨rfl,h⟩
  have Hh:=hide h
  clear h Hr
  go_wp2_with fail
  go_ret
  exact Hfin.out _ _ ⟨rfl,Hh.out⟩
 ·rw[if_neg hab]at he
  by_cases hcn:(conn (natL c.L) a b && decide (a < c.E.n) && decide (b < c.E.n))=true
  ·rw[if_pos hcn]at he
   simp only[Bool.and_eq_true,decide_eq_true_eq]at hcn
   obtain⟨⟨hcn,han⟩,hbn⟩:=hcn
   rw[hc.hE.n]at han hbn
   have Hnx:=hide (nextTo_any hc.hL hc.hf hc.hl c.m c.la c.lc c.p1 c.p2 a b W HAW.out.2.2.2.1 han hab hcn)
   have hab':(a:Int)≠(b:Int):=by omega
   have hb1:((a:Int) == (b:Int))=false:=by simp;omega
   generalize hnn:nx (natL c.L) a b=y at *
   by_cases hyb:y=b
   ·subst hyb
    rw[if_pos rfl]at he
    cases hadd:addP c.E P (congS a y)with
    | none=>rw[hadd]at he;cases he
    | some r=>
    obtain⟨k1,P1⟩:=r
    rw[hadd,Option.bind_some]at he
    have hk1:k1 < P1.ss.length:=by
     rcases addP_inv hadd with⟨_,⟨h1,h2,h3⟩ | ⟨h1,h2,h3,h4⟩⟩
     ·rw[h2,h3];exact List.idxOf_lt_length_iff.2 h1
     ·rw[h3,h4];simp
    have Hcall:Hid (∀ W',Below W.heap.size W W'->Calls Tryz.prog 149 #[.pointer (some ⟨c.m,0,none⟩),.int .i64 a,.int .i64 y] W' (c.Makes W' F k1 P1)):=by
     intro W' hb'
     have hA':=HAW.out.up hb'
     exact pcong_any hc.hX hc.hE c.m F c.ta c.sa c.tc c.sc P P1 a y k1 W' (hc.ht.below hA'.1) (hc.hcs.below hA'.1) hc.hts hc.hcl hA'.2.2.1 hadd
    have He:=hide he
    have Hk1:=hide hk1
    clear he hadd hk1 hcn
    go_enter Tryz.func145,Tryz.ntmps145
    go_upto_region 1 with fail
    rw[<-hW]
    clear hW
    go_wp2_with fail
    refine Hnx.out.mono ?_
    rintro e w2 ⟨rfl,hb2⟩
    clear Hnx
    replace c0:=cell_below hb2 c0
    replace c1:=cell_below hb2 c1
    replace c2:=cell_below hb2 c2
    replace c3:=cell_below hb2 c3
    have Hb2:=hide hb2
    go_upto_region 5 with fail
    go_region_held3 (fun w'=>w'.cell? ⟨w.heap.size,0,none⟩=some (.pointer (some ⟨c.m,0,none⟩))/\w'.cell? ⟨w.heap.size,1,none⟩=some (.slice c.la c.L.length c.lc)/\w'.cell? ⟨w.heap.size,2,none⟩=some (.int .u64 c.p1)/\w'.cell? ⟨w.heap.size,3,none⟩=some (.int .u64 c.p2))
     (first | exact hS | go_keep)
     (first
       | (go_at_call 149
          refine(Hcall.out _ (by exact hb2.drew)).mono ?_
          rintro e w' ⟨rfl,F1,hP1,hf1,hk1⟩
          have hS:=keepW (by assumption) hk1 hbF)
       | (go_at_call 148
          have hA1:c.At w' F1 P1:=(HAW.out.up hb2.drew).step hP1 hf1 hk1
          have hbF1:w.heap.size ∉ F1:=(Off.step (D:=[w.heap.size]) (w:=w2.drew) (fun b hb=>by simp at hb;subst hb;exact⟨hbF,block_lt (w:=w2.drew) c0⟩) hf1 hk1.size w.heap.size (by simp)).1
          have hS1:=hS
          refine(Hcuts.out k1 P1 P' k F1 w' hA1 Hk1.out He.out).mono ?_
          rintro e w3 ⟨rfl,F2,hP2,hf2,hk2⟩
          have hS:=keepW hS1 hk2 hbF1))
    go_wp2_with fail
    go_ret
    exact Hfin.out _ _ (Makes.step (Fresh.refl _ _) (Keeps.of hb2.drew) (Makes.step hf1 hk1 ⟨rfl,F2,hP2,hf2,hk2⟩))
   ·rw[if_neg hyb]at he
    cases hadd:addP c.E P (transS a y b)with
    | none=>rw[hadd]at he;cases he
    | some r=>
    obtain⟨k1,P1⟩:=r
    rw[hadd,Option.bind_some]at he
    have hk1:k1 < P1.ss.length:=by
     rcases addP_inv hadd with⟨_,⟨h1,h2,h3⟩ | ⟨h1,h2,h3,h4⟩⟩
     ·rw[h2,h3];exact List.idxOf_lt_length_iff.2 h1
     ·rw[h3,h4];simp
    have Hcall:Hid (∀ W',Below W.heap.size W W'->Calls Tryz.prog 150 #[.pointer (some ⟨c.m,0,none⟩),.int .i64 a,.int .i64 y,.int .i64 b] W' (c.Makes W' F k1 P1)):=by
     intro W' hb'
     have hA':=HAW.out.up hb'
     exact ptrans_any hc.hX hc.hE c.m F c.ta c.sa c.tc c.sc P P1 a y b k1 W' (hc.ht.below hA'.1) (hc.hcs.below hA'.1) hc.hts hc.hcl hA'.2.2.1 hadd
    have He:=hide he
    have Hk1:=hide hk1
    have hyb':(y:Int)≠(b:Int):=by omega
    have hb5:((y:Int) == (b:Int))=false:=by simp;omega
    clear he hadd hk1 hcn
    go_enter Tryz.func145,Tryz.ntmps145
    go_upto_region 1 with fail
    rw[<-hW]
    clear hW
    go_wp2_with fail
    refine Hnx.out.mono ?_
    rintro e w2 ⟨rfl,hb2⟩
    clear Hnx
    replace c0:=cell_below hb2 c0
    replace c1:=cell_below hb2 c1
    replace c2:=cell_below hb2 c2
    replace c3:=cell_below hb2 c3
    have Hb2:=hide hb2
    go_upto_region 6 with fail
    go_region_held3 (fun w'=>w'.cell? ⟨w.heap.size,0,none⟩=some (.pointer (some ⟨c.m,0,none⟩))/\w'.cell? ⟨w.heap.size,1,none⟩=some (.slice c.la c.L.length c.lc)/\w'.cell? ⟨w.heap.size,2,none⟩=some (.int .u64 c.p1)/\w'.cell? ⟨w.heap.size,3,none⟩=some (.int .u64 c.p2))
     (first | exact hS | go_keep)
     (first
       | (go_at_call 150
          refine(Hcall.out _ (by exact hb2.drew)).mono ?_
          rintro e w' ⟨rfl,F1,hP1,hf1,hk1⟩
          have hS:=keepW (by assumption) hk1 hbF)
       | (go_at_call 148
          have hA1:c.At w' F1 P1:=(HAW.out.up hb2.drew).step hP1 hf1 hk1
          have hbF1:w.heap.size ∉ F1:=(Off.step (D:=[w.heap.size]) (w:=w2.drew) (fun b hb=>by simp at hb;subst hb;exact⟨hbF,block_lt (w:=w2.drew) c0⟩) hf1 hk1.size w.heap.size (by simp)).1
          have hS1:=hS
          refine(Hcuts.out k1 P1 P' k F1 w' hA1 Hk1.out He.out).mono ?_
          rintro e w3 ⟨rfl,F2,hP2,hf2,hk2⟩
          have hS:=keepW hS1 hk2 hbF1))
    go_wp2_with fail
    go_ret
    exact Hfin.out _ _ (Makes.step (Fresh.refl _ _) (Keeps.of hb2.drew) (Makes.step hf1 hk1 ⟨rfl,F2,hP2,hf2,hk2⟩))
  ·rw[if_neg hcn]at he;cases he
end Go.Proofs.YtjebhhoibofmfaaGreat
namespace Go.Proofs.YtjebhhoibofmfaaGreat
open Go.RowKit
theorem PP.b64{w:World}{m:Nat}{F:List Nat}{tv cv:Value}{P:Pf}(h:PP w m F tv cv P){k:Nat}(hk:k < P.ss.length):(clOf P k).1 < 18446744073709551616/\(clOf P k).2 < 18446744073709551616:=h.1.2.2 _ (getD_memS hk)
theorem keep7{W w':World}{F:List Nat}{b d:Nat}{x0 x1 x2 x3 y0 y1 y2:Value}(h:W.cell? ⟨b,0,none⟩=some x0/\W.cell? ⟨b,1,none⟩=some x1/\W.cell? ⟨b,2,none⟩=some x2/\W.cell? ⟨b,3,none⟩=some x3/\W.cell? ⟨d,0,none⟩=some y0/\W.cell? ⟨d,1,none⟩=some y1/\W.cell? ⟨d,2,none⟩=some y2)
 (hk:Keeps F W w') (hn:b ∉ F) (hd:d ∉ F) :
 w'.cell? ⟨b,0,none⟩=some x0/\w'.cell? ⟨b,1,none⟩=some x1/\w'.cell? ⟨b,2,none⟩=some x2/\w'.cell? ⟨b,3,none⟩=some x3/\w'.cell? ⟨d,0,none⟩=some y0/\w'.cell? ⟨d,1,none⟩=some y1/\w'.cell? ⟨d,2,none⟩=some y2:=
 ⟨hk.cell hn h.1,hk.cell hn h.2.1,hk.cell hn h.2.2.1,hk.cell hn h.2.2.2.1,hk.cell hd h.2.2.2.2.1,hk.cell hd h.2.2.2.2.2.1,hk.cell hd h.2.2.2.2.2.2⟩
set_option maxRecDepth 100000 in
set_option maxHeartbeats 4000000 in
theorem cuts_of(c:Wc)(hc:c.Ok)(f:Nat)(heq:EqHolds c f):CutsHolds c f:=by
 intro k P P' k' F w hA hk he
 obtain⟨W,hW⟩:∃ W,W=w.alloc (.cells #[.pointer (some ⟨c.m,0,none⟩),.slice c.la c.L.length c.lc,.int .u64 c.p1,.int .u64 c.p2] 206):=⟨_,rfl⟩
 have hbW:Below w.heap.size w W:=by rw[hW];exact below_alloc _ _
 have c0:W.cell? ⟨w.heap.size,0,none⟩=some (.pointer (some ⟨c.m,0,none⟩)):=by rw[hW];simp
 have c1:W.cell? ⟨w.heap.size,1,none⟩=some (.slice c.la c.L.length c.lc):=by rw[hW];simp
 have c2:W.cell? ⟨w.heap.size,2,none⟩=some (.int .u64 c.p1):=by rw[hW];simp
 have c3:W.cell? ⟨w.heap.size,3,none⟩=some (.int .u64 c.p2):=by rw[hW];simp
 have hAW:=hA.up hbW
 have hlt:=hA.2.2.1.lt
 have h64:=hA.2.2.1.b64 hk
 have Hcl:=hide (pclause_any c.m F _ _ P k W hAW.2.2.1 hk)
 have HAW:=hide hAW
 have HbW:=hide hbW
 have Heq:=hide heq
 have He:=hide he
 have Hlt:=hide hlt
 have hszW:w.heap.size < W.heap.size:=block_lt c0
 clear hA hAW hbW heq he hlt hk
 generalize clOf P k=q at *
 obtain⟨q1,q2⟩:=q
 simp only at h64
 have H64:=hide h64
 clear h64
 go_enter Tryz.func148,Tryz.ntmps148
 go_upto_region 1 with fail
 rw[<-hW]
 clear hW
 go_wp2_with fail
 refine Hcl.out.mono ?_
 rintro e w1 ⟨rfl,hb1⟩
 clear Hcl
 go_wp2_with fail
 refine(inOrder_any q1 q2 w1 H64.out.1 H64.out.2).mono ?_
 rintro e w2 ⟨lsa,lsc,rfl,hown,hb2⟩
 have hb12:Below W.heap.size W w2:=hb1.trans (hb2.mono hb1.size)
 have hlits:=litsAt_of_own hown
 have hAt2:=HAW.out.up hb12
 have hoff:Off (w.heap.size :: blkOf lsa) F w2:=by
  intro b hb
  rcases List.mem_cons.1 hb with rfl | hb
  ·exact⟨fun h=>by have:=Hlt.out _ h;omega,by have:=hb12.size;omega⟩
  ·have h1:=own_lt hown b hb
   have h2:=hb1.size
   exact⟨fun h=>by have:=Hlt.out _ h;omega,h1.2⟩
 have hS0:w2.cell? ⟨w.heap.size,0,none⟩=some (.pointer (some ⟨c.m,0,none⟩))/\w2.cell? ⟨w.heap.size,1,none⟩=some (.slice c.la c.L.length c.lc)/\w2.cell? ⟨w.heap.size,2,none⟩=some (.int .u64 c.p1)/\w2.cell? ⟨w.heap.size,3,none⟩=some (.int .u64 c.p2):=
  ⟨cell_below hb12 c0,cell_below hb12 c1,cell_below hb12 c2,cell_below hb12 c3⟩
 have Hk2:Hid (Keeps F w w2):=Keeps.of (HbW.out.trans (hb12.mono HbW.out.size))
 have hlen:(inOrd q1 q2).length<=162:=Nat.le_trans (List.length_filter_le _ _) (allL_length 9)
 have Hin:Hid (∀ t∈inOrd q1 q2,t∈allL 9):=fun t ht=>(List.mem_filter.1 ht).1
 generalize inOrd q1 q2=ls at *
 have HAt2:=hide hAt2
 have Hoff:=hide hoff
 have Hlits:=hide hlits
 have HS0:=hide hS0
 clear hb1 hb2 hown hb12 hlits hAt2 hoff hS0 c0 c1 c2 c3 HAW
 go_wp2_with fail
 go_loopg [1,13] ls.length (fun g v s wx=>∃(j k:Nat) (P:Pf) (G:List Nat),g=ls.length - j/\j<=ls.length/\s=.int .i64 j/\v=.int .i64 k/\Hid (cutsP c.E (c.p1,c.p2) (eqP c.E (natL c.L) (c.p1,c.p2) f) (ls.drop j) k P=some (k',P')) /\
  Hid (c.At wx G P)/\Hid (Off (w.heap.size :: blkOf lsa) G wx)/\LitsAt wx lsa ls /\
  (wx.cell? ⟨w.heap.size,0,none⟩=some (.pointer (some ⟨c.m,0,none⟩))/\wx.cell? ⟨w.heap.size,1,none⟩=some (.slice c.la c.L.length c.lc)/\wx.cell? ⟨w.heap.size,2,none⟩=some (.int .u64 c.p1)/\wx.cell? ⟨w.heap.size,3,none⟩=some (.int .u64 c.p2)) /\
  Hid (Fresh F G w)/\Hid (Keeps F w wx))
 case atStart=>exact⟨0,k,P,F,rfl,Nat.zero_le _,rfl,rfl,He,HAt2,Hoff,Hlits.out,HS0.out,Fresh.refl _ _,Hk2⟩
 case round=>
  obtain⟨j,kj,Pj,G,rfl,hj,rfl,rfl,Hj,HAj,Hoffj,hlj,hSj,Hfj,Hkj⟩:=hrel
  by_cases hlt:j < ls.length
  ·obtain⟨lb,lo,rfl,lcell⟩:=hlj.get hlt
   obtain⟨l0,l1,l2⟩:=lcell j hlt
   have Hd:Hid (ls.drop j=ls.getD j lt0 :: ls.drop (j+1)):=by
    show _=_
    rw[List.drop_eq_getElem_cons hlt,List.getD_eq_getElem?_getD,List.getElem?_eq_getElem hlt,Option.getD_some]
   have hta:=allL_low _ (Hin.out _ (getD_mem hlt))
   generalize ls.getD j lt0=t at *
   obtain⟨tx,ty,tn⟩:=t
   simp only at l0 l1 l2 hta
   obtain⟨t1,t2,t3⟩:=hta
   obtain⟨x,rfl⟩:=Int.eq_ofNat_of_zero_le t1
   obtain⟨y,rfl⟩:=Int.eq_ofNat_of_zero_le (Int.le_trans t1 t2)
   have hx9:(x:Int) < 9:=by omega
   have hlb:=block_lt l0
   have Hlj:=hide hlj
   have HSj:=hide hSj
   obtain⟨W2,hW2⟩:∃ W2,W2=wr.alloc (.cells #[.int .i64 x,.int .i64 y,.bool tn] 60):=⟨_,rfl⟩
   have hbA:Below wr.heap.size wr W2:=by rw[hW2];exact below_alloc _ _
   have e0:W2.cell? ⟨wr.heap.size,0,none⟩=some (.int .i64 x):=by rw[hW2];simp
   have e1:W2.cell? ⟨wr.heap.size,1,none⟩=some (.int .i64 y):=by rw[hW2];simp
   have e2:W2.cell? ⟨wr.heap.size,2,none⟩=some (.bool tn):=by rw[hW2];simp
   have hbx:=block_lt hSj.1
   have HbA:=hide hbA
   clear lcell hlj
   go_upto_region 4 with fail
   rw[<-hW2]
   clear hW2 l0 l1 l2 hlb
   obtain⟨s0,s1,s2,s3⟩:=hSj
   replace s0:=cell_below hbA s0
   replace s1:=cell_below hbA s1
   replace s2:=cell_below hbA s2
   replace s3:=cell_below hbA s3
   have HG:Hid (∀ w',Below W2.heap.size W2 w'->c.At w' G Pj/\Off (w.heap.size :: blkOf (some (⟨lb,lo,none⟩:Addr))) G w'/\LitsAt w' (some ⟨lb,lo,none⟩) ls/\(w'.cell? ⟨w.heap.size,0,none⟩=some (.pointer (some ⟨c.m,0,none⟩))/\w'.cell? ⟨w.heap.size,1,none⟩=some (.slice c.la c.L.length c.lc)/\w'.cell? ⟨w.heap.size,2,none⟩=some (.int .u64 c.p1)/\w'.cell? ⟨w.heap.size,3,none⟩=some (.int .u64 c.p2))/\Keeps F w w'):=by
    intro w' hb'
    have hb3:Below wr.heap.size wr w':=HbA.out.trans (hb'.mono HbA.out.size)
    exact⟨HAj.out.up hb3,Hoffj.out.step (Fresh.refl _ _) hb3.size,Hlj.out.below hb3,⟨cell_below hb3 HSj.out.1,cell_below hb3 HSj.out.2.1,cell_below hb3 HSj.out.2.2.1,cell_below hb3 HSj.out.2.2.2⟩,Hkj.out.trans (Keeps.of (F:=[]) hb3) (by simp)⟩
   clear hbA
   cases tn
   ·have Hnx:Hid (cutsP c.E (c.p1,c.p2) (eqP c.E (natL c.L) (c.p1,c.p2) f) (ls.drop (j+1)) kj Pj=some (k',P')):=by
     have:=Hj.out
     rw[Hd.out]at this
     unfold cutsP at this
     rw[if_neg (by simp)]at this
     exact this
    go_quiet (fail)
    go_wp2_with fail
    go_roundg (ls.length - (j+1))
    case measure=>omega
    case rel=>
     obtain⟨h1,h2,h3,h4,h5⟩:=HG.out (W2.drewN nq) (below_drewN (Below.refl _ _) _)
     exact⟨j+1,kj,Pj,G,rfl,by omega,by go_num,rfl,Hnx,h1,h2,h3,h4,Hfj,h5⟩
   ·have hne:Nonempty (Up W2):=⟨⟨W2,Below.refl _ _⟩⟩
    have d0:∀ u:Up W2,u.world.cell? ⟨wr.heap.size,0,none⟩=some (.int .i64 x):=fun u=>u.cell e0
    have d1:∀ u:Up W2,u.world.cell? ⟨wr.heap.size,1,none⟩=some (.int .i64 y):=fun u=>u.cell e1
    have d2:∀ u:Up W2,u.world.cell? ⟨wr.heap.size,2,none⟩=some (.bool true):=fun u=>u.cell e2
    have d3:∀ u:Up W2,u.world.cell? ⟨w.heap.size,2,none⟩=some (.int .u64 c.p1):=fun u=>u.cell s2
    have d4:∀ u:Up W2,u.world.cell? ⟨w.heap.size,3,none⟩=some (.int .u64 c.p2):=fun u=>u.cell s3
    refine wp_region_up (by kernel_rfl) (by kernel_rfl) ?_
    repeat (go_big_quiet_step (fail))
    go_big_quiet_step ((go_at_call 101; exact calls_up (contrary_any ⟨x,y,true⟩ _)))
    repeat (go_big_quiet_step (fail))
    go_big_quiet_step ((go_at_call 75; exact calls_up (has_any (x:Int) (y:Int) false c.p1 c.p2 _ t1 hx9 (Int.le_trans t1 t2) t3 hc.h1 hc.h2)))
    repeat (go_big_quiet_step (fail))
    refine wpQuiet_nil ?_
    intro _ hw'
    obtain⟨nq,hw''⟩:=hw'
    subst hw''
    have hb3:=nq.above
    clear d0 d1 d2 d3 d4 hne
    have g0:=cell_below hb3 e0
    have g1:=cell_below hb3 e1
    have g2:=cell_below hb3 e2
    obtain⟨h1,h2,h3,h4,h5⟩:=HG.out nq.world hb3
    have hlx:wr.heap.size < nq.world.heap.size:=block_lt g0
    generalize nq.world=W3 at *
    obtain⟨r0,r1,r2,r3⟩:=h4
    have hcon:conL (⟨(x:Int),(y:Int),true⟩:Lt)=⟨x,y,false⟩:=rfl
    have Hnx:=hide Hj.out
    rw[Hd.out]at Hnx
    unfold cutsP at Hnx
    rw[hcon]at Hnx
    clear hcon
    clear s0 s1 s2 s3 e0 e1 e2 HG hb3
    generalize hhb:hasS c.p1 c.p2 ⟨x,y,false⟩=hb at *
    have Hhb:=hide hhb
    clear hhb
    have H1:=hide h1
    have H2:=hide h2
    have H3:=hide h3
    have H5:=hide h5
    have hlwx:wr.heap.size ∉ G:=fun h=>by have:=HAj.out.2.2.1.lt _ h;omega
    have hofx:w.heap.size ∉ G:=(Hoffj.out _ List.mem_cons_self).1
    clear h1 h2 h3 h5
    cases hb
    ·have Hcond:=Hnx.out
     rw[if_pos (by simp)]at Hcond
     simp only[Int.toNat_natCast]at Hcond
     cases he1:eqP c.E (natL c.L) (c.p1,c.p2) f x y Pj with
     | none=>rw[he1]at Hcond;cases Hcond
     | some r1=>
     obtain⟨j1,P1⟩:=r1
     rw[he1,Option.bind_some]at Hcond
     cases he2:addP c.E P1 (cutS kj j1 ⟨x,y,true⟩)with
     | none=>simp only at Hcond;rw[he2]at Hcond;cases Hcond
     | some r2=>
     obtain⟨k2,P2⟩:=r2
     simp only at Hcond
     rw[he2,Option.bind_some]at Hcond
     have Hnx2:=hide Hcond
     have Hcall:Hid (∀ W',Below W3.heap.size W3 W'->Calls Tryz.prog 145 #[.agg #[.pointer (some ⟨c.m,0,none⟩),.slice c.la c.L.length c.lc,.int .u64 c.p1,.int .u64 c.p2],.int .i64 x,.int .i64 y] W' (c.Makes W' G j1 P1)):=
      fun W' hb'=>Heq.out x y Pj P1 j1 G W' (H1.out.up hb') he1
     have Hcut:Hid (∀(F1:List Nat) (w':World),c.At w' F1 P1->Calls Tryz.prog 102 #[.pointer (some ⟨c.m,0,none⟩),.int .i64 kj,.int .i64 j1,.agg #[.int .i64 x,.int .i64 y,.bool true]] w' (c.Makes w' F1 k2 P2)):=
      fun F1 w' hA'=>pcut_any hc.hX hc.hE c.m F1 c.ta c.sa c.tc c.sc P1 P2 kj j1 ⟨x,y,true⟩ k2 w' (hc.ht.below hA'.1) (hc.hcs.below hA'.1) hc.hts hc.hcl hA'.2.2.1 he2
     clear Hcond he1 he2 Hnx
     go_upto_region 5 with fail
     go_region_held3 (fun w'=>w'.cell? ⟨w.heap.size,0,none⟩=some (.pointer (some ⟨c.m,0,none⟩))/\w'.cell? ⟨w.heap.size,1,none⟩=some (.slice c.la c.L.length c.lc)/\w'.cell? ⟨w.heap.size,2,none⟩=some (.int .u64 c.p1)/\w'.cell? ⟨w.heap.size,3,none⟩=some (.int .u64 c.p2) /\
      w'.cell? ⟨wr.heap.size,0,none⟩=some (.int .i64 x)/\w'.cell? ⟨wr.heap.size,1,none⟩=some (.int .i64 y)/\w'.cell? ⟨wr.heap.size,2,none⟩=some (.bool true))
      (first | exact hS | go_keep)
      (first
        | (go_at_call 145
           refine(Hcall.out _ (by exact(Below.refl _ _).drew)).mono ?_
           rintro e w' ⟨rfl,F1,hP1,hf1,hk1⟩
           have hS:=keep7 (by assumption) hk1 hofx hlwx)
        | (go_at_call 102
           have hA1:c.At w' F1 P1:=(H1.out.up (Below.refl _ _).drew).step hP1 hf1 hk1
           have hof1:Off [w.heap.size,wr.heap.size] F1 w':=Off.step (w:=W3.drew) (fun b hb=>by
            simp at hb
            rcases hb with rfl | rfl
            ·exact⟨hofx,block_lt (w:=W3.drew) r0⟩
            ·exact⟨hlwx,hlx⟩) hf1 hk1.size
           have hS1:=hS
           refine(Hcut.out F1 w' hA1).mono ?_
           rintro e w3 ⟨rfl,F2,hP2,hf2,hk2⟩
           have hS:=keep7 hS1 hk2 (hof1 _ (by simp)).1 (hof1 _ (by simp)).1))
     all_goals
      have hA1:c.At w' F1 P1:=(H1.out.up (Below.refl _ _).drew).step hP1 hf1 hk1
      have HA2:=hide (hA1.step hP2 hf2 hk2)
      have hfG:Fresh G F2 W3:=Fresh.trans (w:=W3) hf1 hf2 hk1.size
      have hkG:Keeps G W3 w3:=(Keeps.of (F:=G) ((Below.refl _ W3).drew)).trans (hk1.tran hk2 hf1) (fun k hk=>.inl hk)
      have h6:=hide (H2.out.step hfG hkG.size)
      have h7:=H3.out.keep hkG (fun b hb=>(H2.out b (List.mem_cons_of_mem _ hb)).1)
      have h8:Hid (Fresh F F2 w):=Fresh.trans Hfj.out hfG H5.out.size
      have h9:Hid (Keeps F w w3):=H5.out.tran hkG Hfj.out
      have h10:=keepW ⟨r0,r1,r2,r3⟩ hkG hofx
      clear hA1 hP1 hf1 hk1 hP2 hf2 hk2 r0 r1 r2 r3 g0 g1 g2 hfG hkG
      go_wp2_with fail
      go_roundg (ls.length - (j+1))
      case measure=>omega
      case rel=>exact⟨j+1,k2,P2,F2,rfl,by omega,by go_num,rfl,Hnx2,HA2,h6,h7,h10,h8,h9⟩
    ·rw[if_neg (by simp)]at Hnx
     go_wp2_with fail
     go_roundg (ls.length - (j+1))
     case measure=>omega
     case rel=>exact⟨j+1,kj,Pj,G,rfl,by omega,by go_num,rfl,Hnx,H1,H2,H3.out,⟨r0,r1,r2,r3⟩,Hfj,H5⟩
  ·have Hfin:Hid (kj=k'/\Pj=P'):=by
    have:=Hj.out
    rw[List.drop_of_length_le (by omega)]at this
    unfold cutsP at this
    injection this with this
    injection this with h1 h2
    exact⟨h1,h2⟩
   go_wp2_with fail
   go_ret
   rw[<-Hfin.out.1,<-Hfin.out.2]
   exact⟨rfl,G,HAj.out.2.2.1,Hfj.out,Hkj.out⟩
theorem eq_all(c:Wc)(hc:c.Ok):∀ f,EqHolds c f
 | 0=>fun a b P P' k F w _ he=>by unfold eqP at he;cases he
 | f+1=>eq_succ c hc f (cuts_of c hc f (eq_all c hc f))
end Go.Proofs.YtjebhhoibofmfaaGreat
