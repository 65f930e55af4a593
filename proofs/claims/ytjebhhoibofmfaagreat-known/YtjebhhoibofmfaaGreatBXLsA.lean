import Derived.Test.YtjebhhoibofmfaaGreatBMMd
import Derived.Test.YtjebhhoibofmfaaGreatBMCl
namespace Go.Proofs.YtjebhhoibofmfaaGreat
open Go.RowKit
set_option maxRecDepth 100000 in
set_option maxHeartbeats 400000 in
theorem same_any(a b:Option Addr)(ac bc:Nat)(xs ys:List Int)(w:World)(hx:IntsAt w a xs)(hy:IntsAt w b ys)(h9:xs.length<=1000) :
 Calls Tryz.prog 15 #[.slice a xs.length ac,.slice b ys.length bc] w fun e w'=>e=.returned (.bool (decide (xs=ys)))/\∃ n,w'=w.drewN n:=by
 by_cases hl:xs.length=ys.length
 ·have hl1:((xs.length:Int) != (ys.length:Int))=false:=by rw[hl];exact bne_self_eq_false _
  have Hl:=hide hl
  clear hl
  go_enter Tryz.func15,Tryz.ntmps15
  go_wp2_with fail
  go_loopg [5] xs.length (fun q s wx=>∃ k:Nat,q=xs.length - k/\k<=xs.length/\s=.int .i64 k/\Hid (∀ t,t < k->xs.getD t 0=ys.getD t 0)/\∃ n,wx=w.drewN n)
  case atStart=>exact⟨0,rfl,by omega,rfl,(fun t ht=>by omega),0,rfl⟩
  case round=>
   obtain⟨k,rfl,hk,rfl,Hk,n0,rfl⟩:=hrel
   by_cases hlt:k < xs.length
   ·have hly:k < ys.length:=by have:=Hl.out;omega
    obtain⟨xb,xo,rfl,xc⟩:=hx.get hlt
    obtain⟨yb,yo,rfl,yc⟩:=hy.get hly
    have x1:=xc k hlt
    have y1:=yc k hly
    by_cases he:xs.getD k 0=ys.getD k 0
    ·have he1:(xs.getD k 0 != ys.getD k 0)=false:=by rw[he];exact bne_self_eq_false _
     have Hs:Hid (∀ t,t < k+1->xs.getD t 0=ys.getD t 0):=upto_succ Hk.out he
     clear he xc yc
     generalize xs.getD k 0=v at *
     generalize ys.getD k 0=u at *
     go_wp2_with fail
     go_quiet (fail)
     go_wp2_with fail
     go_roundg (xs.length - (k+1))
     case measure=>omega
     case rel=>exact⟨k+1,rfl,by omega,by go_num,Hs,_,rfl⟩
    ·have he1:(xs.getD k 0 != ys.getD k 0)=true:=bne_iff_ne.2 he
     have Hs:Hid (¬ xs=ys):=fun e=>he (by rw[e])
     clear he xc yc
     generalize xs.getD k 0=v at *
     generalize ys.getD k 0=u at *
     go_wp2_with fail
     go_quiet (fail)
     go_wp2_with fail
     go_ret
     exact⟨ret_bool (decide_eq_false Hs.out).symm,_,World.drewN_drewN _ _ _⟩
   ·have Hs:Hid (xs=ys):=list_ext Hl.out (fun t ht=>Hk.out t (by omega))
    go_wp2_with fail
    go_ret
    exact⟨ret_bool (decide_eq_true Hs.out).symm,_,rfl⟩
 ·have hl1:((xs.length:Int) != (ys.length:Int))=true:=by rw[bne_iff_ne];omega
  go_enter Tryz.func15,Tryz.ntmps15
  go_wp2_with fail
  go_ret
  exact⟨ret_bool (decide_eq_false (fun e=>hl (by rw[e]))).symm,0,rfl⟩
def litP(p:Pr):Lt:=⟨p.x,p.y,false⟩
def LS(n:Nat)(w wr:World)(tsl pv qv:Value)(ps:List Pr)(cs:List Cl):Prop:=
 wr.heap[w.heap.size]?=some (.cells #[tsl,pv] 25 (0,0))/\CsOwn (w.heap.size+1) wr pv cs/\wr.ownsRow (w.heap.size+1) 58 2 qv ps.length (psCells ps) /\
 cs.length=ps.length/\(∀ i,i < cs.length->(cs.getD i cl0).ls=[litP (ps.getD i pr0)])/\(∀ i,i < ps.length->pairOk n (ps.getD i pr0)=true)/\Below w.heap.size w wr
theorem LS.start(n:Nat)(w:World)(tsl:Value):LS n w (w.alloc (.cells #[tsl,.slice none 0 0] 25)) tsl (.slice none 0 0) (.slice none 0 0) [] []:=
 ⟨heap_at_new _ _ _ rfl,⟨World.ownsRow_nil _ _ _ _,fun i hi=>by simp at hi⟩,World.ownsRow_nil _ _ _ _,rfl,fun i hi=>by simp at hi,fun i hi=>by simp at hi,(Below.refl _ _).alloc (Nat.le_refl _) _⟩
def LM(n:Nat)(w wr:World)(tsl pv qv:Value)(ps:List Pr)(cs:List Cl):Prop:=
 wr.heap[w.heap.size]?=some (.cells #[tsl,pv] 25 (0,0))/\CsOwn (w.heap.size+1) wr pv cs/\wr.ownsRow (w.heap.size+1) 58 2 qv ps.length (psCells ps) /\
 cs.length+1=ps.length/\(∀ i,i < cs.length->(cs.getD i cl0).ls=[litP (ps.getD i pr0)])/\(∀ i,i < ps.length->pairOk n (ps.getD i pr0)=true)/\Below w.heap.size w wr
theorem LS.mid{n:Nat}{w wr w1 w2:World}{tsl pv qv qv':Value}{ps:List Pr}{cs:List Cl}{p:Pr}(h:LS n w wr tsl pv qv ps cs)(hb:Below wr.heap.size wr w1)
 (hq:w2.ownsRow (w.heap.size+1) 58 2 qv' (ps.length+1) (psCells ps++prCells p)) (hg:w1.grownBy w2 qv.ownBlock) (hok:pairOk n p=true):LM n w w2 tsl pv qv' (ps++[p]) cs:=by
 obtain⟨h1,h2,h3,h4,h5,h6,h7⟩:=h
 have hlt:=(Array.getElem?_eq_some_iff.1 h1).1
 have hrow:∀ k,qv.ownBlock=some k->w.heap.size+1<=k:=fun k hk=>(h3.lt k hk).1
 refine⟨?_,⟨own_apart (own_below h2.1 hb) hg (own_type (own_below h3 hb) (by decide)),fun i hi=>own_apart (own_below (h2.2 i hi) hb) hg (own_type (own_below h3 hb) (by decide))⟩,by rw[psCells_snoc];simpa using hq,by simp[h4],?_,?_,?_⟩
 ·rw[hg.block _ (Nat.lt_of_lt_of_le hlt hb.size) (fun e=>by have:=hrow _ e.symm;omega),hb.block _ hlt];exact h1
 ·intro i hi
  rw[h5 i hi,getD_snoc_lt _ _ _ (by omega)]
 ·intro i hi
  simp only[List.length_append,List.length_cons,List.length_nil]at hi
  by_cases hil:i < ps.length
  ·rw[getD_snoc_lt _ _ _ hil];exact h6 i hil
  ·have:i=ps.length:=by omega
   subst this
   rw[getD_snoc_eq];exact hok
 ·exact(h7.trans (hb.mono h7.size)).grown hg (Nat.le_trans h7.size hb.size) (fun k hk=>by have:=hrow k hk;omega)
theorem LM.step{n:Nat}{w wr w1 w2:World}{tsl pv qv pv':Value}{ps:List Pr}{cs:List Cl}{p:Pr}{a:Option Addr}(h:LM n w wr tsl pv qv ps cs)(hp:ps.getD cs.length pr0=p)(hb:Below wr.heap.size wr w1)
 (hl:w1.ownsRow (w.heap.size+1) 60 3 (.slice a 1 1) 1 (lsCells [litP p])) (hown:w2.ownsRow (w.heap.size+1) 61 1 pv' (cs.length+1) (csCells cs++[.slice a 1 1])) (hg:w1.grownBy w2 pv.ownBlock) :
 w2.heap[w.heap.size]?=some (.cells #[tsl,pv] 25 (0,0))/\LS n w (w2.setCell ⟨w.heap.size,1,none⟩ pv') tsl pv' qv ps (cs++[⟨a,1,[litP p]⟩]):=by
 obtain⟨h1,h2,h3,h4,h5,h6,h7⟩:=h
 have hlt:=(Array.getElem?_eq_some_iff.1 h1).1
 have hrow:∀ k,pv.ownBlock=some k->w.heap.size+1<=k:=fun k hk=>(h2.1.lt k hk).1
 have e2:w2.heap[w.heap.size]?=some (.cells #[tsl,pv] 25 (0,0)):=by
  rw[hg.block _ (Nat.lt_of_lt_of_le hlt hb.size) (fun e=>by have:=hrow _ e.symm;omega),hb.block _ hlt];exact h1
 have ht:=fun(e0:TypeId) (hne:61≠e0)=>own_type (own_below h2.1 hb) hne
 have hsz:w.heap.size < w.heap.size+1:=by omega
 refine⟨e2,?_,⟨own_setCell (by simpa[csCells,clVal] using hown) hsz _,fun i hi=>?_⟩,own_setCell (own_apart (own_below h3 hb) hg (ht _ (by decide))) hsz _,by simp[h4],?_,h6,?_⟩
 ·rw[heap_setCell_same _ _ _ _ _ _ e2];rfl
 ·simp only[List.length_append,List.length_cons,List.length_nil]at hi
  by_cases hil:i < cs.length
  ·rw[getD_snoc_lt _ _ _ hil]
   exact own_setCell (own_apart (own_below (h2.2 i hil) hb) hg (ht _ (by decide))) hsz _
  ·have:i=cs.length:=by omega
   subst this
   rw[getD_snoc_eq]
   exact own_setCell (own_apart hl hg (ht _ (by decide))) hsz _
 ·intro i hi
  simp only[List.length_append,List.length_cons,List.length_nil]at hi
  by_cases hil:i < cs.length
  ·rw[getD_snoc_lt _ _ _ hil];exact h5 i hil
  ·have:i=cs.length:=by omega
   subst this
   rw[getD_snoc_eq,hp]
 ·exact Below.setCell ((h7.trans (hb.mono h7.size)).grown hg (Nat.le_trans h7.size hb.size) (fun k hk=>by have:=hrow k hk;omega)) (Nat.le_refl _) _
end Go.Proofs.YtjebhhoibofmfaaGreat
