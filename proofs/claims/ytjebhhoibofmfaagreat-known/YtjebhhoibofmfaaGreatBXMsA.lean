import Derived.Test.YtjebhhoibofmfaaGreatBMMy
import Derived.Test.YtjebhhoibofmfaaGreatBMKp
namespace Go.Proofs.YtjebhhoibofmfaaGreat
open Go.RowKit
theorem chk_full{ts:List Tm}{cs:List Cl}{sts:List St}(hr:refuseI ts cs=0)(h:(followL ts cs sts []).length=sts.length):folN ts cs sts=sts.length/\(chkE ts cs sts=0\/chkE ts cs sts=5) /\
 (sts≠[]->emptyB (lastS (followL ts cs sts [])).1 (lastS (followL ts cs sts [])).2=true->chkE ts cs sts=0):=by
 have hE:folE ts cs sts=0:=by unfold folE;rw[if_pos hr,h,if_neg (Nat.lt_irrefl _)]
 have hN:folN ts cs sts=(sts.length:Nat):=by unfold folN;rw[if_pos hr,h]
 have hS:folS ts cs sts=lastS (followL ts cs sts []):=by unfold folS;rw[if_pos hr,h,if_neg (Nat.lt_irrefl _)]
 refine⟨hN,?_,fun h0 he=>?_⟩
 ·unfold chkE
  rw[hE,if_pos rfl]
  split
  ·exact .inr rfl
  ·split
   ·exact .inl rfl
   ·exact .inr rfl
 ·have:sts.length≠0:=fun e=>h0 (List.eq_nil_of_length_eq_zero e)
  unfold chkE
  rw[hE,if_pos rfl,hN,if_neg (by omega),hS,he]
  rfl
theorem Steps.take{w:World}{a:Option Addr}{sts:List St}(h:StepsAt w a sts)(n:Nat):StepsAt w a (sts.take n):=by
 rcases h with h | ⟨b,o,rfl,h⟩
 ·exact .inl (by rw[h];simp)
 ·refine .inr ⟨b,o,rfl,fun i hi=>?_⟩
  have hi':i < sts.length:=by simp at hi;omega
  have hin:i < n:=by simp at hi;omega
  have e:(sts.take n).getD i st0=sts.getD i st0:=by
   rw[List.getD_eq_getElem?_getD,List.getD_eq_getElem?_getD,List.getElem?_take,if_pos hin]
  rw[e];exact h i hi'
theorem own_box{B g i:Nat}{w:World}{e:TypeId}{size n:Nat}{v:Value}{xs:List Value}{cur:Array Value}{t:TypeId}(h:w.ownsRow B e size v n xs)(hg:w.heap[g]?=some (.cells cur t (0,0)))(hne:t≠e)(x:Value):(w.setCell ⟨g,i,none⟩ x).ownsRow B e size v n xs:=by
 have hK:Keeps [g] w (w.setCell ⟨g,i,none⟩ x):=(Keeps.refl _ _).set (by simp) _
 obtain⟨a,cap,rfl⟩:=own_val h
 refine own_keep h hK (fun b hb hm=>?_)
 have:b=g:=by simpa using hm
 subst this
 exact own_not h hg (fun cur' e'=>by injection e' with _ e'; exact hne e') hb
theorem CsOwn.box{B g i:Nat}{w:World}{v:Value}{cs:List Cl}{cur:Array Value}(h:CsOwn B w v cs)(hg:w.heap[g]?=some (.cells cur 25 (0,0)))(x:Value):CsOwn B (w.setCell ⟨g,i,none⟩ x) v cs:=
 ⟨own_box h.1 hg (by decide) x,fun j hj=>own_box (h.2 j hj) hg (by decide) x⟩
theorem miss_no{ts:List Tm}{cs:List Cl}(hf:First4 ts){c1 c2:Cl}(e1:c1.ls=[⟨0,1,false⟩])(e2:c2.ls=[⟨2,3,true⟩]){c:List Int}(hs:soundB ts c=true)(hh:allHoldB c (cs++[c1]++[c2])=true):False:=by
 obtain⟨h4,_,_,⟨s2,a2⟩,s3,a3⟩:=hf
 unfold allHoldB at hh
 have g1:=allB_iff.1 hh cs.length (by simp)
 have g2:=allB_iff.1 hh (cs.length+1) (by simp)
 rw[getD_snoc_lt _ _ _ (by simp),getD_snoc_eq,e1]at g1
 have e3:cs.length+1=(cs++[c1]).length:=by simp
 rw[e3,getD_snoc_eq,e2]at g2
 simp[holdsB,anyB,litB,eqB,cls]at g1 g2
 have hm:mustB ts c 3 2=true:=by
  unfold mustB
  rw[s2,a2,s3,a3]
  simp[alikeB,argsEq,allB,eqB,cls,List.range_succ,g1]
 exact g2 (sound_eq hs (by omega) (by omega) hm).symm
end Go.Proofs.YtjebhhoibofmfaaGreat
