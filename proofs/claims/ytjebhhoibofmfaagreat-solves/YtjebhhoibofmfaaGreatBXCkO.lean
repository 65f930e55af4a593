import Derived.Test.YtjebhhoibofmfaaGreatBMCz
import Derived.Test.YtjebhhoibofmfaaGreatBMSs
import Derived.Test.YtjebhhoibofmfaaGreatBMSt
import Derived.Test.YtjebhhoibofmfaaGreatBXStB
namespace Go.Proofs.YtjebhhoibofmfaaGreat
open Go.RowKit
theorem SameT.at{ts ts':List Tm}(h:SameT ts ts')(i:Nat):(ts'.getD i tm0).sym=(ts.getD i tm0).sym/\(ts'.getD i tm0).args=(ts.getD i tm0).args:=by
 by_cases hi:i < ts.length
 ·exact h.2 i hi
 ·rw[List.getD_eq_getElem?_getD,List.getD_eq_getElem?_getD,List.getElem?_eq_none (by rw[h.1];omega),List.getElem?_eq_none (by omega)]
  exact⟨rfl,rfl⟩
theorem SameC.at{cs cs':List Cl}(h:SameC cs cs')(i:Nat):(cs'.getD i cl0).ls=(cs.getD i cl0).ls:=by
 by_cases hi:i < cs.length
 ·exact h.2 i hi
 ·rw[List.getD_eq_getElem?_getD,List.getD_eq_getElem?_getD,List.getElem?_eq_none (by rw[h.1];omega),List.getElem?_eq_none (by omega)]
theorem same_nextB{ts ts':List Tm}{cs cs':List Cl}(h:SameT ts ts')(k:SameC cs cs')(ss:List (Nat×Nat))(s:St):nextB ts' cs' ss s=nextB ts cs ss s:=by
 unfold nextB okC
 rw[h.1,k.1,(h.at _).1,(h.at _).1,(h.at _).2,(h.at _).2]
theorem same_nextS{ts ts':List Tm}{cs cs':List Cl}(h:SameT ts ts')(k:SameC cs cs')(ss:List (Nat×Nat))(s:St):nextS ts' cs' ss s=nextS ts cs ss s:=by
 unfold nextS setC setG
 rw[k.at,(h.at _).2,(h.at _).2]
theorem own_touch{H N:Nat}{w w':World}{base:Nat}{e:TypeId}{size:Nat}{v:Value}{n:Nat}{xs:List Value}(h:w.ownsRow base e size v n xs)(ht:Touch H N w w')(hN:N<=base):w'.ownsRow base e size v n xs:=by
 refine⟨h.1,?_⟩
 rcases h.2 with h2 | ⟨g,cap,cur,hv,hb,hg,r⟩
 ·exact .inl h2
 ·exact .inr ⟨g,cap,cur,hv,hb,by rw[ht.block g (Array.getElem?_eq_some_iff.1 hg).1 (.inr (by omega))];exact hg,r⟩
def FullAt(oa:Option Addr)(ol B:Nat)(sts:List St)(w:World):Prop:=(oa=none/\ol=0/\sts=[])\/(oa=some ⟨B,0,none⟩/\ol=sts.length+8/\SRow w B (fullS sts))
theorem FullAt.len{oa:Option Addr}{ol B:Nat}{sts:List St}{w:World}(h:FullAt oa ol B sts w):sts.length<=ol:=by
 rcases h with⟨_,_,h⟩ | ⟨_,h,_⟩
 ·rw[h];simp
 ·omega
theorem FullAt.up{oa:Option Addr}{ol B:Nat}{sts:List St}{w w':World}(h:FullAt oa ol B sts w)(hb:Below w.heap.size w w'):FullAt oa ol B sts w':=by
 rcases h with h | ⟨h1,h2,hr⟩
 ·exact .inl h
 ·exact .inr ⟨h1,h2,hr.up hb⟩
end Go.Proofs.YtjebhhoibofmfaaGreat
