import Derived.Test.YtjebhhoibofmfaaGreatBMPf
import Derived.Test.YtjebhhoibofmfaaGreatBMLw
namespace Go.Proofs.YtjebhhoibofmfaaGreat
open Go.RowKit
def SRow(w:World)(g:Nat)(ls:List St):Prop:=w.heap[g]?=some (.cells (stCells ls).toArray 36 (0,0))
theorem SRow.cell{w:World}{g:Nat}{ls:List St}(h:SRow w g ls){k:Nat}(hk:k < ls.length) :
 w.cell? ⟨g,k*5,none⟩=some (.int .i64 (ls.getD k st0).r)/\w.cell? ⟨g,k*5+1,none⟩=some (.int .i64 (ls.getD k st0).a)/\w.cell? ⟨g,k*5+2,none⟩=some (.int .i64 (ls.getD k st0).b)/\w.cell? ⟨g,k*5+3,none⟩=some (.int .i64 (ls.getD k st0).c)/\w.cell? ⟨g,k*5+4,none⟩=some (.int .i64 (ls.getD k st0).d):=by
 have:=stCells_get ls k hk
 rw[cell_of_row _ _ _ _ _ _ h,cell_of_row _ _ _ _ _ _ h,cell_of_row _ _ _ _ _ _ h,cell_of_row _ _ _ _ _ _ h,cell_of_row _ _ _ _ _ _ h]
 simpa using this
theorem SRow.frozen{w:World}{g:Nat}{ls:List St}(h:SRow w g ls)(k:Nat):w.frozen? ⟨g,k,none⟩=false:=frozen_of_row _ _ _ _ _ h
theorem SRow.lt{w:World}{g:Nat}{ls:List St}(h:SRow w g ls):g < w.heap.size:=(Array.getElem?_eq_some_iff.1 h).1
theorem SRow.up{w w':World}{g:Nat}{ls:List St}(h:SRow w g ls)(hb:Below w.heap.size w w'):SRow w' g ls:=(hb.block _ h.lt).trans h
theorem stCells_set(ls:List St)(l:St):∀ i,i < ls.length->(((((stCells ls).set (i*5) (.int .i64 l.r)).set (i*5+1) (.int .i64 l.a)).set (i*5+2) (.int .i64 l.b)).set (i*5+3) (.int .i64 l.c)).set (i*5+4) (.int .i64 l.d)=stCells (ls.set i l):=by
 induction ls with
 | nil=>intro i hi;simp at hi
 | cons t ts ih=>
   intro i hi
   cases i with
   | zero=>rfl
   | succ i=>
     have:=ih i (by simpa using hi)
     have e1:(i+1)*5=i*5+5:=by omega
     have hc:∀ q qs,stCells (q :: qs)=.int .i64 q.r :: .int .i64 q.a :: .int .i64 q.b :: .int .i64 q.c :: .int .i64 q.d :: stCells qs:=fun _ _=>rfl
     show _=stCells (t :: ts.set i l)
     rw[e1,hc,hc,<-this]
     rfl
theorem SRow.set{w:World}{g:Nat}{ls:List St}(h:SRow w g ls){k:Nat}(hk:k < ls.length)(l:St) :
 SRow (((((w.setCell ⟨g,k*5,none⟩ (.int .i64 l.r)).setCell ⟨g,k*5+1,none⟩ (.int .i64 l.a)).setCell ⟨g,k*5+2,none⟩ (.int .i64 l.b)).setCell ⟨g,k*5+3,none⟩ (.int .i64 l.c)).setCell ⟨g,k*5+4,none⟩ (.int .i64 l.d)) g (ls.set k l):=by
 unfold SRow
 have h1:=heap_setCell_same w g (k*5) _ _ (.int .i64 l.r) h
 have h2:=heap_setCell_same _ g (k*5+1) _ _ (.int .i64 l.a) h1
 have h3:=heap_setCell_same _ g (k*5+2) _ _ (.int .i64 l.b) h2
 have h4:=heap_setCell_same _ g (k*5+3) _ _ (.int .i64 l.c) h3
 have h5:=heap_setCell_same _ g (k*5+4) _ _ (.int .i64 l.d) h4
 rw[h5,<-stCells_set ls l k hk]
 simp
def stM(x:Int):St:=⟨x,0,0,0,0⟩
def fullS(ls:List St):List St:=ls++List.replicate 8 (stM (-77))
theorem StepsAt.src{w:World}{a:Option Addr}{ls:List St}(h:StepsAt w a ls):stCells ls=[]\/∃ ad,a=some ad/\∀ j v,(stCells ls)[j]?=some v->w.cell? (ad.add j)=some v:=by
 rcases h with rfl | ⟨b,o,rfl,h⟩
 ·exact .inl rfl
 ·refine .inr ⟨_,rfl,fun j v hj=>?_⟩
  have hadd:(⟨b,o,none⟩:Addr).add j=⟨b,o+j,none⟩:=by unfold Addr.add;split <;> simp_all
  by_cases hl:j < ls.length*5
  ·obtain⟨q,r,hr,rfl⟩:∃ q r,r < 5/\j=q*5+r:=⟨j / 5,j % 5,Nat.mod_lt _ (by omega),by omega⟩
   have hq:q < ls.length:=by omega
   have hg:=stCells_get ls q hq
   obtain⟨c1,c2,c3,c4,c5⟩:=h q hq
   rw[hadd]
   rcases(show r=0\/r=1\/r=2\/r=3\/r=4 by omega)with rfl | rfl | rfl | rfl | rfl
   ·rw[Nat.add_zero]at *; rw[hg.1]at hj;rw[c1];exact hj
   ·rw[hg.2.1]at hj;rw[<-Nat.add_assoc,c2];exact hj
   ·rw[hg.2.2.1]at hj;rw[<-Nat.add_assoc,c3];exact hj
   ·rw[hg.2.2.2.1]at hj;rw[<-Nat.add_assoc,c4];exact hj
   ·rw[hg.2.2.2.2]at hj;rw[<-Nat.add_assoc,c5];exact hj
  ·rw[List.getElem?_eq_none (by rw[stCells_length];omega)]at hj;cases hj
end Go.Proofs.YtjebhhoibofmfaaGreat
namespace Go.Proofs.YtjebhhoibofmfaaGreat
open Go.RowKit
end Go.Proofs.YtjebhhoibofmfaaGreat
