import Derived.Test.YtjebhhoibofmfaaGreatAMQTrC
import Derived.Deep.Slices
import Derived.Deep.Strs
import Derived.SizedLaws
import Derived.OpenShut
import Derived.ChangeSame
import Derived.ProofKit
import Derived.ChangeOld
import Derived.ShutString
import Derived.Test.YtjebhhoibofmfaaGreatAMMd
import Derived.Test.YtjebhhoibofmfaaGreatAMLx
import Derived.Test.YtjebhhoibofmfaaGreatAMQWdJ
namespace Go.Proofs.YtjebhhoibofmfaaGreat
open Go.RowKit Go.ChangeShapes Go.WideShapes Go.ChangeAt
section
variable {H:Type} {enc:TypeId×Value->H} {W:World} {base:Nat} {spare:Nat->Bool} {held:Bool}
theorem weightsAll_mem{P:Program}{e:TypeId}:∀ {l:List (DataW H)} {d:DataW H},d∈l->∀ n∈d.weights P e,n∈DataW.weightsAll P e l
 | x :: l,d,hd,n,hn=>by
   simp only[DataW.weightsAll,List.mem_append]
   rcases List.mem_cons.1 hd with rfl | h
   ·exact .inl hn
   ·exact .inr (weightsAll_mem h n hn)
theorem bytes_int:Tryz.prog.bytesOf 3=8:=by kernel_rfl
theorem bytes_term:Tryz.prog.bytesOf 52=32:=by kernel_rfl
theorem bytes_lit:Tryz.prog.bytesOf 60=24:=by kernel_rfl
theorem bytes_lits:Tryz.prog.bytesOf 61=24:=by kernel_rfl
theorem cells_int:Tryz.prog.cellsOf 3=1:=by kernel_rfl
theorem cells_bool:Tryz.prog.cellsOf 4=1:=by kernel_rfl
theorem cells_ints:Tryz.prog.cellsOf 29=1:=by kernel_rfl
theorem cells_lits:Tryz.prog.cellsOf 61=1:=by kernel_rfl
theorem cells_term:Tryz.prog.cellsOf 52=2:=by kernel_rfl
theorem cells_lit:Tryz.prog.cellsOf 60=3:=by kernel_rfl
theorem oInts{fuel:Nat}{cs:List Value}{x:DataW H×List MemPlace}(h:DataW.trod enc Tryz.prog W base spare held fuel 29 cs=some x)(hw:∀ n∈x.1.weights Tryz.prog 29,n<=reachBytes) :
 ∃(a:Option Addr) (cap:Nat) (xs:List Int),cs=[.slice a xs.length cap]/\IntsAt W a xs/\(a=none->cap=0)/\xs.length<=17592186043904:=by
 rcases open_ints Tryz.underlying29 Tryz.underlying3 cells_int h with⟨rfl,_⟩ | ⟨a,len,cap,zs,rfl,_,hl,_,hz,rfl,hcell,_⟩
 ·exact⟨none,0,[],rfl,.inl rfl,fun _=>rfl,by simp⟩
 ·have hlz:len<=zs.length:=by rw[hz];split <;> omega
  have hlen:(zs.take len).length=len:=by simp;omega
  have hb:len<=17592186043904:=by
   have:=hw (((lits (H:=H) .i64 (zs.take len)).length+(lits (H:=H) .i64 (zs.drop len)).length)*Tryz.prog.bytesOf 3) (by simp[DataW.weights,Tryz.underlying29])
   rw[bytes_int]at this
   simp only[reachBytes,lits,List.length_map,List.length_take,List.length_drop]at this
   omega
  refine⟨some a,cap,zs.take len,by rw[hlen],?_,fun h=>(by cases h),by rw[hlen];exact hb⟩
  by_cases h0:len=0
  ·exact .inl (by rw[h0];rfl)
  ·obtain⟨b,off,rfl,hc⟩:=ints_at hcell (by omega)
   refine .inr ⟨b,off,rfl,fun i hi=>?_⟩
   rw[hlen]at hi
   rw[hc i (by omega)]
   simp[hi]
set_option maxRecDepth 100000 in
theorem oTerm{fuel:Nat}{cs:List Value}{x:DataW H×List MemPlace}(h:DataW.trod enc Tryz.prog W base spare held fuel 52 cs=some x)(hw:∀ n∈x.1.weights Tryz.prog 52,n<=reachBytes) :
 ∃ t:Tm,cs=[.int .i64 t.sym,.slice t.a t.args.length t.cap]/\IntsAt W t.a t.args/\(t.a=none->t.cap=0)/\t.args.length<=17592186043904:=by
 obtain⟨y0,y1,n,rfl,hl,h0,h1⟩:=trod_struct2 Tryz.underlying52 h
 rw[cells_term]at hl
 match cs,hl with
 | [u,v],_=>
   rw[cells_int]at h0
   rw[cells_ints]at h1
   obtain⟨s,hs,hx0,_⟩:=DataW.trod_int Tryz.underlying3 h0
   obtain⟨a,cap,xs,hv,h2,h3,h4⟩:=oInts h1 (fun n hn=>hw n (by simp[DataW.weights,Tryz.underlying52,DataW.weightsEach,hn]))
   simp at hs hv
   subst hs
   subst hv
   exact⟨⟨s,a,cap,xs⟩,rfl,h2,h3,h4⟩
theorem oTerms{fuel:Nat}{cs:List Value}{x:DataW H×List MemPlace}(h:DataW.trod enc Tryz.prog W base spare held fuel 22 cs=some x)(hw:∀ n∈x.1.weights Tryz.prog 22,n<=reachBytes) :
 ∃(a:Option Addr) (cap:Nat) (ts:List Tm),cs=[.slice a ts.length cap]/\TermsAt W a ts/\TmsOk ts/\(a=none->cap=0)/\ts.length<=4398046510976:=by
 rcases Go.Deep.open_slice Tryz.underlying22 h with⟨rfl,_⟩ | ⟨a,len,cap,m,n,D,Pl,rfl,_,hl,_,hm,rfl,hx⟩
 ·exact⟨none,0,[],rfl,.inl rfl,fun i hi=>by simp at hi,fun _=>rfl,by simp⟩
 ·have hlm:len<=m:=by rw[hm];split <;> omega
  rw[cells_term]at hx
  have hwm:∀ i,i < len->∀ n∈(D i).weights Tryz.prog 52,n<=reachBytes:=fun i hi n hn=>hw n (by
   simp only[DataW.weights,Tryz.underlying22,List.mem_cons,List.mem_append]
   exact .inr (.inl (weightsAll_mem (List.mem_map.2 ⟨i,List.mem_range.2 hi,rfl⟩) n hn)))
  have hb:len<=4398046510976:=by
   have:=hw ((((List.range len).map D).length+((List.range (m - len)).map fun j=>D (len+j)).length)*Tryz.prog.bytesOf 52) (by simp[DataW.weights,Tryz.underlying22])
   rw[bytes_term]at this
   simp only[reachBytes,List.length_map,List.length_range]at this
   omega
  have:Inhabited Tm:=⟨tm0⟩
  obtain⟨f,hf⟩:=Go.Deep.choose_lt (α:=Tm) (p:=fun i t=>W.cell? (a.add (i*2))=some (.int .i64 t.sym)/\W.cell? (a.add (i*2+1))=some (.slice t.a t.args.length t.cap)/\IntsAt W t.a t.args/\(t.a=none->t.cap=0)/\t.args.length<=17592186043904) (n:=len) (fun i hi=>by
   obtain⟨cs',h1,h2⟩:=hx i (by omega)
   obtain⟨t,rfl,h3,h4,h5⟩:=oTerm h2 (hwm i hi)
   obtain⟨_,_,hc⟩:=World.cells?_some h1
   have e0:=hc 0 (by omega)
   have e1:=hc 1 (by omega)
   rw[Go.Deep.add_add]at e0 e1
   exact⟨t,e0,e1,h3,h4,h5⟩)
  have hlen:(tabG len f).length=len:=tabG_length _ _
  refine⟨some a,cap,tabG len f,by rw[hlen],?_,?_,fun h=>(by cases h),by rw[hlen];exact hb⟩
  ·by_cases h0:len=0
   ·exact .inl (by subst h0;rfl)
   ·obtain⟨b,off,spot⟩:=a
    have hspot:spot=none:=by simpa[Addr.add] using World.cell?_spot (hf 0 (by omega)).1
    subst hspot
    refine .inr ⟨b,off,rfl,fun i hi=>?_⟩
    rw[hlen]at hi
    rw[tabG_getD _ _ _ hi]
    obtain⟨h1,h2,h3,_⟩:=hf i hi
    rw[Go.WideShapes.add_plain]at h1 h2
    exact⟨h1,h2,h3⟩
  ·intro i hi
   rw[hlen]at hi
   rw[tabG_getD _ _ _ hi]
   exact(hf i hi).2.2.2
set_option maxRecDepth 100000 in
theorem oLit{fuel:Nat}{cs:List Value}{x:DataW H×List MemPlace}(h:DataW.trod enc Tryz.prog W base spare held fuel 60 cs=some x) :
 ∃ l:Lt,cs=[.int .i64 l.x,.int .i64 l.y,.bool l.n]:=by
 obtain⟨y0,y1,y2,n,_,hl,h0,h1,h2⟩:=Go.Deep.trod_struct3 Tryz.underlying60 h
 rw[cells_lit]at hl
 match cs,hl with
 | [u,v,z],_=>
   rw[cells_int]at h0 h1
   rw[cells_bool]at h2
   obtain⟨s,hs,_,_⟩:=DataW.trod_int Tryz.underlying3 h0
   obtain⟨r,hr,_,_⟩:=DataW.trod_int Tryz.underlying3 h1
   obtain⟨b,hb,_⟩:=DataW.trod_bool Tryz.underlying4 h2
   simp at hs hr hb
   subst hs
   subst hr
   subst hb
   exact⟨⟨s,r,b⟩,rfl⟩
theorem oLits{fuel:Nat}{cs:List Value}{x:DataW H×List MemPlace}(h:DataW.trod enc Tryz.prog W base spare held fuel 61 cs=some x)(hw:∀ n∈x.1.weights Tryz.prog 61,n<=reachBytes) :
 ∃ q:Cl,cs=[.slice q.a q.ls.length q.cap]/\LitsAt W q.a q.ls/\(q.a=none->q.cap=0)/\q.ls.length<=5864062014634:=by
 rcases Go.Deep.open_slice Tryz.underlying61 h with⟨rfl,_⟩ | ⟨a,len,cap,m,n,D,Pl,rfl,_,hl,_,hm,rfl,hx⟩
 ·exact⟨⟨none,0,[]⟩,rfl,.inl rfl,fun _=>rfl,by simp⟩
 ·have hlm:len<=m:=by rw[hm];split <;> omega
  rw[cells_lit]at hx
  have hb:len<=5864062014634:=by
   have:=hw ((((List.range len).map D).length+((List.range (m - len)).map fun j=>D (len+j)).length)*Tryz.prog.bytesOf 60) (by simp[DataW.weights,Tryz.underlying61])
   rw[bytes_lit]at this
   simp only[reachBytes,List.length_map,List.length_range]at this
   omega
  have:Inhabited Lt:=⟨lt0⟩
  obtain⟨f,hf⟩:=Go.Deep.choose_lt (α:=Lt) (p:=fun i l=>W.cell? (a.add (i*3))=some (.int .i64 l.x)/\W.cell? (a.add (i*3+1))=some (.int .i64 l.y)/\W.cell? (a.add (i*3+2))=some (.bool l.n)) (n:=len) (fun i hi=>by
   obtain⟨cs',h1,h2⟩:=hx i (by omega)
   obtain⟨t,rfl⟩:=oLit h2
   obtain⟨_,_,hc⟩:=World.cells?_some h1
   have e0:=hc 0 (by omega)
   have e1:=hc 1 (by omega)
   have e2:=hc 2 (by omega)
   rw[Go.Deep.add_add]at e0 e1 e2
   exact⟨t,e0,e1,e2⟩)
  have hlen:(tabG len f).length=len:=tabG_length _ _
  refine⟨⟨some a,cap,tabG len f⟩,by rw[hlen],?_,fun h=>(by cases h),by rw[hlen];exact hb⟩
  by_cases h0:len=0
  ·exact .inl (by subst h0;rfl)
  ·obtain⟨b,off,spot⟩:=a
   have hspot:spot=none:=by simpa[Addr.add] using World.cell?_spot (hf 0 (by omega)).1
   subst hspot
   refine .inr ⟨b,off,rfl,fun i hi=>?_⟩
   rw[hlen]at hi
   rw[tabG_getD _ _ _ hi]
   obtain⟨h1,h2,h3⟩:=hf i hi
   rw[Go.WideShapes.add_plain]at h1 h2 h3
   exact⟨h1,h2,h3⟩
theorem oClauses{fuel:Nat}{cs:List Value}{x:DataW H×List MemPlace}(h:DataW.trod enc Tryz.prog W base spare held fuel 23 cs=some x)(hw:∀ n∈x.1.weights Tryz.prog 23,n<=reachBytes) :
 ∃(a:Option Addr) (cap:Nat) (qs:List Cl),cs=[.slice a qs.length cap]/\ClausesAt W a qs/\ClsOk qs/\(a=none->cap=0)/\qs.length<=5864062014634:=by
 rcases Go.Deep.open_slice1 Tryz.underlying23 cells_lits h with⟨rfl,_⟩ | ⟨a,len,cap,m,n,V,D,Pl,rfl,_,hl,_,hm,rfl,hx⟩
 ·exact⟨none,0,[],rfl,.inl rfl,fun i hi=>by simp at hi,fun _=>rfl,by simp⟩
 ·have hlm:len<=m:=by rw[hm];split <;> omega
  have hwm:∀ i,i < len->∀ n∈(D i).weights Tryz.prog 61,n<=reachBytes:=fun i hi n hn=>hw n (by
   simp only[DataW.weights,Tryz.underlying23,List.mem_cons,List.mem_append]
   exact .inr (.inl (weightsAll_mem (List.mem_map.2 ⟨i,List.mem_range.2 hi,rfl⟩) n hn)))
  have hb:len<=5864062014634:=by
   have:=hw ((((List.range len).map D).length+((List.range (m - len)).map fun j=>D (len+j)).length)*Tryz.prog.bytesOf 61) (by simp[DataW.weights,Tryz.underlying23])
   rw[bytes_lits]at this
   simp only[reachBytes,List.length_map,List.length_range]at this
   omega
  have:Inhabited Cl:=⟨cl0⟩
  obtain⟨f,hf⟩:=Go.Deep.choose_lt (α:=Cl) (p:=fun i q=>W.cell? (a.add i)=some (.slice q.a q.ls.length q.cap)/\LitsAt W q.a q.ls/\(q.a=none->q.cap=0)/\q.ls.length<=5864062014634) (n:=len) (fun i hi=>by
   obtain⟨h1,h2⟩:=hx i (by omega)
   obtain⟨t,ht,h3,h4,h5⟩:=oLits h2 (hwm i hi)
   simp at ht
   rw[ht]at h1
   exact⟨t,h1,h3,h4,h5⟩)
  have hlen:(tabG len f).length=len:=tabG_length _ _
  refine⟨some a,cap,tabG len f,by rw[hlen],?_,?_,fun h=>(by cases h),by rw[hlen];exact hb⟩
  ·by_cases h0:len=0
   ·exact .inl (by subst h0;rfl)
   ·obtain⟨b,off,spot⟩:=a
    have hspot:spot=none:=by simpa[Addr.add] using World.cell?_spot (hf 0 (by omega)).1
    subst hspot
    refine .inr ⟨b,off,rfl,fun i hi=>?_⟩
    rw[hlen]at hi
    rw[tabG_getD _ _ _ hi]
    obtain⟨h1,h2,_⟩:=hf i hi
    rw[Go.WideShapes.add_plain]at h1
    exact⟨h1,h2⟩
  ·intro i hi
   rw[hlen]at hi
   rw[tabG_getD _ _ _ hi]
   exact(hf i hi).2.2
set_option maxRecDepth 100000 in
theorem oProblem{fuel:Nat}{cs:List Value}{x:DataW H×List MemPlace}(h:DataW.trod enc Tryz.prog W base spare held fuel 25 cs=some x)(hw:∀ n∈x.1.weights Tryz.prog 25,n<=reachBytes) :
 ∃(ta sa:Option Addr) (tc sc:Nat) (ts:List Tm) (qs:List Cl),cs=[.slice ta ts.length tc,.slice sa qs.length sc]/\TermsAt W ta ts/\ClausesAt W sa qs/\TmsOk ts/\ClsOk qs/\(ta=none->tc=0)/\(sa=none->sc=0)/\ts.length<=4398046510976/\qs.length<=5864062014634:=by
 obtain⟨y0,y1,n,rfl,hl,h0,h1⟩:=trod_struct2 Tryz.underlying25 h
 have hc:Tryz.prog.cellsOf 25=2:=by kernel_rfl
 have hc0:Tryz.prog.cellsOf 22=1:=by kernel_rfl
 have hc1:Tryz.prog.cellsOf 23=1:=by kernel_rfl
 rw[hc]at hl
 match cs,hl with
 | [u,v],_=>
   rw[hc0]at h0
   rw[hc1]at h1
   obtain⟨a,cap,ts,hu,h2,h3,h4,h5⟩:=oTerms h0 (fun n hn=>hw n (by simp[DataW.weights,Tryz.underlying25,DataW.weightsEach,hn]))
   obtain⟨a',cap',qs,hv,g2,g3,g4,g5⟩:=oClauses h1 (fun n hn=>hw n (by simp[DataW.weights,Tryz.underlying25,DataW.weightsEach,hn]))
   simp at hu hv
   subst hu
   subst hv
   exact⟨a,a',cap,cap',ts,qs,rfl,h2,g2,h3,g3,h4,g4,h5,g5⟩
end
end Go.Proofs.YtjebhhoibofmfaaGreat
namespace Go.Proofs.YtjebhhoibofmfaaGreat
open Go.RowKit Go.ChangeShapes Go.WideShapes Go.ChangeAt
section
variable {H:Type} {enc:TypeId×Value->H} {W:World} {base:Nat} {spare:Nat->Bool} {held:Bool}
theorem bytes_pair:Tryz.prog.bytesOf 58=16:=by kernel_rfl
theorem cells_pair:Tryz.prog.cellsOf 58=2:=by kernel_rfl
set_option maxRecDepth 100000 in
theorem oPair{fuel:Nat}{cs:List Value}{x:DataW H×List MemPlace}(h:DataW.trod enc Tryz.prog W base spare held fuel 58 cs=some x) :
 ∃ p:Pr,cs=[.int .i64 p.x,.int .i64 p.y]:=by
 obtain⟨y0,y1,n,_,hl,h0,h1⟩:=trod_struct2 Tryz.underlying58 h
 rw[cells_pair]at hl
 match cs,hl with
 | [u,v],_=>
   rw[cells_int]at h0 h1
   obtain⟨s,hs,_,_⟩:=DataW.trod_int Tryz.underlying3 h0
   obtain⟨r,hr,_,_⟩:=DataW.trod_int Tryz.underlying3 h1
   simp at hs hr
   subst hs
   subst hr
   exact⟨⟨s,r⟩,rfl⟩
theorem oPairs{fuel:Nat}{cs:List Value}{x:DataW H×List MemPlace}(h:DataW.trod enc Tryz.prog W base spare held fuel 46 cs=some x)(hw:∀ n∈x.1.weights Tryz.prog 46,n<=reachBytes) :
 ∃(a:Option Addr) (cap:Nat) (ps:List Pr),cs=[.slice a ps.length cap]/\PairsAt W a ps/\(a=none->cap=0)/\ps.length<=8796093021952:=by
 rcases Go.Deep.open_slice Tryz.underlying46 h with⟨rfl,_⟩ | ⟨a,len,cap,m,n,D,Pl,rfl,_,hl,_,hm,rfl,hx⟩
 ·exact⟨none,0,[],rfl,.inl rfl,fun _=>rfl,by simp⟩
 ·have hlm:len<=m:=by rw[hm];split <;> omega
  rw[cells_pair]at hx
  have hb:len<=8796093021952:=by
   have:=hw ((((List.range len).map D).length+((List.range (m - len)).map fun j=>D (len+j)).length)*Tryz.prog.bytesOf 58) (by simp[DataW.weights,Tryz.underlying46])
   rw[bytes_pair]at this
   simp only[reachBytes,List.length_map,List.length_range]at this
   omega
  have:Inhabited Pr:=⟨pr0⟩
  obtain⟨f,hf⟩:=Go.Deep.choose_lt (α:=Pr) (p:=fun i l=>W.cell? (a.add (i*2))=some (.int .i64 l.x)/\W.cell? (a.add (i*2+1))=some (.int .i64 l.y)) (n:=len) (fun i hi=>by
   obtain⟨cs',h1,h2⟩:=hx i (by omega)
   obtain⟨t,rfl⟩:=oPair h2
   obtain⟨_,_,hc⟩:=World.cells?_some h1
   have e0:=hc 0 (by omega)
   have e1:=hc 1 (by omega)
   rw[Go.Deep.add_add]at e0 e1
   exact⟨t,e0,e1⟩)
  have hlen:(tabG len f).length=len:=tabG_length _ _
  refine⟨some a,cap,tabG len f,by rw[hlen],?_,fun h=>(by cases h),by rw[hlen];exact hb⟩
  by_cases h0:len=0
  ·exact .inl (by subst h0;rfl)
  ·obtain⟨b,off,spot⟩:=a
   have hspot:spot=none:=by simpa[Addr.add] using World.cell?_spot (hf 0 (by omega)).1
   subst hspot
   refine .inr ⟨b,off,rfl,fun i hi=>?_⟩
   rw[hlen]at hi
   rw[tabG_getD _ _ _ hi]
   obtain⟨h1,h2⟩:=hf i hi
   rw[Go.WideShapes.add_plain]at h1 h2
   exact⟨h1,h2⟩
end
end Go.Proofs.YtjebhhoibofmfaaGreat
namespace Go.Proofs.YtjebhhoibofmfaaGreat
open Go.RowKit Go.ChangeShapes Go.WideShapes Go.ChangeAt
section
variable {H:Type} {enc:TypeId×Value->H} {W:World} {base:Nat} {spare:Nat->Bool} {held:Bool}
theorem bytes_step:Tryz.prog.bytesOf 36=40:=by kernel_rfl
theorem cells_step:Tryz.prog.cellsOf 36=5:=by kernel_rfl
theorem trod_struct5{t:TypeId}{f0 f1 f2 f3 f4:Field}{fuel:Nat}{cs:List Value}{x:DataW H×List MemPlace}(ht:Tryz.prog.underlying t=some (.struct #[f0,f1,f2,f3,f4]))(h:DataW.trod enc Tryz.prog W base spare held fuel t cs=some x) :
 ∃ y0 y1 y2 y3 y4 n,cs.length=Tryz.prog.cellsOf t/\DataW.trod enc Tryz.prog W base spare held n f0.type ((cs.drop f0.offset).take (Tryz.prog.cellsOf f0.type))=some y0 /\
  DataW.trod enc Tryz.prog W base spare held n f1.type ((cs.drop f1.offset).take (Tryz.prog.cellsOf f1.type))=some y1/\DataW.trod enc Tryz.prog W base spare held n f2.type ((cs.drop f2.offset).take (Tryz.prog.cellsOf f2.type))=some y2 /\
  DataW.trod enc Tryz.prog W base spare held n f3.type ((cs.drop f3.offset).take (Tryz.prog.cellsOf f3.type))=some y3/\DataW.trod enc Tryz.prog W base spare held n f4.type ((cs.drop f4.offset).take (Tryz.prog.cellsOf f4.type))=some y4:=by
 obtain⟨xs,n,_,rfl,hl,hlen,hf⟩:=DataW.trod_struct ht h
 match xs,hlen with
 | [y0,y1,y2,y3,y4],_=>exact⟨y0,y1,y2,y3,y4,n,hl,by simpa using hf 0 f0 rfl,by simpa using hf 1 f1 rfl,by simpa using hf 2 f2 rfl,by simpa using hf 3 f3 rfl,by simpa using hf 4 f4 rfl⟩
set_option maxRecDepth 100000 in
theorem oStep{fuel:Nat}{cs:List Value}{x:DataW H×List MemPlace}(h:DataW.trod enc Tryz.prog W base spare held fuel 36 cs=some x) :
 ∃ s:St,cs=[.int .i64 s.r,.int .i64 s.a,.int .i64 s.b,.int .i64 s.c,.int .i64 s.d]:=by
 obtain⟨y0,y1,y2,y3,y4,n,hl,h0,h1,h2,h3,h4⟩:=trod_struct5 Tryz.underlying36 h
 rw[cells_step]at hl
 match cs,hl with
 | [u,v,y,z,t],_=>
   rw[cells_int]at h0 h1 h2 h3 h4
   obtain⟨s0,e0,_,_⟩:=DataW.trod_int Tryz.underlying3 h0
   obtain⟨s1,e1,_,_⟩:=DataW.trod_int Tryz.underlying3 h1
   obtain⟨s2,e2,_,_⟩:=DataW.trod_int Tryz.underlying3 h2
   obtain⟨s3,e3,_,_⟩:=DataW.trod_int Tryz.underlying3 h3
   obtain⟨s4,e4,_,_⟩:=DataW.trod_int Tryz.underlying3 h4
   simp at e0 e1 e2 e3 e4
   subst e0
   subst e1
   subst e2
   subst e3
   subst e4
   exact⟨⟨s0,s1,s2,s3,s4⟩,rfl⟩
theorem oSteps{fuel:Nat}{cs:List Value}{x:DataW H×List MemPlace}(h:DataW.trod enc Tryz.prog W base spare held fuel 26 cs=some x)(hw:∀ n∈x.1.weights Tryz.prog 26,n<=reachBytes) :
 ∃(a:Option Addr) (cap:Nat) (sts:List St),cs=[.slice a sts.length cap]/\StepsAt W a sts/\(a=none->cap=0)/\sts.length<=3518437208883:=by
 rcases Go.Deep.open_slice Tryz.underlying26 h with⟨rfl,_⟩ | ⟨a,len,cap,m,n,D,Pl,rfl,_,hl,_,hm,rfl,hx⟩
 ·exact⟨none,0,[],rfl,.inl rfl,fun _=>rfl,by simp⟩
 ·have hlm:len<=m:=by rw[hm];split <;> omega
  rw[cells_step]at hx
  have hb:len<=3518437208883:=by
   have:=hw ((((List.range len).map D).length+((List.range (m - len)).map fun j=>D (len+j)).length)*Tryz.prog.bytesOf 36) (by simp[DataW.weights,Tryz.underlying26])
   rw[bytes_step]at this
   simp only[reachBytes,List.length_map,List.length_range]at this
   omega
  have:Inhabited St:=⟨st0⟩
  obtain⟨f,hf⟩:=Go.Deep.choose_lt (α:=St) (p:=fun i l=>W.cell? (a.add (i*5))=some (.int .i64 l.r)/\W.cell? (a.add (i*5+1))=some (.int .i64 l.a)/\W.cell? (a.add (i*5+2))=some (.int .i64 l.b)/\W.cell? (a.add (i*5+3))=some (.int .i64 l.c)/\W.cell? (a.add (i*5+4))=some (.int .i64 l.d)) (n:=len) (fun i hi=>by
   obtain⟨cs',h1,h2⟩:=hx i (by omega)
   obtain⟨t,rfl⟩:=oStep h2
   obtain⟨_,_,hc⟩:=World.cells?_some h1
   have e0:=hc 0 (by omega)
   have e1:=hc 1 (by omega)
   have e2:=hc 2 (by omega)
   have e3:=hc 3 (by omega)
   have e4:=hc 4 (by omega)
   rw[Go.Deep.add_add]at e0 e1 e2 e3 e4
   exact⟨t,e0,e1,e2,e3,e4⟩)
  have hlen:(tabG len f).length=len:=tabG_length _ _
  refine⟨some a,cap,tabG len f,by rw[hlen],?_,fun h=>(by cases h),by rw[hlen];exact hb⟩
  by_cases h0:len=0
  ·exact .inl (by subst h0;rfl)
  ·obtain⟨b,off,spot⟩:=a
   have hspot:spot=none:=by simpa[Addr.add] using World.cell?_spot (hf 0 (by omega)).1
   subst hspot
   refine .inr ⟨b,off,rfl,fun i hi=>?_⟩
   rw[hlen]at hi
   rw[tabG_getD _ _ _ hi]
   obtain⟨h1,h2,h3,h4,h5⟩:=hf i hi
   rw[Go.WideShapes.add_plain]at h1 h2 h3 h4 h5
   exact⟨h1,h2,h3,h4,h5⟩
end
end Go.Proofs.YtjebhhoibofmfaaGreat
namespace Go.Proofs.YtjebhhoibofmfaaGreat
open Go.RowKit Go.ChangeShapes Go.WideShapes Go.ChangeAt
section
variable {H:Type} {enc:TypeId×Value->H} {W:World} {base:Nat} {spare:Nat->Bool} {held:Bool}
theorem bytes_op:Tryz.prog.bytesOf 48=128:=by kernel_rfl
theorem cells_op:Tryz.prog.cellsOf 48=6:=by kernel_rfl
theorem capTs{fuel:Nat}{a:Option Addr}{len cap:Nat}{x:DataW H×List MemPlace}
 (h:DataW.trod enc Tryz.prog W base spare held fuel 22 [.slice a len cap]=some x):len<=cap:=by
 rcases Go.Deep.open_slice Tryz.underlying22 h with⟨h1,_⟩ | ⟨a',len',cap',m,n,D,Pl,h1,_,hl,_⟩
 ·injection h1 with h1
  injection h1 with h1 h2 h3
  omega
 ·injection h1 with h1
  injection h1 with h1 h2 h3
  omega
theorem capPm{fuel:Nat}{a b:Option Addr}{len cap m c:Nat}{x:DataW H×List MemPlace}
 (h:DataW.trod enc Tryz.prog W base spare held fuel 25 [.slice a len cap,.slice b m c]=some x):len<=cap:=by
 obtain⟨y0,y1,n,rfl,hl,h0,h1⟩:=trod_struct2 Tryz.underlying25 h
 have hc0:Tryz.prog.cellsOf 22=1:=by kernel_rfl
 rw[hc0]at h0
 exact capTs h0
theorem trod_struct5w{t:TypeId}{f0 f1 f2 f3 f4:Field}{fuel:Nat}{cs:List Value}{x:DataW H×List MemPlace}(ht:Tryz.prog.underlying t=some (.struct #[f0,f1,f2,f3,f4]))(h:DataW.trod enc Tryz.prog W base spare held fuel t cs=some x) :
 ∃ y0 y1 y2 y3 y4 n,x=(.agg [y0.1,y1.1,y2.1,y3.1,y4.1],y0.2++(y1.2++(y2.2++(y3.2++y4.2))))/\cs.length=Tryz.prog.cellsOf t/\DataW.trod enc Tryz.prog W base spare held n f0.type ((cs.drop f0.offset).take (Tryz.prog.cellsOf f0.type))=some y0 /\
  DataW.trod enc Tryz.prog W base spare held n f1.type ((cs.drop f1.offset).take (Tryz.prog.cellsOf f1.type))=some y1/\DataW.trod enc Tryz.prog W base spare held n f2.type ((cs.drop f2.offset).take (Tryz.prog.cellsOf f2.type))=some y2 /\
  DataW.trod enc Tryz.prog W base spare held n f3.type ((cs.drop f3.offset).take (Tryz.prog.cellsOf f3.type))=some y3/\DataW.trod enc Tryz.prog W base spare held n f4.type ((cs.drop f4.offset).take (Tryz.prog.cellsOf f4.type))=some y4:=by
 obtain⟨xs,n,_,rfl,hl,hlen,hf⟩:=DataW.trod_struct ht h
 match xs,hlen with
 | [y0,y1,y2,y3,y4],_=>exact⟨y0,y1,y2,y3,y4,n,by simp,hl,by simpa using hf 0 f0 rfl,by simpa using hf 1 f1 rfl,by simpa using hf 2 f2 rfl,by simpa using hf 3 f3 rfl,by simpa using hf 4 f4 rfl⟩
set_option maxRecDepth 100000 in
theorem oOp{fuel:Nat}{cs:List Value}{x:DataW H×List MemPlace}(h:DataW.trod enc Tryz.prog W base spare held fuel 48 cs=some x)(hw:∀ n∈x.1.weights Tryz.prog 48,n<=reachBytes) :
 ∃ o:Opv,cs=(opCells o).toList/\OpAt W o/\OpOk o:=by
 obtain⟨y0,y1,y2,y3,y4,n,rfl,hl,h0,h1,h2,h3,h4⟩:=trod_struct5w Tryz.underlying48 h
 have hcp:Tryz.prog.cellsOf 25=2:=by kernel_rfl
 have hcq:Tryz.prog.cellsOf 46=1:=by kernel_rfl
 have hcs:Tryz.prog.cellsOf 26=1:=by kernel_rfl
 rw[cells_op]at hl
 match cs,hl with
 | [u,v,y,z,t,r],_=>
   rw[cells_int]at h0
   rw[hcp]at h1
   rw[hcq]at h2
   rw[cells_ints]at h3
   rw[hcs]at h4
   obtain⟨s0,e0,_,_⟩:=DataW.trod_int Tryz.underlying3 h0
   have k1:=h1
   obtain⟨ta,sa,tc,sc,ts,qs,e1,b1,b2,b3,b4,b5,b6,b7,b8⟩:=oProblem h1 (fun n hn=>hw n (by simp[DataW.weights,Tryz.underlying48,DataW.weightsEach,hn]))
   obtain⟨pa,pc,ps,e2,c1,c2,c3⟩:=oPairs h2 (fun n hn=>hw n (by simp[DataW.weights,Tryz.underlying48,DataW.weightsEach,hn]))
   obtain⟨ca,cc,c,e3,d1,d2,d3⟩:=oInts h3 (fun n hn=>hw n (by simp[DataW.weights,Tryz.underlying48,DataW.weightsEach,hn]))
   obtain⟨la,lc,sts,e4,f1,f2,f3⟩:=oSteps h4 (fun n hn=>hw n (by simp[DataW.weights,Tryz.underlying48,DataW.weightsEach,hn]))
   rw[e1]at k1
   have hcap:=capPm k1
   simp at e0 e1 e2 e3 e4
   obtain⟨e1,e1'⟩:=e1
   subst e0
   subst e1
   subst e1'
   subst e2
   subst e3
   subst e4
   exact⟨⟨s0,ta,tc,ts,sa,sc,qs,pa,pc,ps,ca,cc,c,la,lc,sts⟩,rfl,⟨b1,b2,c1,d1,f1⟩,⟨b5,b6,d2,f2,b3,b4,b7,b8,hcap,c3,d3,f3⟩⟩
theorem oOps{fuel:Nat}{cs:List Value}{x:DataW H×List MemPlace}(h:DataW.trod enc Tryz.prog W base spare held fuel 38 cs=some x)(hw:∀ n∈x.1.weights Tryz.prog 38,n<=reachBytes) :
 ∃(a:Option Addr) (cap:Nat) (os:List Opv),cs=[.slice a os.length cap]/\OpsAt W a os/\(∀ i,i < os.length->OpOk (os.getD i op0))/\os.length<=1099511627775:=by
 rcases Go.Deep.open_slice Tryz.underlying38 h with⟨rfl,_⟩ | ⟨a,len,cap,m,n,D,Pl,rfl,_,hl,_,hm,rfl,hx⟩
 ·exact⟨none,0,[],rfl,.inl rfl,fun i hi=>by simp at hi,by simp⟩
 ·have hlm:len<=m:=by rw[hm];split <;> omega
  rw[cells_op]at hx
  have hwm:∀ i,i < len->∀ n∈(D i).weights Tryz.prog 48,n<=reachBytes:=fun i hi n hn=>hw n (by
   simp only[DataW.weights,Tryz.underlying38,List.mem_cons,List.mem_append]
   exact .inr (.inl (weightsAll_mem (List.mem_map.2 ⟨i,List.mem_range.2 hi,rfl⟩) n hn)))
  have hb:len<=1099511627775:=by
   have:=hw ((((List.range len).map D).length+((List.range (m - len)).map fun j=>D (len+j)).length)*Tryz.prog.bytesOf 48) (by simp[DataW.weights,Tryz.underlying38])
   rw[bytes_op]at this
   simp only[reachBytes,List.length_map,List.length_range]at this
   omega
  have:Inhabited Opv:=⟨op0⟩
  obtain⟨f,hf⟩:=Go.Deep.choose_lt (α:=Opv) (p:=fun i o=>(∀ j,j < 6->W.cell? (a.add (i*6+j))=(opCells o)[j]?)/\OpAt W o/\OpOk o) (n:=len) (fun i hi=>by
   obtain⟨cs',h1,h2⟩:=hx i (by omega)
   obtain⟨t,rfl,h3,h4⟩:=oOp h2 (hwm i hi)
   obtain⟨_,_,hc⟩:=World.cells?_some h1
   refine⟨t,fun j hj=>?_,h3,h4⟩
   have e0:=hc j hj
   rw[Go.Deep.add_add]at e0
   rw[e0]
   simp)
  have hlen:(tabG len f).length=len:=tabG_length _ _
  refine⟨some a,cap,tabG len f,by rw[hlen],?_,?_,by rw[hlen];exact hb⟩
  ·by_cases h0:len=0
   ·exact .inl (by subst h0;rfl)
   ·obtain⟨b,off,spot⟩:=a
    have hspot:spot=none:=by
     have:=(hf 0 (by omega)).1 0 (by omega)
     simp[opCells]at this
     simpa[Addr.add] using World.cell?_spot this
    subst hspot
    refine .inr ⟨b,off,rfl,fun i hi=>?_⟩
    rw[hlen]at hi
    rw[tabG_getD _ _ _ hi]
    obtain⟨h1,h2,_⟩:=hf i hi
    refine⟨fun j hj=>?_,h2⟩
    have:=h1 j hj
    rw[Go.WideShapes.add_plain,<-Nat.add_assoc]at this
    exact this
  ·intro i hi
   rw[hlen]at hi
   rw[tabG_getD _ _ _ hi]
   exact(hf i hi).2.2
end
end Go.Proofs.YtjebhhoibofmfaaGreat
