import Derived.Test.YtjebhhoibofmfaaGreatAXLwH
import Derived.Test.YtjebhhoibofmfaaGreatAMEq
namespace Go.Proofs.YtjebhhoibofmfaaGreat
open Go.RowKit
def SameT(ts ts':List Tm):Prop:=ts'.length=ts.length/\∀ i,i < ts.length->(ts'.getD i tm0).sym=(ts.getD i tm0).sym/\(ts'.getD i tm0).args=(ts.getD i tm0).args
def SameC(cs cs':List Cl):Prop:=cs'.length=cs.length/\∀ i,i < cs.length->(cs'.getD i cl0).ls=(cs.getD i cl0).ls
def hts(ts:List Tm)(bs:List Nat):List Tm:=tabG ts.length (fun j=>hTm (ts.getD j tm0) (bs.getD j 0))
theorem hts_length(ts:List Tm)(bs:List Nat):(hts ts bs).length=ts.length:=tabG_length _ _
theorem hTm_sym(t:Tm)(b:Nat):(hTm t b).sym=t.sym/\(hTm t b).args=t.args:=by
 unfold hTm;split <;> exact⟨rfl,rfl⟩
theorem hts_same(ts:List Tm)(bs:List Nat):SameT ts (hts ts bs):=
 ⟨hts_length _ _,fun i hi=>by unfold hts;rw[tabG_getD _ _ _ hi];exact hTm_sym _ _⟩
def hcl(q:Cl)(b:Nat):Cl:=match q.a with
 | none=>⟨none,0,q.ls⟩
 | some _=>⟨some ⟨b,0,none⟩,q.ls.length+8,q.ls⟩
def hcs(cs:List Cl)(bs:List Nat):List Cl:=tabG cs.length (fun j=>hcl (cs.getD j cl0) (bs.getD j 0))
theorem hcs_length(cs:List Cl)(bs:List Nat):(hcs cs bs).length=cs.length:=tabG_length _ _
theorem hcl_ls(q:Cl)(b:Nat):(hcl q b).ls=q.ls:=by unfold hcl;split <;> rfl
theorem hcs_same(cs:List Cl)(bs:List Nat):SameC cs (hcs cs bs):=
 ⟨hcs_length _ _,fun i hi=>by unfold hcs;rw[tabG_getD _ _ _ hi];exact hcl_ls _ _⟩
theorem full_getD{xs:List Int}{i:Nat}(h:i < xs.length):(full xs).getD i 0=xs.getD i 0:=by
 simp[full,List.getElem?_append_left h]
theorem fullL_getD{xs:List Lt}{i:Nat}(h:i < xs.length):(fullL xs).getD i lt0=xs.getD i lt0:=by
 simp[fullL,List.getElem?_append_left h]
theorem HT.terms{B g:Nat}{w:World}{ts:List Tm}{bs:List Nat}{A:Value}(h:HT B g w ts bs A (ts.length+8))(hargs:∀ i,i < ts.length->(ts.getD i tm0).a=none->(ts.getD i tm0).args=[]):TermsAt w (some ⟨g,0,none⟩) (hts ts bs):=by
 obtain⟨h1,h2,h3,h4,h5,h6⟩:=h
 refine .inr ⟨g,0,rfl,fun i hi=>?_⟩
 rw[hts_length]at hi
 have hc:=h3.cell (k:=i) (by rw[tDone_length];omega)
 have e:(tDone ts bs (ts.length+8)).getD i tm0=(hts ts bs).getD i tm0:=by
  unfold tDone hts
  rw[tabG_getD _ _ _ (by omega),tabG_getD _ _ _ hi,if_pos (by omega),if_pos hi]
 rw[e]at hc
 refine⟨by rw[Nat.zero_add];exact hc.1,by rw[Nat.zero_add];exact hc.2,?_⟩
 have e2:(hts ts bs).getD i tm0=hTm (ts.getD i tm0) (bs.getD i 0):=by unfold hts;rw[tabG_getD _ _ _ hi]
 rw[e2]
 have hr:=h5 i (by rw[h2,Nat.min_eq_right (by omega)];exact hi)
 have ha:=hargs i hi
 generalize ts.getD i tm0=t at *
 obtain⟨s,a,c,xs⟩:=t
 cases a with
 | none=>exact .inl (ha rfl)
 | some y=>
   have hrow:=hr.2 y rfl
   refine .inr ⟨bs.getD i 0,0,rfl,fun k hk=>?_⟩
   rw[Nat.zero_add]
   have hk':k < xs.length:=hk
   have:=hrow.cell (k:=k) (by rw[full_length];exact Nat.lt_of_lt_of_le hk' (by simp))
   rw[full_getD hk']at this
   exact this
theorem HC.clauses{B g:Nat}{w:World}{cs:List Cl}{bs:List Nat}{L:Value}(h:HC B g w cs bs L (cs.length+8))(hargs:∀ i,i < cs.length->(cs.getD i cl0).a=none->(cs.getD i cl0).ls=[]):ClausesAt w (some ⟨g,0,none⟩) (hcs cs bs):=by
 obtain⟨h1,h2,h3,h4,h5,h6⟩:=h
 refine .inr ⟨g,0,rfl,fun i hi=>?_⟩
 rw[hcs_length]at hi
 have hc:=h3.cell (k:=i) (by rw[cDone_length];omega)
 have e:(cDone cs bs (cs.length+8)).getD i undef=hCl (cs.getD i cl0) (bs.getD i 0):=by
  unfold cDone
  rw[tabG_getD _ _ _ (by omega),if_pos (by omega)]
  unfold cVal
  rw[if_pos hi]
 rw[e]at hc
 have e2:(hcs cs bs).getD i cl0=hcl (cs.getD i cl0) (bs.getD i 0):=by unfold hcs;rw[tabG_getD _ _ _ hi]
 rw[e2]
 have hr:=h5 i (by omega)
 have ha:=hargs i hi
 have hcl0:cRowLits cs i=fullL (cs.getD i cl0).ls:=by unfold cRowLits;rw[if_pos hi]
 rw[hcl0]at hr
 have hh:(cs.getD i cl0).a≠none->cHas cs i:=fun q=>.inr q
 generalize cs.getD i cl0=t at *
 obtain⟨a,c,xs⟩:=t
 cases a with
 | none=>
   have:=ha rfl
   simp only at this
   subst this
   exact⟨by rw[Nat.zero_add];exact hc,.inl rfl⟩
 | some y=>
   have hrow:=hr.2 (hh (by simp))
   refine⟨by rw[Nat.zero_add];exact hc,.inr ⟨bs.getD i 0,0,rfl,fun k hk=>?_⟩⟩
   rw[Nat.zero_add]
   have hk':k < xs.length:=hk
   have:=hrow.cell (k:=k) (by rw[fullL_length];exact Nat.lt_of_lt_of_le hk' (by simp))
   rw[fullL_getD hk']at this
   exact this
set_option maxRecDepth 100000 in
set_option maxHeartbeats 2000000 in
theorem given_any(H:Nat)(ta sa:Option Addr)(tc sc:Nat)(ts:List Tm)(cs:List Cl)(w:World)(hh:HandAt H w ta sa ts cs (.slice ta ts.length tc) (.slice sa cs.length sc))
 (hta:∀ i,i < ts.length->(ts.getD i tm0).a=none->(ts.getD i tm0).args=[]) (hca:∀ i,i < cs.length->(cs.getD i cl0).a=none->(cs.getD i cl0).ls=[]) (htl:ts.length<=4398046510976) (hcl:cs.length<=5864062014634) :
 Calls Tryz.prog 25 #[.pointer (some ⟨H,0,none⟩)] w fun e w'=>∃(ta' sa':Option Addr) (tc' sc':Nat) (ts':List Tm) (cs':List Cl),e=.returned (.agg #[.slice ta' ts'.length tc',.slice sa' cs'.length sc']) /\
  TermsAt w ta' ts'/\ClausesAt w sa' cs'/\SameT ts ts'/\SameC cs cs'/\Below w.heap.size w w':=by
 obtain⟨T,A,C,L,g,cg,M,bs,cbs,hH,hT,hlow,hM,hC⟩:=hh
 obtain⟨h0,h1,h2,h3,h4,h5,hf⟩:=heap6 hH
 have hltH:=(Array.getElem?_eq_some_iff.1 hH).1
 have Hta:=hide hta
 have Hca:=hide hca
 clear hta hca hf hlow
 rcases hT with⟨rfl,rfl,rfl,rfl⟩ | ⟨hn,rfl,hHT⟩
 ·rcases hC with⟨rfl,rfl,rfl,rfl⟩ | ⟨hnc,rfl,hHC⟩
  ·clear Hta Hca
   go_enter Tryz.func25,Tryz.ntmps25
   go_upto_region 1 with fail
   go_region
   go_wp2_with fail
   exact bodyPost_ret (v:=.agg #[.slice none 0 0,.slice none 0 0]) (by simp[results,Tryz.results25,go_sem]) rfl ⟨none,none,0,0,[],[],rfl,.inl rfl,.inl rfl,⟨rfl,fun i hi=>by simp at hi⟩,⟨rfl,fun i hi=>by simp at hi⟩,((Below.refl _ _).alloc (Nat.le_refl _) _).drew⟩
  ·have hca':=hHC.clauses Hca.out
   have Hcc:=hide hca'
   clear Hta Hca hca' hHC
   go_enter Tryz.func25,Tryz.ntmps25
   go_upto_region 1 with fail
   go_region
   go_wp2_with fail
   exact bodyPost_ret (v:=.agg #[.slice none 0 0,.slice (some ⟨cg,0,none⟩) cs.length (cs.length+8)]) (by simp[results,Tryz.results25,go_sem]) rfl ⟨none,some ⟨cg,0,none⟩,0,cs.length+8,[],hcs cs cbs,by rw[hcs_length];rfl,.inl rfl,Hcc.out,⟨rfl,fun i hi=>by simp at hi⟩,hcs_same _ _,((Below.refl _ _).alloc (Nat.le_refl _) _).drew⟩
 ·have hta':=hHT.terms Hta.out
  have Htt:=hide hta'
  clear hta' hHT
  rcases hC with⟨rfl,rfl,rfl,rfl⟩ | ⟨hnc,rfl,hHC⟩
  ·clear Hta Hca
   go_enter Tryz.func25,Tryz.ntmps25
   go_upto_region 1 with fail
   go_region
   go_wp2_with fail
   exact bodyPost_ret (v:=.agg #[.slice (some ⟨g,0,none⟩) ts.length (ts.length+8),.slice none 0 0]) (by simp[results,Tryz.results25,go_sem]) rfl ⟨some ⟨g,0,none⟩,none,ts.length+8,0,hts ts bs,[],by rw[hts_length];rfl,Htt.out,.inl rfl,hts_same _ _,⟨rfl,fun i hi=>by simp at hi⟩,((Below.refl _ _).alloc (Nat.le_refl _) _).drew⟩
  ·have hca':=hHC.clauses Hca.out
   have Hcc:=hide hca'
   clear Hta Hca hca' hHC
   go_enter Tryz.func25,Tryz.ntmps25
   go_upto_region 1 with fail
   go_region
   go_wp2_with fail
   exact bodyPost_ret (v:=.agg #[.slice (some ⟨g,0,none⟩) ts.length (ts.length+8),.slice (some ⟨cg,0,none⟩) cs.length (cs.length+8)]) (by simp[results,Tryz.results25,go_sem]) rfl ⟨some ⟨g,0,none⟩,some ⟨cg,0,none⟩,ts.length+8,cs.length+8,hts ts bs,hcs cs cbs,by rw[hcs_length,hts_length],Htt.out,Hcc.out,hts_same _ _,hcs_same _ _,((Below.refl _ _).alloc (Nat.le_refl _) _).drew⟩
end Go.Proofs.YtjebhhoibofmfaaGreat
namespace Go.Proofs.YtjebhhoibofmfaaGreat
open Go.RowKit
set_option maxRecDepth 100000 in
set_option maxHeartbeats 400000 in
theorem sameInts_any(a b:Option Addr)(ac bc:Nat)(xs:List Int)(w:World)(ha:IntsAt w a xs)(hb:IntsAt w b xs)(hl:xs.length<=4611686018427387904) :
 Calls Tryz.prog 9 #[.slice a xs.length ac,.slice b xs.length bc] w fun e w'=>e=.returned (.bool true)/\∃ n,w'=w.drewN n:=by
 have hne:((xs.length:Int) != (xs.length:Int))=false:=by simp
 go_enter Tryz.func9,Tryz.ntmps9
 go_wp2_with fail
 go_loopg [5] xs.length (fun g s wr=>∃ k:Nat,g=xs.length - k/\k<=xs.length/\s=.int .i64 k/\∃ n,wr=w.drewN n)
 case atStart=>exact⟨0,by omega,Nat.zero_le _,rfl,0,rfl⟩
 case round=>
  obtain⟨k,rfl,hk,rfl,n0,rfl⟩:=hrel
  by_cases hlt:k < xs.length
  ·obtain⟨ab,ao,rfl,acell⟩:=ha.get hlt
   obtain⟨bb,bo,rfl,bcell⟩:=hb.get hlt
   have a1:=acell k hlt
   have b1:=bcell k hlt
   generalize xs.getD k 0=v at *
   have hv:(v != v)=false:=by simp
   clear acell bcell
   go_upto_region 6 with fail
   go_quiet (fail)
   go_wp2_with fail
   go_roundg (xs.length - (k+1))
   case measure=>omega
   case rel=>exact⟨k+1,rfl,by omega,by go_num,_,rfl⟩
  ·go_wp2_with fail
   go_ret
   exact⟨rfl,n0,rfl⟩
end Go.Proofs.YtjebhhoibofmfaaGreat
namespace Go.Proofs.YtjebhhoibofmfaaGreat
open Go.RowKit
theorem Row.ints{w:World}{b:Nat}{xs:List Int}(h:Row w b xs):IntsAt w (some ⟨b,0,none⟩) xs:=
 .inr ⟨b,0,rfl,fun i hi=>by rw[Nat.zero_add];exact h.cell hi⟩
theorem LRow.lits{w:World}{b:Nat}{ls:List Lt}(h:LRow w b ls):LitsAt w (some ⟨b,0,none⟩) ls:=
 .inr ⟨b,0,rfl,fun i hi=>by rw[Nat.zero_add];exact h.cell hi⟩
theorem TRow.terms{w:World}{g:Nat}{ts:List Tm}(h:TRow w g ts)(ha:∀ i,i < ts.length->IntsAt w (ts.getD i tm0).a (ts.getD i tm0).args):TermsAt w (some ⟨g,0,none⟩) ts:=
 .inr ⟨g,0,rfl,fun i hi=>by rw[Nat.zero_add];exact⟨(h.cell hi).1,(h.cell hi).2,ha i hi⟩⟩
theorem CRow.clauses{w:World}{g:Nat}{cs:List Cl}(h:CRow w g (csCells cs))(ha:∀ i,i < cs.length->LitsAt w (cs.getD i cl0).a (cs.getD i cl0).ls):ClausesAt w (some ⟨g,0,none⟩) cs:=
 .inr ⟨g,0,rfl,fun i hi=>by
  rw[Nat.zero_add]
  have:=h.cell (k:=i) (by simpa[csCells] using hi)
  rw[show(csCells cs).getD i undef=clVal (cs.getD i cl0) by simp[csCells,hi]]at this
  exact⟨this,ha i hi⟩⟩
def fourTs(b1 b2:Nat):List Tm:=[⟨0,none,0,[]⟩,⟨1,none,0,[]⟩,⟨2,some ⟨b1,0,none⟩,1,[0]⟩,⟨2,some ⟨b2,0,none⟩,1,[1]⟩]
def FourAt(B:Nat)(w:World)(g b1 b2:Nat):Prop:=B<=g/\B<=b1/\B<=b2/\TRow w g (fourTs b1 b2)/\Row w b1 [0]/\Row w b2 [1]
theorem FourAt.up{B:Nat}{w w':World}{g b1 b2:Nat}(h:FourAt B w g b1 b2)(hb:Below w.heap.size w w'):FourAt B w' g b1 b2:=
 ⟨h.1,h.2.1,h.2.2.1,h.2.2.2.1.below hb,h.2.2.2.2.1.up hb,h.2.2.2.2.2.up hb⟩
theorem FourAt.kept{B k:Nat}{w w':World}{g b1 b2:Nat}(h:FourAt B w g b1 b2)(hg:w.grownBy w' (some k))(hk:k < B):FourAt B w' g b1 b2:=by
 obtain⟨h1,h2,h3,h4,h5,h6⟩:=h
 refine⟨h1,h2,h3,?_,h5.kept hg (fun e=>by injection e with e;omega),h6.kept hg (fun e=>by injection e with e;omega)⟩
 unfold TRow
 rw[hg.block g h4.lt (fun e=>by injection e with e;omega)];exact h4
theorem FourAt.terms{B:Nat}{w:World}{g b1 b2:Nat}(h:FourAt B w g b1 b2):TermsAt w (some ⟨g,0,none⟩) (fourTs b1 b2):=by
 obtain⟨h1,h2,h3,h4,h5,h6⟩:=h
 refine TRow.terms h4 (fun i hi=>?_)
 match i,hi with
 | 0,_=>exact .inl rfl
 | 1,_=>exact .inl rfl
 | 2,_=>exact h5.ints
 | 3,_=>exact h6.ints
set_option maxRecDepth 100000 in
set_option maxHeartbeats 1000000 in
theorem four_any(w:World):Calls Tryz.prog 23 #[] w fun e w'=>∃ b1 b2 g,e=.returned (.slice (some ⟨g,0,none⟩) 4 4)/\FourAt w.heap.size w' g b1 b2/\Below w.heap.size w w':=by
 go_enter Tryz.func23,Tryz.ntmps23
 go_wp2_with fail
 go_ret
 have r3:=heap_at_new ((w.alloc (.cells #[.int .i64 0] 3)).alloc (.cells #[.int .i64 1] 3)) (.cells #[.int .i64 0,.slice none 0 0,.int .i64 1,.slice none 0 0,.int .i64 2,.slice (some ⟨w.heap.size,0,none⟩) 1 1,.int .i64 2,.slice (some ⟨w.heap.size+1,0,none⟩) 1 1] 52) (w.heap.size+1+1) (by simp)
 have r2:=heap_at_old _ (.cells #[.int .i64 0,.slice none 0 0,.int .i64 1,.slice none 0 0,.int .i64 2,.slice (some ⟨w.heap.size,0,none⟩) 1 1,.int .i64 2,.slice (some ⟨w.heap.size+1,0,none⟩) 1 1] 52) (heap_at_new (w.alloc (.cells #[.int .i64 0] 3)) (.cells #[.int .i64 1] 3) (w.heap.size+1) (by simp))
 have r1:=heap_at_old _ (.cells #[.int .i64 0,.slice none 0 0,.int .i64 1,.slice none 0 0,.int .i64 2,.slice (some ⟨w.heap.size,0,none⟩) 1 1,.int .i64 2,.slice (some ⟨w.heap.size+1,0,none⟩) 1 1] 52) (heap_at_old _ (.cells #[.int .i64 1] 3) (heap_at_new w (.cells #[.int .i64 0] 3) w.heap.size rfl))
 exact⟨w.heap.size,w.heap.size+1,w.heap.size+1+1,rfl,⟨by omega,by omega,by omega,r3,r1,r2⟩,(((Below.refl _ _).alloc (Nat.le_refl _) _).alloc (by simp) _).alloc (by simp;omega) _⟩
theorem four_ok(b1 b2:Nat):TmsOk (fourTs b1 b2):=by
 intro i hi
 match i,hi with
 | 0,_=>exact⟨fun _=>rfl,by simp[fourTs]⟩
 | 1,_=>exact⟨fun _=>rfl,by simp[fourTs]⟩
 | 2,_=>exact⟨fun h=>by simp[fourTs]at h,by simp[fourTs]⟩
 | 3,_=>exact⟨fun h=>by simp[fourTs]at h,by simp[fourTs]⟩
def unClauses(c1 c2:Nat):List Cl:=[⟨some ⟨c1,0,none⟩,1,[⟨0,1,false⟩]⟩,⟨some ⟨c2,0,none⟩,1,[⟨2,3,true⟩]⟩]
set_option maxRecDepth 100000 in
set_option maxHeartbeats 2000000 in
theorem unsaid_full(w:World):Calls Tryz.prog 7 #[] w fun e w'=>∃ b1 b2 g c1 c2 cg sg,e=.returned (.tuple #[.agg #[.slice (some ⟨g,0,none⟩) 4 4,.slice (some ⟨cg,0,none⟩) 2 2],.slice (some ⟨sg,0,none⟩) 5 5]) /\
 TermsAt w' (some ⟨g,0,none⟩) (fourTs b1 b2)/\ClausesAt w' (some ⟨cg,0,none⟩) (unClauses c1 c2)/\w'.heap[sg]?=some (.cells #[.int .i64 0,.int .i64 0,.int .i64 0,.int .i64 0,.int .i64 0,.int .i64 0,.int .i64 1,.int .i64 0,.int .i64 0,.int .i64 0,.int .i64 3,.int .i64 2,.int .i64 3,.int .i64 0,.int .i64 0,.int .i64 4,.int .i64 2,.int .i64 1,.int .i64 2,.int .i64 3,.int .i64 4,.int .i64 0,.int .i64 3,.int .i64 0,.int .i64 1] 36 (0,0))/\Below w.heap.size w w':=by
 go_enter Tryz.func7,Tryz.ntmps7
 go_wp2_with fail
 refine(four_any _).mono ?_
 rintro e w' ⟨b1,b2,g,rfl,hF,hb⟩
 have hb0:Below w.heap.size w w':=((Below.refl _ _).alloc (Nat.le_refl _) _).trans (hb.mono (by simp))
 have hrb:w'.heap[w.heap.size]?=some (.cells #[.slice none 0 0,.slice none 0 0] 25 (0,0)):=(hb.block _ (by simp)).trans (heap_at_new _ _ _ rfl)
 have hsz:w.heap.size+1<=w'.heap.size:=by have:=hb.size;simp at this;exact this
 rw[show(w.alloc (.cells #[.slice none 0 0,.slice none 0 0] 25)).heap.size=w.heap.size+1 by simp]at hF
 clear hb
 go_upto_region 2 with fail
 obtain⟨wa,hwa⟩:∃ wa,wa=w'.alloc (.cells #[.int .i64 0,.int .i64 1,.bool false] 60):=⟨_,rfl⟩
 rw[<-hwa]
 obtain⟨wb,hwb⟩:∃ wb,wb=wa.alloc (.cells #[.int .i64 2,.int .i64 3,.bool true] 60):=⟨_,rfl⟩
 rw[<-hwb]
 obtain⟨wc,hwc⟩:∃ wc,wc=wb.alloc (.cells #[.slice (some ⟨w'.heap.size,0,none⟩) 1 1,.slice (some ⟨w'.heap.size+1,0,none⟩) 1 1] 61):=⟨_,rfl⟩
 rw[<-hwc]
 obtain⟨wd,hwd⟩:∃ wd,wd=wc.alloc (.cells #[.slice (some ⟨g,0,none⟩) 4 4,.slice (some ⟨w'.heap.size+1+1,0,none⟩) 2 2] 25):=⟨_,rfl⟩
 rw[<-hwd]
 have sa:wa.heap.size=w'.heap.size+1:=by rw[hwa];simp
 have sb:wb.heap.size=w'.heap.size+1+1:=by rw[hwb];simp[sa]
 have sc:wc.heap.size=w'.heap.size+1+1+1:=by rw[hwc];simp[sb]
 have ba:Below w'.heap.size w' wa:=by rw[hwa];exact(Below.refl _ _).alloc (Nat.le_refl _) _
 have bb:Below wa.heap.size wa wb:=by rw[hwb];exact(Below.refl _ _).alloc (Nat.le_refl _) _
 have bc:Below wb.heap.size wb wc:=by rw[hwc];exact(Below.refl _ _).alloc (Nat.le_refl _) _
 have bd:Below wc.heap.size wc wd:=by rw[hwd];exact(Below.refl _ _).alloc (Nat.le_refl _) _
 have ra:LRow wa w'.heap.size [⟨0,1,false⟩]:=by rw[hwa];exact heap_at_new _ _ _ rfl
 have rb:LRow wb (w'.heap.size+1) [⟨2,3,true⟩]:=by rw[hwb];exact heap_at_new _ _ _ sa.symm
 have rc:CRow wc (w'.heap.size+1+1) (csCells (unClauses w'.heap.size (w'.heap.size+1))):=by rw[hwc];exact heap_at_new _ _ _ sb.symm
 have rd:wd.heap[w'.heap.size+1+1+1]?=some (.cells #[.slice (some ⟨g,0,none⟩) 4 4,.slice (some ⟨w'.heap.size+1+1,0,none⟩) 2 2] 25 (0,0)):=by rw[hwd];exact heap_at_new _ _ _ sc.symm
 replace ra:=((ra.up bb).up bc).up bd
 replace rb:=(rb.up bc).up bd
 replace rc:=rc.up bd
 replace hF:=(((hF.up ba).up bb).up bc).up bd
 have bwd:Below w'.heap.size w' wd:=((ba.trans (bb.mono (by omega))).trans (bc.mono (by omega))).trans (bd.mono (by omega))
 have hrb2:=(bwd.block _ (by omega)).trans hrb
 have hbd:Below w.heap.size w wd:=hb0.trans (bwd.mono (by omega))
 have sd:=bwd.size
 have d0:wd.cell? ⟨w'.heap.size+1+1+1,0,none⟩=some (.slice (some ⟨g,0,none⟩) 4 4):=by rw[cell_of_row _ _ _ _ _ _ rd];rfl
 have d1:wd.cell? ⟨w'.heap.size+1+1+1,1,none⟩=some (.slice (some ⟨w'.heap.size+1+1,0,none⟩) 2 2):=by rw[cell_of_row _ _ _ _ _ _ rd];rfl
 have z0:wd.cell? ⟨w.heap.size,0,none⟩=some (.slice none 0 0):=by rw[cell_of_row _ _ _ _ _ _ hrb2];rfl
 have z1:wd.cell? ⟨w.heap.size,1,none⟩=some (.slice none 0 0):=by rw[cell_of_row _ _ _ _ _ _ hrb2];rfl
 have y0:wd.frozen? ⟨w.heap.size,0,none⟩=false:=frozen_of_row _ _ _ _ _ hrb2
 have y1:wd.frozen? ⟨w.heap.size,1,none⟩=false:=frozen_of_row _ _ _ _ _ hrb2
 have hlt:w.heap.size < wd.heap.size:=by omega
 have Hra:=hide ra
 have Hrb:=hide rb
 have Hrc:=hide rc
 have HF:=hide hF
 clear hwa hwb hwc hwd sa sb sc ba bb bc bd ra rb rc rd hF bwd hrb hb0
 go_wp2_with fail
 obtain⟨we,hwe⟩:∃ we,we=((wd.setCell ⟨w.heap.size,0,none⟩ (.slice (some ⟨g,0,none⟩) 4 4)).setCell ⟨w.heap.size,1,none⟩ (.slice (some ⟨w'.heap.size+1+1,0,none⟩) 2 2)):=⟨_,rfl⟩
 rw[<-hwe]
 have hge:wd.grownBy we (some w.heap.size):=by rw[hwe];exact grown_set grown_one
 have hre:we.heap[w.heap.size]?=some (.cells #[.slice (some ⟨g,0,none⟩) 4 4,.slice (some ⟨w'.heap.size+1+1,0,none⟩) 2 2] 25 (0,0)):=by
  rw[hwe,heap_setCell_same _ _ _ _ _ _ (heap_setCell_same _ _ _ _ _ _ hrb2)];rfl
 have hbe:Below w.heap.size w we:=hbd.grown hge hbd.size (fun k hk=>by injection hk with hk;omega)
 have hse:=hge.size
 have Hsz:Hid (wd.heap.size=we.heap.size):=by show _=_;rw[hwe];simp
 clear hwe
 generalize hob:Obj.cells #[Value.int .i64 0,Value.int .i64 0,Value.int .i64 0,Value.int .i64 0,Value.int .i64 0,Value.int .i64 0,Value.int .i64 1,Value.int .i64 0,Value.int .i64 0,Value.int .i64 0,Value.int .i64 3,Value.int .i64 2,Value.int .i64 3,Value.int .i64 0,Value.int .i64 0,Value.int .i64 4,Value.int .i64 2,Value.int .i64 1,Value.int .i64 2,Value.int .i64 3,Value.int .i64 4,Value.int .i64 0,Value.int .i64 3,Value.int .i64 0,Value.int .i64 1] 36=ob at *
 have Hob:=hide hob
 clear hob
 have hrf:=heap_at_old we ob hre
 have k0:(we.alloc ob).cell? ⟨w.heap.size,0,none⟩=some (.slice (some ⟨g,0,none⟩) 4 4):=by rw[cell_of_row _ _ _ _ _ _ hrf];rfl
 have k1:(we.alloc ob).cell? ⟨w.heap.size,1,none⟩=some (.slice (some ⟨w'.heap.size+1+1,0,none⟩) 2 2):=by rw[cell_of_row _ _ _ _ _ _ hrf];rfl
 have hbf:Below we.heap.size we (we.alloc ob):=(Below.refl _ _).alloc (Nat.le_refl _) _
 have hFf:=(HF.out.kept hge (by omega)).up hbf
 have hne1:w'.heap.size≠w.heap.size:=by omega
 have hra:=(Hra.out.kept hge (fun e=>by injection e with e;omega)).up hbf
 have hrb':=(Hrb.out.kept hge (fun e=>by injection e with e;omega)).up hbf
 have hrc:=(Hrc.out.kept hge (fun e=>by injection e with e;omega)).up hbf
 have hbg:Below w.heap.size w (we.alloc ob):=hbe.trans (hbf.mono (by omega))
 exact bodyPost_ret (v:=.tuple #[.agg #[.slice (some ⟨g,0,none⟩) 4 4,.slice (some ⟨w'.heap.size+1+1,0,none⟩) 2 2],.slice (some ⟨wd.heap.size,0,none⟩) 5 5]) (by simp[results,Tryz.results7,go_sem,k0,k1]) rfl
  ⟨b1,b2,g,w'.heap.size,w'.heap.size+1,w'.heap.size+1+1,_,rfl,hFf.terms,hrc.clauses (fun i hi=>by
   match i,hi with
   | 0,_=>exact hra.lits
   | 1,_=>exact hrb'.lits),(by rw[heap_at_new we ob _ Hsz.out,<-Hob.out]),hbg⟩
theorem unsaid_any(w:World):Calls Tryz.prog 7 #[] w fun e w'=>∃ b1 b2 g c1 c2 cg st,e=.returned (.tuple #[.agg #[.slice (some ⟨g,0,none⟩) 4 4,.slice (some ⟨cg,0,none⟩) 2 2],st]) /\
 TermsAt w' (some ⟨g,0,none⟩) (fourTs b1 b2)/\ClausesAt w' (some ⟨cg,0,none⟩) (unClauses c1 c2)/\Below w.heap.size w w':=by
 refine(unsaid_full w).mono ?_
 rintro e w' ⟨b1,b2,g,c1,c2,cg,sg,rfl,h1,h2,_,h3⟩
 exact⟨b1,b2,g,c1,c2,cg,_,rfl,h1,h2,h3⟩
end Go.Proofs.YtjebhhoibofmfaaGreat
