import Derived.Test.YtjebhhoibofmfaaGreatBXMsA
import Derived.Test.YtjebhhoibofmfaaGreatBXCsD
import Derived.Test.YtjebhhoibofmfaaGreatBMRf
namespace Go.Proofs.YtjebhhoibofmfaaGreat
open Go.RowKit
def canB(ts:List Tm)(cs:List Cl):Bool:=(eachL ts ts.length [] (-1)).any fun d=>allHoldB d cs
theorem can_sol{ts:List Tm}{cs:List Cl}{b:Bool}{cls:List Int}{sts:List St}(hr:refuseI ts cs=0)(h:SolOk ts cs b cls sts):canB ts cs=b:=by
 obtain⟨hts,hcl⟩:=of_refuse hr
 unfold canB
 cases b with
 | true=>
   obtain⟨g1,g2,g3,g4,_⟩:=h.yes rfl
   exact List.any_eq_true.2 ⟨cls,eachL_all hts g1 g2 g3,g4⟩
 | false=>
   obtain⟨_,g2,g3,g4⟩:=h.no rfl
   rw[List.any_eq_false]
   intro d hd hh
   exact no_model hts hcl g2 g3 g4 d (eachL_only hts hd).2 hh
theorem ways_mem{ts:List Tm}{ys:List Wy}(hm:ys.map Wy.xs=eachL ts ts.length [] (-1)){i:Nat}(hi:i < ys.length):(ys.getD i wy0).xs∈eachL ts ts.length [] (-1):=by
 rw[<-hm,List.getD_eq_getElem?_getD,List.getElem?_eq_getElem hi,Option.getD_some]
 exact List.mem_map.2 ⟨_,List.getElem_mem hi,rfl⟩
theorem can_yes{ts:List Tm}{cs:List Cl}{ys:List Wy}(hm:ys.map Wy.xs=eachL ts ts.length [] (-1)){i:Nat}(hi:i < ys.length)(h:allHoldB (ys.getD i wy0).xs cs=true):canB ts cs=true:=
 List.any_eq_true.2 ⟨_,ways_mem hm hi,h⟩
theorem can_not{ts:List Tm}{cs:List Cl}{ys:List Wy}(hm:ys.map Wy.xs=eachL ts ts.length [] (-1))(h:∀ t,t < ys.length->allHoldB (ys.getD t wy0).xs cs=false):canB ts cs=false:=by
 unfold canB
 rw[List.any_eq_false]
 intro d hd hh
 rw[<-hm]at hd
 obtain⟨y,hy,rfl⟩:=List.mem_map.1 hd
 obtain⟨i,hi,e⟩:=List.getElem_of_mem hy
 have:=h i hi
 rw[List.getD_eq_getElem?_getD,List.getElem?_eq_getElem hi,Option.getD_some,e,hh]at this
 cases this
set_option maxRecDepth 100000 in
set_option maxHeartbeats 2000000 in
theorem can_any(ta sa:Option Addr)(tc sc:Nat)(ts:List Tm)(cs:List Cl)(w:World)(ht:TermsAt w ta ts)(hcs:ClausesAt w sa cs)(hts:termsB ts=true)(hcl:clausesB ts.length cs=true)(htc:ts.length<=tc) :
 Calls Tryz.prog 28 #[.agg #[.slice ta ts.length tc,.slice sa cs.length sc]] w fun e w'=>e=.returned (.bool (canB ts cs))/\Below w.heap.size w w':=by
 obtain⟨W,hW⟩:∃ W,W=w.alloc (.cells #[.slice ta ts.length tc,.slice sa cs.length sc] 25):=⟨_,rfl⟩
 have hbW:Below w.heap.size w W:=by rw[hW];exact below_alloc _ _
 have p0:W.cell? ⟨w.heap.size,0,none⟩=some (.slice ta ts.length tc):=by rw[hW];simp
 have p1:W.cell? ⟨w.heap.size,1,none⟩=some (.slice sa cs.length sc):=by rw[hW];simp
 have hT:=ht.below hbW
 have hC:=hcs.below hbW
 have Hts:=hide hts
 have Hcl:=hide hcl
 clear ht hcs hts hcl
 go_enter Tryz.func28,Tryz.ntmps28
 go_upto_region 1 with fail
 rw[<-hW]
 clear hW
 have hcon:=all_any ta tc ts W hT Hts.out htc
 have Hcon:=hide hcon
 clear hcon
 go_wp2_with fail
 refine Hcon.out.mono ?_
 rintro e w1 ⟨ya,yc,ys,rfl,hys,hmap,hy9,hb1⟩
 have hbw:Below w.heap.size w w1:=hbW.trans (hb1.mono hbW.size)
 have q0:=cell_below hb1 p0
 have q1:=cell_below hb1 p1
 have hC1:=hC.below hb1
 have Hmap:=hide hmap
 clear hmap Hcon p0 p1 hT hC hb1 hbW
 have hBs:w.heap.size<=w1.heap.size:=hbw.size
 go_wp2_with fail
 go_loopg [4] ys.length (fun g s wr=>∃ i:Nat,g=ys.length - i/\i<=ys.length/\s=.int .i64 i/\Hid (∀ t,t < i->allHoldB (ys.getD t wy0).xs cs=false)/\Below w1.heap.size w1 wr)
 case atStart=>exact⟨0,by omega,by omega,rfl,(fun t ht=>by omega),Below.refl _ _⟩
 case round=>
  obtain⟨i,rfl,hi,rfl,Hno,hbr⟩:=hrel
  have hbwr:Below w.heap.size w wr:=hbw.trans (hbr.mono hBs)
  by_cases hlt:i < ys.length
  ·obtain⟨yb,yo,rfl,ycell⟩:=(hys.below hbr).get hlt
   obtain⟨y1,y2⟩:=ycell i hlt
   have hl:=(eachL_only Hts.out (ways_mem Hmap.out hlt)).1
   have Hy:Hid (allHoldB (ys.getD i wy0).xs cs=true->canB ts cs=true):=fun h=>can_yes Hmap.out hlt h
   have Hn:Hid (allHoldB (ys.getD i wy0).xs cs=false->∀ t,t < i+1->allHoldB (ys.getD t wy0).xs cs=false):=fun h=>(upto_succ Hno.out h:∀ t,t < i+1->allHoldB (ys.getD t wy0).xs cs=false)
   generalize ys.getD i wy0=y at *
   obtain⟨xa,xc,xs⟩:=y
   simp only[wyVal]at y1 y2 hl
   have hcon:=fun u:Up wr=>rHolds_any ta sa xa ts.length tc sc xc cs xs u.world ((hC1.below hbr).below u.above) (y2.below u.above) (by rw[hl];exact clausesIn_of Hcl.out)
   have Hb:Hid (∀ b,allHoldB xs cs=b->(b=true->canB ts cs=true)/\(b=false->∀ t,t < i+1->allHoldB (ys.getD t wy0).xs cs=false)):=fun b e=>by rw[<-e];exact⟨Hy.out,Hn.out⟩
   have c0:=cell_below hbr q0
   have c1:=cell_below hbr q1
   have ilt:(i:Int) < (ys.length:Int):=by omega
   have i0:(0:Int)<=(i:Int):=by omega
   generalize hbb:allHoldB xs cs=bb at *
   have HB:=hide (Hb.out bb rfl)
   have Hcon:Hid (∀ u:Up wr,Calls Tryz.prog 61 #[.agg #[.slice ta ts.length tc,.slice sa cs.length sc],.slice xa xs.length xc] u.world fun e w'=>e=.returned (.bool bb)/\Below u.world.heap.size u.world w'):=hcon
   clear ycell hcon Hy Hn Hb hbb hl
   have hne:Nonempty (Up wr):=⟨⟨wr,Below.refl _ _⟩⟩
   have d0:∀ u:Up wr,u.world.cell? ⟨w.heap.size,0,none⟩=some (.slice ta ts.length tc):=fun u=>u.cell c0
   have d1:∀ u:Up wr,u.world.cell? ⟨w.heap.size,1,none⟩=some (.slice sa cs.length sc):=fun u=>u.cell c1
   have d2:∀ u:Up wr,u.world.cell? ⟨yb,yo+i,none⟩=some (.slice xa xs.length xc):=fun u=>u.cell y1
   go_upto_region 5 with fail
   refine wp_region_up (by kernel_rfl) (by kernel_rfl) ?_
   repeat (go_big_quiet_step ((go_at_call 61; exact calls_up (Hcon.out _))))
   refine wpQuiet_nil ?_
   intro _ hw'
   obtain⟨nq,hw''⟩:=hw'
   subst hw''
   have hbc:=nq.above
   have hbr2:Below w1.heap.size w1 nq.world:=hbr.trans (hbc.mono hbr.size)
   have hbw2:Below w.heap.size w nq.world:=hbw.trans (hbr2.mono hBs)
   clear d0 d1 d2 hne
   cases bb with
   | true=>
     go_wp2_with fail
     go_ret
     rw[HB.out.1 trivial]
     exact⟨rfl,hbw2⟩
   | false=>
     go_wp2_with fail
     go_roundg (ys.length - (i+1))
     case measure=>omega
     case rel=>exact⟨i+1,rfl,by omega,by go_num,HB.out.2 trivial,hbr2⟩
  ·have Hf:Hid (canB ts cs=false):=can_not Hmap.out (fun t ht=>Hno.out t (by omega))
   go_wp2_with fail
   go_ret
   rw[Hf.out]
   exact⟨rfl,hbwr⟩
end Go.Proofs.YtjebhhoibofmfaaGreat
