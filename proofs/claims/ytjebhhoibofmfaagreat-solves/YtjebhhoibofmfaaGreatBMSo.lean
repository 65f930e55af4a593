import Derived.Test.YtjebhhoibofmfaaGreatBXCnA
import Derived.Test.YtjebhhoibofmfaaGreatBXCkO
import Derived.Test.YtjebhhoibofmfaaGreatBMRf
import Derived.Test.YtjebhhoibofmfaaGreatBXTrC
import Derived.Test.YtjebhhoibofmfaaGreatBXCsA
namespace Go.Proofs.YtjebhhoibofmfaaGreat
open Go.RowKit
theorem same_forced{ts ts':List Tm}(h:SameT ts ts'):forcedB ts'=forcedB ts:=by
 funext c i j
 unfold forcedB mustB
 rw[(h.at i).1,(h.at i).2,(h.at j).1,(h.at j).2]
theorem same_first{ts ts':List Tm}(h:SameT ts ts'):firstF ts'=firstF ts:=by
 have e:rowF ts'=rowF ts:=by
  funext m i
  unfold rowF
  rw[same_forced h]
 funext m
 unfold firstF
 rw[h.1,e]
theorem same_link2{ts ts':List Tm}(h:SameT ts ts'):∀(f:Nat) (L:List Pr),link2 ts' f L=link2 ts f L
 | 0,_=>rfl
 | f+1,L=>by
   unfold link2
   rw[same_first h,h.1]
   split
   ·rfl
   ·exact same_link2 h f _
theorem same_links{ts ts':List Tm}(h:SameT ts ts'):linksF ts'=linksF ts:=by
 funext ps
 unfold linksF
 rw[same_link2 h,h.1]
theorem same_env{ts ts':List Tm}{cs cs':List Cl}(h:SameT ts ts')(k:SameC cs cs'):envOf ts' cs'=envOf ts cs:=by
 have e1:nextB ts' cs'=nextB ts cs:=by funext ss s;exact same_nextB h k ss s
 have e2:nextS ts' cs'=nextS ts cs:=by funext ss s;exact same_nextS h k ss s
 unfold envOf
 rw[e1,e2,same_links h,h.1,k.1]
theorem same_sol{ts ts':List Tm}{cs cs':List Cl}(h:SameT ts ts')(k:SameC cs cs'){b:Bool}{cls:List Int}{sts:List St}(hs:Sol ts cs b cls sts):Sol ts' cs' b cls sts:=by
 unfold Sol at *
 rw[same_env h k,h.1,k.1]
 exact hs
def SolveIs(ts:List Tm)(cs:List Cl)(b:Bool)(cls:List Int)(sts:List St):Prop:=
 (refuseI ts cs≠0/\b=false/\cls=[]/\sts=[])\/(refuseI ts cs=0/\Sol ts cs b cls sts/\SolOk ts cs b cls sts)
theorem solve_is(ts:List Tm)(cs:List Cl):∃ b cls sts,SolveIs ts cs b cls sts:=by
 by_cases hr:refuseI ts cs=0
 ·obtain⟨b,cls,sts,h1,h2⟩:=solve_some hr
  exact⟨b,cls,sts,.inr ⟨hr,h1,h2⟩⟩
 ·exact⟨false,[],[],.inl ⟨hr,rfl,rfl,rfl⟩⟩
theorem solve_same(ta sa:Option Addr)(tc sc:Nat)(ts ts':List Tm)(cs cs':List Cl)(w:World)(ht:TermsAt w ta ts')(hcs:ClausesAt w sa cs')(h:SameT ts ts')(k:SameC cs cs'){b:Bool}{cls:List Int}{sts:List St}(hS:SolveIs ts cs b cls sts) :
 Calls Tryz.prog 18 #[.agg #[.slice ta ts'.length tc,.slice sa cs'.length sc]] w fun e w'=>∃ ca cc la lc,e=.returned (.tuple #[.agg #[.bool b,.slice ca cls.length cc,.slice la sts.length lc],.int .i64 (refuseI ts cs)]) /\
  w'.ownsRow w.heap.size 3 1 (.slice ca cls.length cc) cls.length (intCells cls)/\w'.ownsRow w.heap.size 36 5 (.slice la sts.length lc) sts.length (stCells sts)/\(refuseI ts cs≠0->ca=none/\la=none)/\Below w.heap.size w w':=by
 rcases hS with⟨hr,rfl,rfl,rfl⟩ | ⟨hr,h1,h2⟩
 ·refine(solve_bad ta sa tc sc ts' cs' w ht hcs (by rw[same_refuse h k];exact hr)).mono ?_
  rintro e w' ⟨rfl,hb⟩
  rw[same_refuse h k]
  exact⟨none,0,none,0,rfl,World.ownsRow_nil _ _ _ _,World.ownsRow_nil _ _ _ _,fun _=>⟨rfl,rfl⟩,hb⟩
 ·refine(solve_any cutHolds ta sa tc sc ts' cs' w ht hcs (by rw[same_refuse h k];exact hr) (same_sol h k h1)).mono ?_
  rintro e w' ⟨ca,cc,la,lc,rfl,ho1,ho2,hb⟩
  rw[hr]
  exact⟨ca,cc,la,lc,rfl,ho1,ho2,fun h=>absurd rfl h,hb⟩
theorem own_ans{wx wz:World}{R base B:Nat}{e:TypeId}{size n c:Nat}{a:Option Addr}{xs:List Value}{cur:Array Value}(hk:Keeps [R] wx wz)(hR:wx.heap[R]?=some (.cells cur 31 (0,0)))(ho:wx.ownsRow base e size (.slice a n c) n xs)(hne:e≠31)(hB:B<=base):wz.ownsRow B e size (.slice a n c) n xs:=
 own_base (own_keep ho hk (fun b hb hm=>by
  have:b=R:=by simpa using hm
  subst this
  exact own_not ho hR (fun cur' e'=>by injection e' with _ e'; exact hne e'.symm) hb)) hB
theorem solve_fin{w wx wz:World}{R:Nat}{cur:Array Value}{cls:List Int}{sts:List St}{ca la:Option Addr}{cc lc base:Nat}(hbw:Below w.heap.size w wx)(hR:wx.heap[R]?=some (.cells cur 31 (0,0)))(hw:w.heap.size<=R)(hbase:w.heap.size<=base)
 (ho1:wx.ownsRow base 3 1 (.slice ca cls.length cc) cls.length (intCells cls)) (ho2:wx.ownsRow base 36 5 (.slice la sts.length lc) sts.length (stCells sts)) (hk:Keeps [R] wx wz) :
 wz.ownsRow w.heap.size 3 1 (.slice ca cls.length cc) cls.length (intCells cls)/\wz.ownsRow w.heap.size 36 5 (.slice la sts.length lc) sts.length (stCells sts)/\Below w.heap.size w wz:=
 ⟨own_ans hk hR ho1 (by decide) hbase,own_ans hk hR ho2 (by decide) hbase,hk.below hbw hbw.size (by simpa using hw)⟩
end Go.Proofs.YtjebhhoibofmfaaGreat
namespace Go.Proofs.YtjebhhoibofmfaaGreat
open Go.RowKit
set_option maxRecDepth 100000 in
set_option maxHeartbeats 4000000 in
theorem solveL_any(ta sa:Option Addr)(tc sc:Nat)(ts:List Tm)(cs:List Cl)(w:World)(ht:TermsAt w ta ts)(hcs:ClausesAt w sa cs)
 (htn:ta=none->tc=0) (hsn:sa=none->sc=0) (hto:TmsOk ts) (hco:ClsOk cs) (htl:ts.length<=4398046510976) (hcl:cs.length<=5864062014634) (htc:ts.length<=tc) {b:Bool} {cls:List Int} {sts:List St} (hS:SolveIs ts cs b cls sts) :
 Calls Tryz.prog 8 #[.agg #[.slice ta ts.length tc,.slice sa cs.length sc]] w fun e w'=>∃ ca cc la lc,e=.returned (.tuple #[.agg #[.bool b,.slice ca cls.length cc,.slice la sts.length lc],.bool true]) /\
  w'.ownsRow w.heap.size 3 1 (.slice ca cls.length cc) cls.length (intCells cls)/\w'.ownsRow w.heap.size 36 5 (.slice la sts.length lc) sts.length (stCells sts)/\Below w.heap.size w w':=by
 have qi:=nil_eql 29 3 Tryz.underlying29
 have qs:=nil_eql 26 36 Tryz.underlying26
 have Hto:=hide hto
 have Hco:=hide hco
 have HS:=hide hS
 clear hto hco hS
 obtain⟨w1,hw1⟩:∃ w1,w1=(w.alloc (.cells #[.slice ta ts.length tc,.slice sa cs.length sc] 25)).alloc (.cells #[.bool false,.slice none 0 0,.slice none 0 0] 31):=⟨_,rfl⟩
 have hb1:Below w.heap.size w w1:=by rw[hw1];exact((Below.refl _ _).alloc (Nat.le_refl _) _).alloc (by simp) _
 have p0:w1.cell? ⟨w.heap.size,0,none⟩=some (.slice ta ts.length tc):=by rw[hw1];simp
 have p1:w1.cell? ⟨w.heap.size,1,none⟩=some (.slice sa cs.length sc):=by rw[hw1];simp
 have hrow:w1.heap[w.heap.size+1]?=some (.cells #[.bool false,.slice none 0 0,.slice none 0 0] 31 (0,0)):=by rw[hw1];exact heap_at_new _ _ _ (by simp)
 have hT1:=ht.below hb1
 have hC1:=hcs.below hb1
 have hs1:w.heap.size+2<=w1.heap.size:=by rw[hw1];simp
 have Hrow:=hide hrow
 clear ht hcs hrow
 go_enter Tryz.func8,Tryz.ntmps8
 go_upto_region 1 with fail
 rw[<-hw1]
 clear hw1
 go_wp2_with fail
 refine(hand_any ta sa tc sc ts cs w1 hT1 hC1 htn hsn Hto.out Hco.out htl hcl).mono ?_
 rintro e w2 ⟨rfl,hh2,hb2⟩
 have hs2:=hb2.size
 have Hh2:=hide hh2
 clear hh2
 have hgv:=given_any (w1.heap.size+1) ta sa tc sc ts cs w2 Hh2.out hT1.bare hC1.bare htl hcl
 have Hgv:=hide hgv
 clear hgv
 go_wp2_with fail
 refine Hgv.out.mono ?_
 rintro e w3 ⟨ta',sa',tc',sc',ts',cs',rfl,k1,k2,k3,k4,k5⟩
 have hsv:=solve_same ta' sa' tc' sc' ts ts' cs cs' w3 (k1.below k5) (k2.below k5) k3 k4 HS.out
 have Hsv:=hide hsv
 clear hsv k1 k2 k3 k4 Hgv
 go_wp2_with fail
 refine Hsv.out.mono ?_
 rintro e w4 ⟨ca,cc,la,lc,rfl,ho1,ho2,hnil,k6⟩
 clear Hsv
 obtain⟨w5,hw5⟩:∃ w5,w5=w4.alloc (.cells #[.bool b,.slice ca cls.length cc,.slice la sts.length lc] 31):=⟨_,rfl⟩
 have hb5:Below w4.heap.size w4 w5:=by rw[hw5];exact below_alloc _ _
 have hrow5:w5.heap[w4.heap.size]?=some (.cells #[.bool b,.slice ca cls.length cc,.slice la sts.length lc] 31 (0,0)):=by rw[hw5];exact heap_at_new _ _ _ rfl
 go_upto_region 3 with fail
 rw[<-hw5]
 clear hw5
 have k25:Below w2.heap.size w2 w5:=(k5.trans (k6.mono k5.size)).trans (hb5.mono (by have:=k5.size;have:=k6.size;omega))
 have hb15:Below w1.heap.size w1 w5:=hb2.trans (k25.mono hs2)
 have hG:w2.heap.size<=w4.heap.size:=by have:=k5.size;have:=k6.size;omega
 have hO:=hide (And.intro (own_base (own_below ho1 hb5) (by have:=k5.size;omega:w2.heap.size<=w3.heap.size)) (own_base (own_below ho2 hb5) (by have:=k5.size;omega:w2.heap.size<=w3.heap.size)))
 have Hrow5:=hide hrow5
 have hG5:w4.heap.size < w5.heap.size:=(Array.getElem?_eq_some_iff.1 hrow5).1
 clear ho1 ho2 k5 k6 hb5 hrow5
 generalize w4.heap.size=G at *
 have hst:=still_any w1 w2 w5 (w1.heap.size+1) ta sa tc sc ts cs hb15 (by omega) Hh2.out k25 hT1 hC1 hT1.bare hC1.bare Hto.out Hco.out htl hcl
 have Hst:=hide hst
 clear hst
 go_wp2_with fail
 refine Hst.out.mono ?_
 rintro e w6 ⟨rfl,htch⟩
 have hb16:Below w1.heap.size w1 w6:=hb15.trans (htch.below (by omega) hb15.size)
 have hrow6:w6.heap[G]?=some (.cells #[.bool b,.slice ca cls.length cc,.slice la sts.length lc] 31 (0,0)):=(htch.block G hG5 (.inr hG)).trans Hrow5.out
 have HO6:=hide (And.intro (own_touch hO.out.1 htch (Nat.le_refl _)) (own_touch hO.out.2 htch (Nat.le_refl _)))
 have hG6:G < w6.heap.size:=(Array.getElem?_eq_some_iff.1 hrow6).1
 have q0:=cell_below hb16 p0
 have q1:=cell_below hb16 p1
 have hlk:=look_any ta sa tc sc ts cs w6 (hT1.below hb16) (hC1.below hb16)
 have Hlk:=hide hlk
 have Hrow6:=hide hrow6
 clear hlk hrow6 hO Hrow5 Hst htch hb15 k25 Hh2 hG5
 go_wp2_with fail
 refine Hlk.out.mono ?_
 rintro e w7 ⟨rfl,hb7⟩
 have hb17:Below w1.heap.size w1 w7:=hb16.trans (hb7.mono hb16.size)
 have hrow7:=(keeps_below hb7).row (by simp) Hrow6.out
 have HO7:=hide (And.intro (own_below HO6.out.1 hb7) (own_below HO6.out.2 hb7))
 have hG7:G < w7.heap.size:=(Array.getElem?_eq_some_iff.1 hrow7).1
 have p0':=cell_below hb17 p0
 have p1':=cell_below hb17 p1
 have hT7:=hT1.below hb17
 have hC7:=hC1.below hb17
 have Hres7:=hide ((keeps_below hb17).row (by simp) Hrow.out)
 have Hrow7:=hide hrow7
 clear hb16 hrow7 HO6 Hrow6 Hlk hb7 q0 q1 p0 p1 hG6
 have hbw7:Below w.heap.size w w7:=hb1.trans (hb17.mono hb1.size)
 have hGR:G≠w.heap.size+1:=fun e=>by omega
 have hB2:w.heap.size<=w2.heap.size:=by omega
 have hwR:w.heap.size<=w.heap.size+1:=by omega
 obtain⟨R,hR⟩:∃ R,R=w.heap.size+1:=⟨_,rfl⟩
 rw[<-hR]at Hres7 hGR hwR
 rw[<-hR]
 clear hR
 rcases HS.out with⟨hr,rfl,rfl,rfl⟩ | ⟨hr,h1,h2⟩
 ·obtain⟨rfl,rfl⟩:=hnil hr
  have z0:w7.cell? ⟨R,0,none⟩=some (.bool false):=by rw[cell_of_row _ _ _ _ _ _ Hres7.out];rfl
  have z1:w7.cell? ⟨R,1,none⟩=some (.slice none 0 0):=by rw[cell_of_row _ _ _ _ _ _ Hres7.out];rfl
  have z2:w7.cell? ⟨R,2,none⟩=some (.slice none 0 0):=by rw[cell_of_row _ _ _ _ _ _ Hres7.out];rfl
  have g0:w7.frozen? ⟨R,0,none⟩=false:=frozen_of_row _ _ _ _ _ Hres7.out
  have g1:w7.frozen? ⟨R,1,none⟩=false:=frozen_of_row _ _ _ _ _ Hres7.out
  have g2:w7.frozen? ⟨R,2,none⟩=false:=frozen_of_row _ _ _ _ _ Hres7.out
  have a0:w7.cell? ⟨G,0,none⟩=some (.bool false):=by rw[cell_of_row _ _ _ _ _ _ Hrow7.out];rfl
  have a1:w7.cell? ⟨G,1,none⟩=some (.slice none 0 cc):=by rw[cell_of_row _ _ _ _ _ _ Hrow7.out];rfl
  have a2:w7.cell? ⟨G,2,none⟩=some (.slice none 0 lc):=by rw[cell_of_row _ _ _ _ _ _ Hrow7.out];rfl
  have hrr:(refuseI ts cs != refuseI ts cs)=false:=by simp
  have hr0:(refuseI ts cs != 0)=true:=by simp[hr]
  generalize refuseI ts cs=rr at *
  have Hfin:Hid (∀ wz,Keeps [R] w7 wz->_):=fun wz hk=>solve_fin (sts:=[]) (cls:=[]) hbw7 Hres7.out hwR hB2 HO7.out.1 HO7.out.2 hk
  clear hr hnil HO7 Hres7 Hrow7 hT7 hC7 hT1 hC1 hb17 hb1 hbw7 p0' p1' HS Hto Hco
  go_upto_region 8 with fail
  go_region
  all_goals
   go_wp2_with fail
   refine bodyPost_ret (v:=.tuple #[.agg #[.bool false,.slice none 0 cc,.slice none 0 lc],.bool true]) (by simp[results,Tryz.results8,go_sem,set_same,set_other,z0,z1,z2]) rfl ?_
   exact⟨none,cc,none,lc,rfl,Hfin.out _ ((((Keeps.refl _ _).drew.set (by simp) _).set (by simp) _).set (by simp) _)⟩
 ·have hcan:=can_sol hr h2
  obtain⟨hts,hclb⟩:=of_refuse hr
  have hcon:=can_any ta sa tc sc ts cs w7 hT7 hC7 hts hclb htc
  rw[hcan]at hcon
  have Hcon:=hide hcon
  have H2:=hide h2
  have Hr:=hide hr
  rw[hr]
  clear hcon h1 h2 hcan hr
  go_wp2_with fail
  refine Hcon.out.mono ?_
  rintro e w8 ⟨rfl,hb8⟩
  have hbw8:Below w.heap.size w w8:=hbw7.trans (hb8.mono hbw7.size)
  have c0:=cell_below hb8 p0'
  have c1:=cell_below hb8 p1'
  have hT8:=hT7.below hb8
  have hC8:=hC7.below hb8
  have HO8:=hide (And.intro (own_below HO7.out.1 hb8) (own_below HO7.out.2 hb8))
  have Hrow8:=hide ((keeps_below hb8).row (by simp) Hrow7.out)
  have Hres8:=hide ((keeps_below hb8).row (by simp) Hres7.out)
  have a0:w8.cell? ⟨G,0,none⟩=some (.bool b):=by rw[cell_of_row _ _ _ _ _ _ Hrow8.out];rfl
  have a1:w8.cell? ⟨G,1,none⟩=some (.slice ca cls.length cc):=by rw[cell_of_row _ _ _ _ _ _ Hrow8.out];rfl
  have a2:w8.cell? ⟨G,2,none⟩=some (.slice la sts.length lc):=by rw[cell_of_row _ _ _ _ _ _ Hrow8.out];rfl
  clear Hcon HO7 Hrow7 Hres7 hT7 hC7 hT1 hC1 hb17 hb1 hbw7 p0' p1' HS Hto Hco hb8 hnil
  cases b with
  | true=>
    obtain⟨l1,l2,l3,l4,l5⟩:=H2.out.yes rfl
    subst l5
    have hT:=trueB_of hts hclb l2 l1
    have hTe:=hT.2
    have hTb:=hT.1
    rw[l3,l4]at hTb
    have hcon:=rTrue_any ta sa ca tc sc cc ts cs cls w8 hT8 hC8 (intsAt_of_own HO8.out.1)
    rw[hTb,hTe]at hcon
    have Hcon:=hide hcon
    clear hcon hT hTe hTb l1 l2 l3 l4 hts hclb hT8 hC8
    go_wp2_with fail
    refine Hcon.out.mono ?_
    rintro e w9 ⟨rfl,hb9⟩
    have hbw9:Below w.heap.size w w9:=hbw8.trans (hb9.mono hbw8.size)
    have b0:=cell_below hb9 a0
    have b1:=cell_below hb9 a1
    have b2:=cell_below hb9 a2
    have Hres9:=hide ((keeps_below hb9).row (by simp) Hres8.out)
    have HO9:=hide (And.intro (own_below HO8.out.1 hb9) (own_below HO8.out.2 hb9))
    have z0:w9.cell? ⟨R,0,none⟩=some (.bool false):=by rw[cell_of_row _ _ _ _ _ _ Hres9.out];rfl
    have z1:w9.cell? ⟨R,1,none⟩=some (.slice none 0 0):=by rw[cell_of_row _ _ _ _ _ _ Hres9.out];rfl
    have z2:w9.cell? ⟨R,2,none⟩=some (.slice none 0 0):=by rw[cell_of_row _ _ _ _ _ _ Hres9.out];rfl
    have g0:w9.frozen? ⟨R,0,none⟩=false:=frozen_of_row _ _ _ _ _ Hres9.out
    have g1:w9.frozen? ⟨R,1,none⟩=false:=frozen_of_row _ _ _ _ _ Hres9.out
    have g2:w9.frozen? ⟨R,2,none⟩=false:=frozen_of_row _ _ _ _ _ Hres9.out
    have Hfin:Hid (∀ wz,Keeps [R] w9 wz->_):=fun wz hk=>solve_fin (sts:=[]) (cls:=cls) hbw9 Hres9.out hwR hB2 HO9.out.1 HO9.out.2 hk
    clear Hcon HO8 Hrow8 Hres8 hbw8 HO9 Hres9 a0 a1 a2 c0 c1 hb9 hbw9 H2 Hr
    go_upto_region 14 with fail
    go_region
    all_goals
     go_wp2_with fail
     refine bodyPost_ret (v:=.tuple #[.agg #[.bool true,.slice ca cls.length cc,.slice la 0 lc],.bool true]) (by simp[results,Tryz.results8,go_sem,set_same,set_other,z0,z1,z2]) rfl ?_
     exact⟨ca,cc,la,lc,rfl,Hfin.out _ ((((Keeps.refl _ _).drew.set (by simp) _).set (by simp) _).set (by simp) _)⟩
  | false=>
    obtain⟨l1,l2,l3,l4⟩:=H2.out.no rfl
    subst l1
    have hmax:stepsMax=3518437208883:=rfl
    have hlen:=H2.out.len
    obtain⟨n1,_,n3⟩:=chk_full Hr.out l3
    have hcon:=rCheck_any ta sa la tc sc lc ts cs sts w8 hT8 hC8 (stepsAt_of_own HO8.out.2) (by omega)
    rw[n1,n3 l2 l4]at hcon
    have Hcon:=hide hcon
    clear hcon n1 n3 l2 l3 l4 hts hclb hT8 hC8 hmax hlen
    go_wp2_with fail
    refine Hcon.out.mono ?_
    rintro e w9 ⟨rfl,hb9⟩
    have hbw9:Below w.heap.size w w9:=hbw8.trans (hb9.mono hbw8.size)
    have b0:=cell_below hb9 a0
    have b1:=cell_below hb9 a1
    have b2:=cell_below hb9 a2
    have Hres9:=hide ((keeps_below hb9).row (by simp) Hres8.out)
    have HO9:=hide (And.intro (own_below HO8.out.1 hb9) (own_below HO8.out.2 hb9))
    have z0:w9.cell? ⟨R,0,none⟩=some (.bool false):=by rw[cell_of_row _ _ _ _ _ _ Hres9.out];rfl
    have z1:w9.cell? ⟨R,1,none⟩=some (.slice none 0 0):=by rw[cell_of_row _ _ _ _ _ _ Hres9.out];rfl
    have z2:w9.cell? ⟨R,2,none⟩=some (.slice none 0 0):=by rw[cell_of_row _ _ _ _ _ _ Hres9.out];rfl
    have g0:w9.frozen? ⟨R,0,none⟩=false:=frozen_of_row _ _ _ _ _ Hres9.out
    have g1:w9.frozen? ⟨R,1,none⟩=false:=frozen_of_row _ _ _ _ _ Hres9.out
    have g2:w9.frozen? ⟨R,2,none⟩=false:=frozen_of_row _ _ _ _ _ Hres9.out
    have hss:((sts.length:Int) == (sts.length:Int))=true:=by simp
    have Hfin:Hid (∀ wz,Keeps [R] w9 wz->_):=fun wz hk=>solve_fin (sts:=sts) (cls:=[]) hbw9 Hres9.out hwR hB2 HO9.out.1 HO9.out.2 hk
    clear Hcon HO8 Hrow8 Hres8 hbw8 HO9 Hres9 a0 a1 a2 c0 c1 hb9 hbw9 H2 Hr
    go_upto_region 16 with fail
    go_region
    all_goals
     go_wp2_with fail
     refine bodyPost_ret (v:=.tuple #[.agg #[.bool false,.slice ca 0 cc,.slice la sts.length lc],.bool true]) (by simp[results,Tryz.results8,go_sem,set_same,set_other,z0,z1,z2]) rfl ?_
     exact⟨ca,cc,la,lc,rfl,Hfin.out _ ((((Keeps.refl _ _).drew.set (by simp) _).set (by simp) _).set (by simp) _)⟩
end Go.Proofs.YtjebhhoibofmfaaGreat
namespace Go.Proofs.YtjebhhoibofmfaaGreat
open Go.RowKit
def unS:List St:=[⟨0,0,0,0,0⟩,⟨0,1,0,0,0⟩,⟨3,2,3,0,0⟩,⟨4,2,1,2,3⟩,⟨4,0,3,0,1⟩]
theorem un_solveP(b1 b2 c1 c2:Nat):solveP (envOf (fourTs b1 b2) (unClauses c1 c2)) 30=some (false,[],unS):=by kernel_rfl
theorem un_refuse(b1 b2 c1 c2:Nat):refuseI (fourTs b1 b2) (unClauses c1 c2)=0:=by kernel_rfl
theorem un_follow(b1 b2 c1 c2:Nat):(followL (fourTs b1 b2) (unClauses c1 c2) unS []).length=5:=by kernel_rfl
theorem un_empty(b1 b2 c1 c2:Nat):emptyB (lastS (followL (fourTs b1 b2) (unClauses c1 c2) unS [])).1 (lastS (followL (fourTs b1 b2) (unClauses c1 c2) unS [])).2=true:=by kernel_rfl
theorem unC_ok(c1 c2:Nat):ClsOk (unClauses c1 c2):=by
 intro i hi
 match i,hi with
 | 0,_=>exact⟨fun h=>by simp[unClauses]at h,by simp[unClauses]⟩
 | 1,_=>exact⟨fun h=>by simp[unClauses]at h,by simp[unClauses]⟩
theorem sol_of{ts:List Tm}{cs:List Cl}(hr:refuseI ts cs=0){f:Nat}{b:Bool}{cls:List Int}{sts:List St}(h:solveP (envOf ts cs) f=some (b,cls,sts)):Sol ts cs b cls sts:=by
 obtain⟨hts,hcl⟩:=of_refuse hr
 have hE:=envOf_all ts cs
 have h16:=(clausesIn_of hcl).1
 have hB0:Begun (envOf ts cs) ts cs [] [] (0,0) pf0:=by
  refine⟨⟨rfl,by simp[pf0],fun i hi=>by simp[pf0]at hi⟩,(fun k hk=>by cases hk),(fun i hi=>by cases hi),fun t _ hh=>?_,by simp[pf0],rfl⟩
  rw[has_zero]at hh
  cases hh
 obtain⟨kn,st,P,s1,s2⟩:=start_ok hE hts hcl (List.range cs.length) [] [] (0,0) pf0 hB0 (fun i hi=>List.mem_range.1 hi) (by simp;exact h16)
 obtain⟨_,_,hlow⟩:=begun_cx hE rfl hts hcl s2 (fun i hi=>by simpa using hi)
 have e:(envOf ts cs).m=cs.length:=rfl
 unfold solveP at h
 rw[e,s1,Option.bind_some,Option.bind_eq_some_iff]at h
 obtain⟨⟨o,S⟩,r1,r2⟩:=h
 refine⟨f,kn,st,P,o,S,s1,pairs_len st,hlow,r1,?_⟩
 cases o with
 | none=>
   simp only[Option.some.injEq,Prod.mk.injEq]at r2
   obtain⟨rfl,rfl,rfl⟩:=r2
   exact⟨(fun _ e=>by cases e),fun _=>rfl,rfl,rfl⟩
 | some k=>
   simp only[Option.map_eq_some_iff,Prod.mk.injEq]at r2
   obtain⟨out,h1,rfl,rfl,rfl⟩:=r2
   refine⟨fun j ej=>?_,(fun e=>by cases e),rfl,rfl⟩
   injection ej with ej
   subst ej
   exact h1
theorem un_is(b1 b2 c1 c2:Nat):SolveIs (fourTs b1 b2) (unClauses c1 c2) false [] unS:=
 .inr ⟨un_refuse _ _ _ _,sol_of (un_refuse _ _ _ _) (un_solveP b1 b2 c1 c2),⟨(fun e=>by cases e),fun _=>⟨rfl,by simp[unS],un_follow _ _ _ _,un_empty _ _ _ _⟩,by simp[unS,stepsMax]⟩⟩
set_option maxRecDepth 100000 in
set_option maxHeartbeats 4000000 in
theorem solves_any(ta sa:Option Addr)(tc sc:Nat)(ts:List Tm)(cs:List Cl)(w:World)(ht:TermsAt w ta ts)(hcs:ClausesAt w sa cs)
 (htn:ta=none->tc=0) (hsn:sa=none->sc=0) (hto:TmsOk ts) (hco:ClsOk cs) (htl:ts.length<=4398046510976) (hcl:cs.length<=5864062014634) (htc:ts.length<=tc) :
 Calls Tryz.prog 3 #[.agg #[.slice ta ts.length tc,.slice sa cs.length sc]] w fun e w'=>e=.returned (.bool true)/\Below w.heap.size w w':=by
 obtain⟨b,cls,sts,hS⟩:=solve_is ts cs
 have HS:=hide hS
 have Hto:=hide hto
 have Hco:=hide hco
 clear hto hco hS
 obtain⟨w1,hw1⟩:∃ w1,w1=w.alloc (.cells #[.slice ta ts.length tc,.slice sa cs.length sc] 25):=⟨_,rfl⟩
 have hb1:Below w.heap.size w w1:=by rw[hw1];exact below_alloc _ _
 have p0:w1.cell? ⟨w.heap.size,0,none⟩=some (.slice ta ts.length tc):=by rw[hw1];simp
 have p1:w1.cell? ⟨w.heap.size,1,none⟩=some (.slice sa cs.length sc):=by rw[hw1];simp
 have hT1:=ht.below hb1
 have hC1:=hcs.below hb1
 clear ht hcs
 go_enter Tryz.func3,Tryz.ntmps3
 go_upto_region 1 with fail
 rw[<-hw1]
 clear hw1
 go_wp2_with fail
 refine(unsaid_any w1).mono ?_
 rintro e w2 ⟨b1,b2,g,c1,c2,cg,st,rfl,hF,hU,hb2⟩
 obtain⟨w3,hw3⟩:∃ w3,w3=w2.alloc (.cells #[.slice (some ⟨g,0,none⟩) 4 4,.slice (some ⟨cg,0,none⟩) 2 2] 25):=⟨_,rfl⟩
 have hb3:Below w2.heap.size w2 w3:=by rw[hw3];exact below_alloc _ _
 have q0:w3.cell? ⟨w2.heap.size,0,none⟩=some (.slice (some ⟨g,0,none⟩) 4 4):=by rw[hw3];simp
 have q1:w3.cell? ⟨w2.heap.size,1,none⟩=some (.slice (some ⟨cg,0,none⟩) 2 2):=by rw[hw3];simp
 have hcon:=solveL_any (some ⟨g,0,none⟩) (some ⟨cg,0,none⟩) 4 2 (fourTs b1 b2) (unClauses c1 c2) w3 (hF.below hb3) (hU.below hb3) (fun h=>by cases h) (fun h=>by cases h) (four_ok _ _) (unC_ok _ _) (by simp[fourTs]) (by simp[unClauses]) (by simp[fourTs]) (un_is b1 b2 c1 c2)
 have Hcon:Hid (Calls Tryz.prog 8 #[.agg #[.slice (some ⟨g,0,none⟩) 4 4,.slice (some ⟨cg,0,none⟩) 2 2]] w3 fun e w'=>∃ ca cc la lc,e=.returned (.tuple #[.agg #[.bool false,.slice ca 0 cc,.slice la 5 lc],.bool true])/\Below w3.heap.size w3 w'):=
  hcon.mono (fun e w' ⟨ca,cc,la,lc,h1,_,_,h4⟩=>⟨ca,cc,la,lc,h1,h4⟩)
 have hb13:Below w1.heap.size w1 w3:=hb2.trans (hb3.mono hb2.size)
 clear hcon hF hU hb2 hb3
 go_upto_region 2 with fail
 rw[<-hw3]
 clear hw3
 go_wp2_with fail
 refine Hcon.out.mono ?_
 rintro e w4 ⟨ca,cc,la,lc,rfl,hb4⟩
 obtain⟨w5,hw5⟩:∃ w5,w5=w4.alloc (.cells #[.bool false,.slice ca 0 cc,.slice la 5 lc] 31):=⟨_,rfl⟩
 have hb5:Below w4.heap.size w4 w5:=by rw[hw5];exact below_alloc _ _
 have x2:w5.cell? ⟨w4.heap.size,2,none⟩=some (.slice la 5 lc):=by rw[hw5];simp
 have hb15:Below w1.heap.size w1 w5:=hb13.trans ((hb4.trans (hb5.mono hb4.size)).mono hb13.size)
 have p0':=cell_below hb15 p0
 have p1':=cell_below hb15 p1
 have hT5:=hT1.below hb15
 have hC5:=hC1.below hb15
 have hbw5:Below w.heap.size w w5:=hb1.trans (hb15.mono hb1.size)
 go_upto_region 3 with fail
 rw[<-hw5]
 clear hw5 Hcon hb4 hb5 hb13 p0 p1 hT1 hC1 hb15 hb1 q0 q1
 have hcon:=fun u:Up w5=>solveL_any ta sa tc sc ts cs u.world (hT5.below u.above) (hC5.below u.above) htn hsn Hto.out Hco.out htl hcl htc HS.out
 have Hcon:=hide hcon
 have Hc1:=hide (hcon ⟨w5,Below.refl _ _⟩)
 clear hcon
 go_wp2_with fail
 refine Hc1.out.mono ?_
 rintro e w6 ⟨ba,bc,ya,yc,rfl,ho1,ho2,hb6⟩
 clear Hc1 x2
 obtain⟨w7,hw7⟩:∃ w7,w7=w6.alloc (.cells #[.bool b,.slice ba cls.length bc,.slice ya sts.length yc] 31):=⟨_,rfl⟩
 have hb7:Below w6.heap.size w6 w7:=by rw[hw7];exact below_alloc _ _
 have e1:w7.cell? ⟨w6.heap.size,1,none⟩=some (.slice ba cls.length bc):=by rw[hw7];simp
 have e2:w7.cell? ⟨w6.heap.size,2,none⟩=some (.slice ya sts.length yc):=by rw[hw7];simp
 have hb57:Below w5.heap.size w5 w7:=hb6.trans (hb7.mono hb6.size)
 have i7:=(intsAt_of_own ho1).below hb7
 have s7:=(stepsAt_of_own ho2).below hb7
 have r0:=cell_below hb57 p0'
 have r1:=cell_below hb57 p1'
 have Hc2:=hide (Hcon.out ⟨w7,hb57⟩)
 go_upto_region 6 with fail
 rw[<-hw7]
 clear hw7 ho1 ho2 hb6 hb7 p0' p1'
 generalize w6.heap.size=G at *
 go_wp2_with fail
 refine Hc2.out.mono ?_
 rintro e w8 ⟨ba2,bc2,ya2,yc2,rfl,ho1,ho2,hb8⟩
 have hb8':Below w7.heap.size w7 w8:=hb8
 clear Hc2 hb8 Hcon
 obtain⟨w9,hw9⟩:∃ w9,w9=w8.alloc (.cells #[.bool b,.slice ba2 cls.length bc2,.slice ya2 sts.length yc2] 31):=⟨_,rfl⟩
 have hb9:Below w8.heap.size w8 w9:=by rw[hw9];exact below_alloc _ _
 have f1:w9.cell? ⟨w8.heap.size,1,none⟩=some (.slice ba2 cls.length bc2):=by rw[hw9];simp
 have f2:w9.cell? ⟨w8.heap.size,2,none⟩=some (.slice ya2 sts.length yc2):=by rw[hw9];simp
 have hb79:Below w7.heap.size w7 w9:=hb8'.trans (hb9.mono hb8'.size)
 have j7:=(intsAt_of_own ho1).below hb9
 have t7:=(stepsAt_of_own ho2).below hb9
 have i9:=i7.below hb79
 have s9:=s7.below hb79
 have e1':=cell_below hb79 e1
 have e2':=cell_below hb79 e2
 have hbw9:Below w.heap.size w w9:=hbw5.trans ((hb57.trans (hb79.mono hb57.size)).mono hbw5.size)
 go_upto_region 9 with fail
 rw[<-hw9]
 clear hw9 ho1 ho2 hb8' hb9 hb79 i7 s7 e1 e2 r0 r1 hb57 hbw5 hT5 hC5
 generalize w8.heap.size=G2 at *
 have hlc:cls.length<=4611686018427387904/\sts.length<=3518437208883:=by
  rcases HS.out with⟨_,_,h1,h2⟩ | ⟨hr,_,h2⟩
  ·rw[h1,h2];simp
  ·have hmax:stepsMax=3518437208883:=rfl
   have:=h2.len
   obtain⟨hts,_⟩:=of_refuse hr
   have h9:=(len_of hts).2
   cases hb:b with
   | true=>have:=(h2.yes hb).1;omega
   | false=>have:=(h2.no hb).1;rw[this];simp;omega
 obtain⟨hlc1,hlc2⟩:=hlc
 have hsm:=sameInts_any ba ba2 bc bc2 cls w9 i9 j7 hlc1
 have Hsm:=hide hsm
 clear hsm i9 j7 HS Hto Hco
 go_wp2_with fail
 refine Hsm.out.mono ?_
 rintro e w10 ⟨rfl,n0,rfl⟩
 have hss:((sts.length:Int) == (sts.length:Int))=true:=by simp
 clear Hsm e1' f1
 go_wp2_with fail
 go_loopg [10,11] sts.length (fun q s10 s11 wx=>∃ k:Nat,q=sts.length - k/\k<=sts.length/\s10=.bool true/\s11=.int .i64 k/\∃ n,wx=w9.drewN n)
 case atStart=>exact⟨0,by omega,by omega,rfl,rfl,_,rfl⟩
 case round=>
  obtain⟨k,rfl,hk,rfl,rfl,n,rfl⟩:=hrel
  by_cases hlt:k < sts.length
  ·obtain⟨yb,yo,rfl,hy⟩:=s9.get hlt
   obtain⟨zb,zo,rfl,hz⟩:=t7.get hlt
   obtain⟨y0,y1,y2,y3,y4⟩:=hy k hlt
   obtain⟨z0,z1,z2,z3,z4⟩:=hz k hlt
   generalize (sts.getD k st0).r=v1 at *
   generalize (sts.getD k st0).a=v2 at *
   generalize (sts.getD k st0).b=v3 at *
   generalize (sts.getD k st0).c=v4 at *
   generalize (sts.getD k st0).d=v5 at *
   have klt:(k:Int) < (sts.length:Int):=by omega
   clear hy hz
   go_upto_region 14 with fail
   go_quiet (fail)
   go_wp2_with fail
   go_roundg (sts.length - (k+1))
   case measure=>omega
   case rel=>exact⟨k+1,rfl,by omega,by simp,by go_num,_,rfl⟩
  ·go_wp2_with fail
   go_ret
   exact⟨rfl,below_drewN hbw9 n⟩
end Go.Proofs.YtjebhhoibofmfaaGreat
