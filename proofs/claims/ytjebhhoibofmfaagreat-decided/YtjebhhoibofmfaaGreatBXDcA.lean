import Derived.Test.YtjebhhoibofmfaaGreatBXMsA
import Derived.Test.YtjebhhoibofmfaaGreatBMMd
import Derived.Test.YtjebhhoibofmfaaGreatBXLsA
namespace Go.Proofs.YtjebhhoibofmfaaGreat
open Go.RowKit
set_option maxRecDepth 100000 in
set_option maxHeartbeats 4000000 in
theorem decided_any(ra qa:Option Addr)(rc qc:Nat)(rs qs:List Int)(w:World)(hr:IntsAt w ra rs)(hq:IntsAt w qa qs)
 (hwf:∀ i,i < rs.length->-9223372036854775808<=rs.getD i 0/\rs.getD i 0<=9223372036854775807) (hwq:∀ i,i < qs.length->-9223372036854775808<=qs.getD i 0/\qs.getD i 0<=9223372036854775807) :
 Calls Tryz.prog 6 #[.slice ra rs.length rc,.slice qa qs.length qc] w fun e w'=>e=.returned (.bool true)/\Below w.heap.size w w':=by
 have Hwf:=hide hwf
 have Hwq:=hide hwq
 clear hwf hwq
 go_enter Tryz.func6,Tryz.ntmps6
 go_wp2_with fail
 refine(kterms_any ra rc rs _ hr Hwf.out).mono ?_
 rintro e w1 ⟨ta,tc,ts,rfl,ht,hts,_,h7,hb1⟩
 have hn1:=(len_of hts).1
 have hlt1:ts.length<=9:=by omega
 go_wp2_with fail
 refine(kproblem_any ta qa tc qc ts.length qs _ hn1 hlt1 (hq.below hb1) Hwq.out).mono ?_
 rintro e w2 ⟨pv,cs,rfl,hcs,hcl,h8,hb2⟩
 obtain⟨pa,pc,rfl,hcA⟩:=hcs.at
 have ht2:=ht.below hb2
 have hb12:Below w.heap.size w w2:=hb1.trans (hb2.mono hb1.size)
 have hre:refuseI ts cs=0:=by simp[refuseI,hts,hcl]
 have Hts:=hide hts
 have Hcl:=hide hcl
 have Hre:=hide hre
 clear hts hcl ht hcs hb1 hb2 hr hq hre
 obtain⟨W,hW⟩:∃ W,W=w2.alloc (.cells #[.slice ta ts.length tc,.slice pa cs.length pc] 25):=⟨_,rfl⟩
 have hbW:Below w2.heap.size w2 W:=by rw[hW];exact below_alloc _ _
 have p0:W.cell? ⟨w2.heap.size,0,none⟩=some (.slice ta ts.length tc):=by rw[hW];simp
 have p1:W.cell? ⟨w2.heap.size,1,none⟩=some (.slice pa cs.length pc):=by rw[hW];simp
 have ht3:=ht2.below hbW
 have hc3:=hcA.below hbW
 have hbw:Below w.heap.size w W:=hb12.trans (hbW.mono hb12.size)
 go_upto_region 2 with fail
 rw[<-hW]
 clear hW ht2 hcA hbW hb12
 generalize w2.heap.size=B at *
 have hcon:=models_any ta pa tc pc ts cs W ht3 hc3 Hts.out Hcl.out
 have Hcon:=hide hcon
 clear hcon
 go_wp2_with fail
 refine Hcon.out.mono ?_
 rintro e w3 ⟨ya,yc,ys,rfl,hys,hy9,hgone,hb3⟩
 obtain⟨b,cls,sts,hsol,hok⟩:=solve_some Hre.out
 have hcon:=solve_any cutHolds ta pa tc pc ts cs w3 (ht3.below hb3) (hc3.below hb3) Hre.out hsol
 have hbe:b=decide (0 < ys.length):=by
  cases b with
  | true=>
    obtain⟨g1,g2,g3,g4,g5⟩:=hok.yes rfl
    obtain⟨i,hi,_⟩:=hgone.2 cls g2 g1 (by simp[fitsB,g3,g4])
    have:0 < ys.length:=by omega
    simp[this]
  | false=>
    obtain⟨g1,g2,g3,g4⟩:=hok.no rfl
    by_cases h0:0 < ys.length
    ·obtain⟨_,_,m3⟩:=hgone.1 0 h0
     simp only[fitsB,Bool.and_eq_true]at m3
     exact absurd (no_model Hts.out Hcl.out g2 g3 g4 _ m3.1 m3.2) id
    ·simp[h0]
 have hbW3:Below w.heap.size w w3:=hbw.trans (hb3.mono hbw.size)
 have q0:=cell_below hb3 p0
 have q1:=cell_below hb3 p1
 have Hbe:=hide hbe
 clear hbe
 have Hcon2:=hide hcon
 have Hgone:=hide hgone
 have Hok:=hide hok
 have Ht4:=hide (ht3.below hb3)
 have Hc4:=hide (hc3.below hb3)
 clear hcon hgone hok hsol Hcon ht3 hc3 hb3 hbw p0 p1
 go_wp2_with fail
 refine Hcon2.out.mono ?_
 rintro e w4 ⟨ca,cc,la,lc,rfl,ho1,ho2,hb4⟩
 clear Hcon2
 obtain⟨W5,hW5⟩:∃ W5,W5=w4.alloc (.cells #[.bool b,.slice ca cls.length cc,.slice la sts.length lc] 31):=⟨_,rfl⟩
 have hb5:Below w4.heap.size w4 W5:=by rw[hW5];exact below_alloc _ _
 have a0:W5.cell? ⟨w4.heap.size,0,none⟩=some (.bool b):=by rw[hW5];simp
 have a1:W5.cell? ⟨w4.heap.size,1,none⟩=some (.slice ca cls.length cc):=by rw[hW5];simp
 have a2:W5.cell? ⟨w4.heap.size,2,none⟩=some (.slice la sts.length lc):=by rw[hW5];simp
 have hb35:Below w3.heap.size w3 W5:=hb4.trans (hb5.mono hb4.size)
 have q0':=cell_below hb35 q0
 have q1':=cell_below hb35 q1
 have hys5:=hys.below hb35
 have hint5:=(intsAt_of_own ho1).below hb5
 have hst5:=(stepsAt_of_own ho2).below hb5
 have Ht5:=hide (Ht4.out.below hb35)
 have Hc5:=hide (Hc4.out.below hb35)
 have hbw5:Below w.heap.size w W5:=hbW3.trans (hb35.mono hbW3.size)
 go_upto_region 4 with fail
 rw[<-hW5]
 clear hW5 hb5 hb35 hb4 ho1 ho2 hys q0 q1 Ht4 Hc4 hbW3
 generalize w4.heap.size=G at *
 cases b with
 | false=>
   obtain⟨g1,g2,g3,g4⟩:=Hok.out.no rfl
   subst g1
   have h0:ys.length=0:=by
    have:=(decide_eq_false_iff_not.1 Hbe.out.symm)
    omega
   have hlen:=Hok.out.len
   have hmax:stepsMax=3518437208883:=rfl
   obtain⟨n1,_,n3⟩:=chk_full Hre.out g3
   have hcon:=check_any ta pa la tc pc lc ts cs sts W5 Ht5.out Hc5.out hst5 (by omega)
   rw[n1,n3 g2 g4]at hcon
   have hs0:sts.length≠0:=fun e=>g2 (List.eq_nil_of_length_eq_zero e)
   have hs1:(0:Int) < (sts.length:Int):=by omega
   have hs2:((sts.length:Int) == (sts.length:Int))=true:=by simp
   have Hcon:=hide hcon
   rw[h0]
   clear hcon n3 n1 g2 g3 g4 h0 Hbe hs0
   go_wp2_with fail
   refine Hcon.out.mono ?_
   rintro e w6 ⟨rfl,hb6⟩
   have a1':=cell_below hb6 a1
   have a2':=cell_below hb6 a2
   have hbw6:Below w.heap.size w w6:=hbw5.trans (hb6.mono hbw5.size)
   clear a0 a1 a2 q0' q1'
   go_wp2_with fail
   go_ret
   exact⟨rfl,hbw6⟩
 | true=>
   obtain⟨g1,g2,g3,g4,g5⟩:=Hok.out.yes rfl
   subst g5
   have h0:0 < ys.length:=of_decide_eq_true Hbe.out.symm
   have hi0:(0:Int) < (ys.length:Int):=by omega
   obtain⟨k0,hk0,hk1⟩:=Hgone.out.2 cls g2 g1 (by simp[fitsB,g3,g4])
   have hT:=trueB_of Hts.out Hcl.out g2 g1
   have hTe:=hT.2
   have hTb:=hT.1
   rw[g3,g4]at hTb
   have hcon:=fun u:Up W5=>true_any ta pa ca tc pc cc ts cs cls u.world (Ht5.out.below u.above) (Hc5.out.below u.above) (hint5.below u.above)
   rw[hTb,hTe]at hcon
   have Hcon:=hide hcon
   have Hk1:=hide hk1
   have h9:=(len_of Hts.out).2
   have Hg1:=hide g1
   clear hcon hk1 hT hTe hTb g1 g2 g3 g4 Hbe
   go_wp2_with fail
   go_loopg [11] ys.length (fun q s wx=>∃ i:Nat,q=ys.length - i/\i<=k0/\s=.int .i64 i/\Below W5.heap.size W5 wx)
   case atStart=>exact⟨0,by omega,by omega,rfl,Below.refl _ _⟩
   case round=>
    obtain⟨i,rfl,hi,rfl,hbr⟩:=hrel
    have hlt:i < ys.length:=by omega
    obtain⟨yb,yo,rfl,ycell⟩:=(hys5.below hbr).get hlt
    obtain⟨y1,y2⟩:=ycell i hlt
    have hgl:=(Hgone.out.1 i hlt).2.1
    have Hik:Hid (i=k0->(ys.getD i wy0).xs=cls):=fun e=>by rw[e];exact Hk1.out
    generalize ys.getD i wy0=y at *
    obtain⟨xa,xc,xs⟩:=y
    simp only[wyVal]at y1 y2 hgl
    have hsm:∀ u:Up wr,Calls Tryz.prog 15 #[.slice xa xs.length xc,.slice ca cls.length cc] u.world fun e w'=>e=.returned (.bool (decide (xs=cls)))/\Below u.world.heap.size u.world w':=fun u=>
     (same_any xa ca xc cc xs cls u.world (y2.below u.above) ((hint5.below hbr).below u.above) (by omega)).mono (fun e w' ⟨h1,n,h2⟩=>⟨h1,by rw[h2];exact below_drewN (Below.refl _ _) n⟩)
    have ilt:(i:Int) < (ys.length:Int):=by omega
    have i0:(0:Int)<=(i:Int):=by omega
    have hne:Nonempty (Up wr):=⟨⟨wr,Below.refl _ _⟩⟩
    have a1r:=cell_below hbr a1
    have a2r:=cell_below hbr a2
    have d1:∀ u:Up wr,u.world.cell? ⟨G,1,none⟩=some (.slice ca cls.length cc):=fun u=>u.cell a1r
    have d2:∀ u:Up wr,u.world.cell? ⟨yb,yo+i,none⟩=some (.slice xa xs.length xc):=fun u=>u.cell y1
    clear ycell hgl
    by_cases he:xs=cls
    ·have Hsm:Hid (∀ u:Up wr,Calls Tryz.prog 15 #[.slice xa xs.length xc,.slice ca cls.length cc] u.world fun e w'=>e=.returned (.bool true)/\Below u.world.heap.size u.world w'):=by
      intro u;have:=hsm u;rw[decide_eq_true he]at this;exact this
     clear hsm he Hik
     go_upto_region 12 with fail
     refine wp_region_up (by kernel_rfl) (by kernel_rfl) ?_
     repeat (go_big_quiet_step ((go_at_call 15; exact calls_up (Hsm.out _))))
     refine wpQuiet_nil ?_
     intro _ hw'
     obtain⟨nq,hw''⟩:=hw'
     subst hw''
     have hbc:Below W5.heap.size W5 nq.world:=hbr.trans (nq.above.mono hbr.size)
     have r0:=cell_below hbc q0'
     have r1:=cell_below hbc q1'
     have r2:=cell_below hbc a1
     have r3:=cell_below hbc a2
     have Hc2:=hide (Hcon.out ⟨nq.world,hbc⟩)
     clear d1 d2 hne q0' q1' a0 a1 a2 a1r a2r y1 y2 Hcon
     go_wp2_with fail
     refine Hc2.out.mono ?_
     rintro e w6 ⟨rfl,hb6⟩
     have a2':=cell_below hb6 r3
     have hbw6:Below w.heap.size w w6:=(hbw5.trans (hbc.mono hbw5.size)).trans (hb6.mono (by have:=hbw5.size;have:=hbc.size;show _<=nq.world.heap.size;omega))
     clear r0 r1 r2 r3 Hc2
     go_wp2_with fail
     go_ret
     exact⟨rfl,hbw6⟩
    ·have Hsm:Hid (∀ u:Up wr,Calls Tryz.prog 15 #[.slice xa xs.length xc,.slice ca cls.length cc] u.world fun e w'=>e=.returned (.bool false)/\Below u.world.heap.size u.world w'):=by
      intro u;have:=hsm u;rw[decide_eq_false he]at this;exact this
     have Hik2:Hid (i≠k0):=fun e=>he (Hik.out e)
     clear hsm he Hik
     go_upto_region 12 with fail
     refine wp_region_up (by kernel_rfl) (by kernel_rfl) ?_
     repeat (go_big_quiet_step ((go_at_call 15; exact calls_up (Hsm.out _))))
     refine wpQuiet_nil ?_
     intro _ hw'
     obtain⟨nq,hw''⟩:=hw'
     subst hw''
     have hbc:Below W5.heap.size W5 nq.world:=hbr.trans (nq.above.mono hbr.size)
     clear d1 d2 hne
     go_wp2_with fail
     go_roundg (ys.length - (i+1))
     case measure=>omega
     case rel=>exact⟨i+1,rfl,by have:=Hik2.out;omega,by go_num,hbc⟩
end Go.Proofs.YtjebhhoibofmfaaGreat
