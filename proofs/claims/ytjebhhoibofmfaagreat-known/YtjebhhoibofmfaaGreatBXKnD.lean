import Derived.Test.YtjebhhoibofmfaaGreatBXKnC
namespace Go.Proofs.YtjebhhoibofmfaaGreat
open Go.RowKit
theorem knSteps_at{w:World}{g:Nat}(h:w.heap[g]?=some (.cells #[.int .i64 0,.int .i64 0,.int .i64 0,.int .i64 0,.int .i64 0,.int .i64 0,.int .i64 1,.int .i64 0,.int .i64 0,.int .i64 0,.int .i64 3,.int .i64 2,.int .i64 3,.int .i64 0,.int .i64 0,.int .i64 4,.int .i64 2,.int .i64 1,.int .i64 2,.int .i64 3,.int .i64 4,.int .i64 0,.int .i64 3,.int .i64 0,.int .i64 1] 36 (0,0))) :
 StepsAt w (some ⟨g,0,none⟩) knSteps:=by
 refine .inr ⟨g,0,rfl,fun i hi=>?_⟩
 match i,hi with
 | 0,_=>refine⟨?_,?_,?_,?_,?_⟩ <;> rw[cell_of_row _ _ _ _ _ _ h] <;> rfl
 | 1,_=>refine⟨?_,?_,?_,?_,?_⟩ <;> rw[cell_of_row _ _ _ _ _ _ h] <;> rfl
 | 2,_=>refine⟨?_,?_,?_,?_,?_⟩ <;> rw[cell_of_row _ _ _ _ _ _ h] <;> rfl
 | 3,_=>refine⟨?_,?_,?_,?_,?_⟩ <;> rw[cell_of_row _ _ _ _ _ _ h] <;> rfl
 | 4,_=>refine⟨?_,?_,?_,?_,?_⟩ <;> rw[cell_of_row _ _ _ _ _ _ h] <;> rfl
set_option maxRecDepth 100000 in
set_option maxHeartbeats 4000000 in
theorem known_mid(c:Int)(w:World)(hq:∀ w,Calls Tryz.prog 13 #[.int .i64 c,.int .i64 3] w fun e w'=>e=.returned (.int .i64 1)/\w'=w) :
 Calls Tryz.prog 5 #[.int .i64 c] w fun e w'=>e=.returned (.bool true)/\Below w.heap.size w w':=by
 have hK:=KT.start w
 obtain⟨W,hW⟩:∃ W,W=(((w.alloc (.cells #[.int .i64 0] 3)).alloc (.cells #[.int .i64 1] 3)).alloc
  (.cells #[.int .i64 0,.slice none 0 0,.int .i64 1,.slice none 0 0,.int .i64 2,.slice (some ⟨w.heap.size,0,none⟩) 1 1,.int .i64 2,.slice (some ⟨w.heap.size+1,0,none⟩) 1 1] 52)):=⟨_,rfl⟩
 rw[<-hW]at hK
 obtain⟨a,cap,hv,ht⟩:=termsAt_of_own hK.1 (fun i hi=>(hK.2.1 i hi).at)
 injection hv with e1 _ _
 subst e1
 have hT:TermsAt W (some ⟨w.heap.size+1+1,0,none⟩) (fourK w.heap.size (w.heap.size+1)):=ht
 have hbw:=hK.below
 clear hK ht
 go_enter Tryz.func5,Tryz.ntmps5
 go_upto_region 2 with fail
 rw[<-hW]
 clear hW
 generalize w.heap.size+1+1=g at *
 have Hq:=hide hq
 clear hq
 go_wp2_with fail
 refine(Hq.out _).mono ?_
 rintro e w' ⟨rfl,rfl⟩
 obtain⟨w1,hw1⟩:∃ w1,w1=(((w'.alloc (.cells #[.int .i64 0,.int .i64 1,.bool false] 60)).alloc (.cells #[.int .i64 2,.int .i64 3,.bool true] 60)).alloc
  (.cells #[.slice (some ⟨w'.heap.size,0,none⟩) 1 1,.slice (some ⟨w'.heap.size+1,0,none⟩) 1 1] 61)).alloc (.cells #[.slice (some ⟨g,0,none⟩) 4 4,.slice (some ⟨w'.heap.size+1+1,0,none⟩) 2 2] 25):=⟨_,rfl⟩
 have hb1:Below w'.heap.size w' w1:=by rw[hw1];exact((((Below.refl _ _).alloc (Nat.le_refl _) _).alloc (by simp) _).alloc (by simp;omega) _).alloc (by simp;omega) _
 have hC1:ClausesAt w1 (some ⟨w'.heap.size+1+1,0,none⟩) (knClauses w'.heap.size (w'.heap.size+1)):=by
  refine kn_at ?_ ?_ ?_
  ·rw[hw1];exact heap_at_old _ _ (heap_at_old _ _ (heap_at_old _ _ (heap_at_new _ _ _ rfl)))
  ·rw[hw1];exact heap_at_old _ _ (heap_at_old _ _ (heap_at_new _ _ _ (by simp)))
  ·rw[hw1];exact heap_at_old _ _ (heap_at_new _ _ _ (by simp))
 have p0:w1.cell? ⟨w'.heap.size+1+1+1,0,none⟩=some (.slice (some ⟨g,0,none⟩) 4 4):=by rw[hw1];exact alloc_new (by simp) rfl
 have p1:w1.cell? ⟨w'.heap.size+1+1+1,1,none⟩=some (.slice (some ⟨w'.heap.size+1+1,0,none⟩) 2 2):=by rw[hw1];exact alloc_new (by simp) rfl
 have hT1:=hT.below hb1
 go_upto_region 13 with fail
 rw[<-hw1]
 clear hw1 hT
 generalize w'.heap.size+1+1+1=B at *
 generalize w'.heap.size+1+1=cg at *
 generalize w'.heap.size+1=c2 at *
 obtain⟨w2,hw2⟩:∃ w2,w2=w1.alloc (.cells #[.int .i64 0,.int .i64 0,.int .i64 0,.int .i64 0,.int .i64 0,.int .i64 0,.int .i64 1,.int .i64 0,.int .i64 0,.int .i64 0,.int .i64 3,.int .i64 2,.int .i64 3,.int .i64 0,.int .i64 0,.int .i64 4,.int .i64 2,.int .i64 1,.int .i64 2,.int .i64 3,.int .i64 4,.int .i64 0,.int .i64 3,.int .i64 0,.int .i64 1] 36):=⟨_,rfl⟩
 have hb2:Below w1.heap.size w1 w2:=by rw[hw2];exact below_alloc _ _
 have hst2:StepsAt w2 (some ⟨w1.heap.size,0,none⟩) knSteps:=knSteps_at (by rw[hw2];exact heap_at_new _ _ _ rfl)
 have q0:=cell_below hb2 p0
 have q1:=cell_below hb2 p1
 have hT2:=hT1.below hb2
 have hC2:=hC1.below hb2
 have hb02:Below w'.heap.size w' w2:=hb1.trans (hb2.mono hb1.size)
 go_upto_region 14 with fail
 rw[<-hw2]
 clear hw2 p0 p1 hT1 hC1 hb1 hb2
 generalize w1.heap.size=sg at *
 generalize hTT:fourK w.heap.size (w.heap.size+1)=TT at *
 generalize hCC:knClauses w'.heap.size c2=CC at *
 have Hcon:Hid (Calls Tryz.prog 16 #[.agg #[.slice (some ⟨g,0,none⟩) 4 4,.slice (some ⟨cg,0,none⟩) 2 2],.slice (some ⟨sg,0,none⟩) 5 5] w2 fun e w'=>e=.returned (.tuple #[.int .i64 5,.int .i64 0])/\Below w2.heap.size w2 w'):=by
  have hcon:=check_any (some ⟨g,0,none⟩) (some ⟨cg,0,none⟩) (some ⟨sg,0,none⟩) 4 2 5 TT CC knSteps w2 hT2 hC2 hst2 (by simp[knSteps])
  rw[<-hTT,<-hCC,(kn_five _ _ _ _).1,(kn_five _ _ _ _).2]at hcon
  exact hcon
 have HT:=hide (And.intro hTT hCC)
 clear hTT hCC
 go_wp2_with fail
 refine Hcon.out.mono ?_
 rintro e w3 ⟨rfl,hb3⟩
 have r0:=cell_below hb3 q0
 have r1:=cell_below hb3 q1
 have hT3:=hT2.below hb3
 have hC3:=hC2.below hb3
 have hst3:=hst2.below hb3
 have hb03:Below w'.heap.size w' w3:=hb02.trans (hb3.mono hb02.size)
 clear Hcon q0 q1 hT2 hC2 hst2 hb02 hb3
 have Hc4:Hid (∀ u:Up w3,Calls Tryz.prog 16 #[.agg #[.slice (some ⟨g,0,none⟩) 4 4,.slice (some ⟨cg,0,none⟩) 2 2],.slice (some ⟨sg,0,none⟩) 4 5] u.world fun e w'=>e=.returned (.tuple #[.int .i64 4,.int .i64 5])/\Below u.world.heap.size u.world w'):=by
  intro u
  have hcon:=check_any (some ⟨g,0,none⟩) (some ⟨cg,0,none⟩) (some ⟨sg,0,none⟩) 4 2 5 TT CC (knSteps.take 4) u.world (hT3.below u.above) (hC3.below u.above) ((Steps.take hst3 4).below u.above) (by simp[knSteps])
  rw[<-HT.out.1,<-HT.out.2,(kn_four _ _ _ _).1,(kn_four _ _ _ _).2]at hcon
  exact hcon
 have hne:Nonempty (Up w3):=⟨⟨w3,Below.refl _ _⟩⟩
 have d0:∀ u:Up w3,u.world.cell? ⟨B,0,none⟩=some (.slice (some ⟨g,0,none⟩) 4 4):=fun u=>u.cell r0
 have d1:∀ u:Up w3,u.world.cell? ⟨B,1,none⟩=some (.slice (some ⟨cg,0,none⟩) 2 2):=fun u=>u.cell r1
 go_upto_region 15 with fail
 refine wp_region_up (by kernel_rfl) (by kernel_rfl) ?_
 repeat (go_big_quiet_step ((go_at_call 16; exact calls_up (Hc4.out _))))
 refine wpQuiet_nil ?_
 intro _ hw'
 obtain⟨nq,hw''⟩:=hw'
 subst hw''
 have hb4:=nq.above
 have s0:=cell_below hb4 r0
 have s1:=cell_below hb4 r1
 have hT4:=hT3.below hb4
 have hC4:=hC3.below hb4
 have hst4:=hst3.below hb4
 have hb04:Below w'.heap.size w' nq.world:=hb03.trans (hb4.mono hb03.size)
 generalize nq.world=w4 at *
 clear d0 d1 hne Hc4 r0 r1 hT3 hC3 hst3 hb03 hb4
 have Hc5:Hid (Calls Tryz.prog 17 #[.agg #[.slice (some ⟨g,0,none⟩) 4 4,.slice (some ⟨cg,0,none⟩) 2 2],.slice (some ⟨sg,0,none⟩) 4 5] w4.drew fun e w'=>∃ va vc,e=.returned (.tuple #[.slice va 1 vc,.int .i64 3,.int .i64 0])/\LitsAt w' va [⟨0,1,true⟩]/\Below w4.drew.heap.size w4.drew w'):=by
  have hcon:=clause_any (some ⟨g,0,none⟩) (some ⟨cg,0,none⟩) (some ⟨sg,0,none⟩) 4 2 5 TT CC (knSteps.take 4) w4.drew (hT4.below (Below.refl _ _).drew) (hC4.below (Below.refl _ _).drew) ((Steps.take hst4 4).below (Below.refl _ _).drew) (by simp[knSteps])
  rw[<-HT.out.1,<-HT.out.2,(kn_cls _ _ _ _).1,(kn_cls _ _ _ _).2.1,(kn_cls _ _ _ _).2.2]at hcon
  exact hcon.mono (fun e w' ⟨va,vc,h1,h2,_,h4⟩=>⟨va,vc,h1,litsAt_of_own h2,h4⟩)
 go_upto_region 16 with fail
 go_cut [19,20,21]from 122 to 129 (fun s19 s20 s21 wx=>∃ va vc,s19=.slice va 1 vc/\s20=.int .i64 3/\s21=.int .i64 0/\LitsAt wx va [⟨0,1,true⟩]/\Below w4.heap.size w4 wx)
 case first=>
  clear hT4 hC4 hst4 hb04 hbw HT
  go_region_with (go_at_call 17; refine Hc5.out.mono ?_;rintro e w6 ⟨va,vc,rfl,hl6,hb6⟩)
  all_goals
   go_wp2_with fail
   go_meet
   exact⟨va,vc,rfl,rfl,rfl,hl6,((Below.refl _ _).drew).trans hb6⟩
 case rest=>
  obtain⟨va,vc,rfl,rfl,rfl,hl,hb5⟩:=hcut
  have t0:=cell_below hb5 s0
  have t1:=cell_below hb5 s1
  have hb05:Below w'.heap.size w' wc:=hb04.trans (hb5.mono hb04.size)
  have Hc6:Hid (Calls Tryz.prog 18 #[.agg #[.slice (some ⟨g,0,none⟩) 4 4,.slice (some ⟨cg,0,none⟩) 2 2]] wc fun e w'=>∃ ca cl cc la ll lc,e=.returned (.tuple #[.agg #[.bool false,.slice ca cl cc,.slice la ll lc],.int .i64 0])/\Below wc.heap.size wc w'):=by
   have h5:=hT4.below hb5
   have h6:=hC4.below hb5
   rw[<-HT.out.1]at h5
   rw[<-HT.out.2]at h6
   exact solve_says (some ⟨g,0,none⟩) (some ⟨cg,0,none⟩) 4 2 _ _ wc h5 h6 (kn_refuse _ _ _ _) (kn_not _ _ _ _)
  clear Hc5 s0 s1 hT4 hC4 hst4 hb04 hb5 HT
  go_wp2_with fail
  refine Hc6.out.mono ?_
  rintro e w6 ⟨ca,cl,cc,la,ll,lc,rfl,hb6⟩
  obtain⟨w7,hw7⟩:∃ w7,w7=w6.alloc (.cells #[.bool false,.slice ca cl cc,.slice la ll lc] 31):=⟨_,rfl⟩
  have hb7:Below w6.heap.size w6 w7:=by rw[hw7];exact below_alloc _ _
  have a0:w7.cell? ⟨w6.heap.size,0,none⟩=some (.bool false):=by rw[hw7];simp
  have hb67:Below wc.heap.size wc w7:=hb6.trans (hb7.mono hb6.size)
  have hfin:Below w.heap.size w w7:=hbw.trans ((hb05.trans (hb67.mono hb05.size)).mono hbw.size)
  obtain⟨lb,lo,rfl,hlc⟩:=(hl.below hb67).get (i:=0) (by simp)
  obtain⟨l0,l1,l2⟩:=hlc 0 (by simp)
  simp only[List.getD_cons_zero,Nat.zero_mul,Nat.add_zero]at l0 l1 l2
  go_upto_region 18 with fail
  rw[<-hw7]
  clear hw7 Hc6 hb6 hb7 hb67 hb05 t0 t1 hl hlc
  generalize w6.heap.size=G at *
  go_wp2_with fail
  go_ret
  exact⟨rfl,hfin⟩
end Go.Proofs.YtjebhhoibofmfaaGreat
