import Derived.Test.YtjebhhoibofmfaaGreatBXKnB
namespace Go.Proofs.YtjebhhoibofmfaaGreat
open Go.RowKit
theorem kn_at{w:World}{c1 c2 cg:Nat}(h1:w.heap[c1]?=some (.cells #[.int .i64 0,.int .i64 1,.bool false] 60 (0,0)))(h2:w.heap[c2]?=some (.cells #[.int .i64 2,.int .i64 3,.bool true] 60 (0,0)))
 (hg:w.heap[cg]?=some (.cells #[.slice (some ⟨c1,0,none⟩) 1 1,.slice (some ⟨c2,0,none⟩) 1 1] 61 (0,0))):ClausesAt w (some ⟨cg,0,none⟩) (knClauses c1 c2):=by
 refine .inr ⟨cg,0,rfl,fun i hi=>?_⟩
 match i,hi with
 | 0,_=>
   refine⟨by rw[cell_of_row _ _ _ _ _ _ hg];rfl,.inr ⟨c1,0,rfl,fun j hj=>?_⟩⟩
   have:j=0:=by simpa[knClauses] using hj
   subst this
   exact⟨by rw[cell_of_row _ _ _ _ _ _ h1];rfl,by rw[cell_of_row _ _ _ _ _ _ h1];rfl,by rw[cell_of_row _ _ _ _ _ _ h1];rfl⟩
 | 1,_=>
   refine⟨by rw[cell_of_row _ _ _ _ _ _ hg];rfl,.inr ⟨c2,0,rfl,fun j hj=>?_⟩⟩
   have:j=0:=by simpa[knClauses] using hj
   subst this
   exact⟨by rw[cell_of_row _ _ _ _ _ _ h2];rfl,by rw[cell_of_row _ _ _ _ _ _ h2];rfl,by rw[cell_of_row _ _ _ _ _ _ h2];rfl⟩
theorem km_at{w:World}{c1 c2 cg:Nat}(h1:w.heap[c1]?=some (.cells #[.int .i64 0,.int .i64 1,.bool false,.int .i64 2,.int .i64 1,.bool false] 60 (0,0)))(h2:w.heap[c2]?=some (.cells #[.int .i64 0,.int .i64 1,.bool true] 60 (0,0)))
 (hg:w.heap[cg]?=some (.cells #[.slice (some ⟨c1,0,none⟩) 2 2,.slice (some ⟨c2,0,none⟩) 1 1] 61 (0,0))):ClausesAt w (some ⟨cg,0,none⟩) (kmClauses c1 c2):=by
 refine .inr ⟨cg,0,rfl,fun i hi=>?_⟩
 match i,hi with
 | 0,_=>
   refine⟨by rw[cell_of_row _ _ _ _ _ _ hg];rfl,.inr ⟨c1,0,rfl,fun j hj=>?_⟩⟩
   match j,hj with
   | 0,_=>exact⟨by rw[cell_of_row _ _ _ _ _ _ h1];rfl,by rw[cell_of_row _ _ _ _ _ _ h1];rfl,by rw[cell_of_row _ _ _ _ _ _ h1];rfl⟩
   | 1,_=>exact⟨by rw[cell_of_row _ _ _ _ _ _ h1];rfl,by rw[cell_of_row _ _ _ _ _ _ h1];rfl,by rw[cell_of_row _ _ _ _ _ _ h1];rfl⟩
 | 1,_=>
   refine⟨by rw[cell_of_row _ _ _ _ _ _ hg];rfl,.inr ⟨c2,0,rfl,fun j hj=>?_⟩⟩
   have:j=0:=by simpa[kmClauses] using hj
   subst this
   exact⟨by rw[cell_of_row _ _ _ _ _ _ h2];rfl,by rw[cell_of_row _ _ _ _ _ _ h2];rfl,by rw[cell_of_row _ _ _ _ _ _ h2];rfl⟩
set_option maxRecDepth 100000 in
set_option maxHeartbeats 4000000 in
theorem known_last(c:Int)(w:World)(hq:∀ w,Calls Tryz.prog 13 #[.int .i64 c,.int .i64 3] w fun e w'=>e=.returned (.int .i64 2)/\w'=w) :
 Calls Tryz.prog 5 #[.int .i64 c] w fun e w'=>e=.returned (.bool true)/\Below w.heap.size w w':=by
 have hK:=KT.start w
 obtain⟨W,hW⟩:∃ W,W=(((w.alloc (.cells #[.int .i64 0] 3)).alloc (.cells #[.int .i64 1] 3)).alloc
  (.cells #[.int .i64 0,.slice none 0 0,.int .i64 1,.slice none 0 0,.int .i64 2,.slice (some ⟨w.heap.size,0,none⟩) 1 1,.int .i64 2,.slice (some ⟨w.heap.size+1,0,none⟩) 1 1] 52)):=⟨_,rfl⟩
 rw[<-hW]at hK
 obtain⟨a,cap,hv,ht⟩:=termsAt_of_own hK.1 (fun i hi=>(hK.2.1 i hi).at)
 injection hv with e1 _ _
 subst e1
 have hT:TermsAt W (some ⟨w.heap.size+1+1,0,none⟩) (fourK w.heap.size (w.heap.size+1)):=ht
 have hbw:=hK.below
 clear hK ht
 go_enter Tryz.func5,Tryz.ntmps5
 go_upto_region 2 with fail
 rw[<-hW]
 clear hW
 generalize w.heap.size+1+1=g at *
 have Hq:=hide hq
 clear hq
 go_wp2_with fail
 refine(Hq.out _).mono ?_
 rintro e w' ⟨rfl,rfl⟩
 -- the second problem
 obtain⟨w1,hw1⟩:∃ w1,w1=(((w'.alloc (.cells #[.int .i64 0,.int .i64 1,.bool false,.int .i64 2,.int .i64 1,.bool false] 60)).alloc (.cells #[.int .i64 0,.int .i64 1,.bool true] 60)).alloc
  (.cells #[.slice (some ⟨w'.heap.size,0,none⟩) 2 2,.slice (some ⟨w'.heap.size+1,0,none⟩) 1 1] 61)).alloc (.cells #[.slice (some ⟨g,0,none⟩) 4 4,.slice (some ⟨w'.heap.size+1+1,0,none⟩) 2 2] 25):=⟨_,rfl⟩
 have hb1:Below w'.heap.size w' w1:=by rw[hw1];exact((((Below.refl _ _).alloc (Nat.le_refl _) _).alloc (by simp) _).alloc (by simp;omega) _).alloc (by simp;omega) _
 have hC1:ClausesAt w1 (some ⟨w'.heap.size+1+1,0,none⟩) (kmClauses w'.heap.size (w'.heap.size+1)):=by
  refine km_at ?_ ?_ ?_
  ·rw[hw1];exact heap_at_old _ _ (heap_at_old _ _ (heap_at_old _ _ (heap_at_new _ _ _ rfl)))
  ·rw[hw1];exact heap_at_old _ _ (heap_at_old _ _ (heap_at_new _ _ _ (by simp)))
  ·rw[hw1];exact heap_at_old _ _ (heap_at_new _ _ _ (by simp))
 have p0:w1.cell? ⟨w'.heap.size+1+1+1,0,none⟩=some (.slice (some ⟨g,0,none⟩) 4 4):=by rw[hw1];exact alloc_new (by simp) rfl
 have p1:w1.cell? ⟨w'.heap.size+1+1+1,1,none⟩=some (.slice (some ⟨w'.heap.size+1+1,0,none⟩) 2 2):=by rw[hw1];exact alloc_new (by simp) rfl
 have hT1:=hT.below hb1
 go_upto_region 22 with fail
 rw[<-hw1]
 clear hw1
 generalize w'.heap.size+1+1+1=B at *
 generalize w'.heap.size+1+1=cg at *
 generalize w'.heap.size+1=c2 at *
 obtain⟨w2,hw2⟩:∃ w2,w2=w1.alloc (.cells #[.int .i64 0,.int .i64 1,.int .i64 1,.int .i64 2] 3):=⟨_,rfl⟩
 have hb2:Below w1.heap.size w1 w2:=by rw[hw2];exact below_alloc _ _
 have hr2:Row w2 w1.heap.size [0,1,1,2]:=by rw[hw2];exact heap_at_new _ _ _ rfl
 have hcon:=true_any (some ⟨g,0,none⟩) (some ⟨cg,0,none⟩) (some ⟨w1.heap.size,0,none⟩) 4 2 4 (fourK w.heap.size (w.heap.size+1)) (kmClauses w'.heap.size c2) [0,1,1,2] w2 (hT1.below hb2) (hC1.below hb2) hr2.at
 rw[(km_true _ _ _ _).1,(km_true _ _ _ _).2]at hcon
 have Hcon:Hid (Calls Tryz.prog 19 #[.agg #[.slice (some ⟨g,0,none⟩) 4 4,.slice (some ⟨cg,0,none⟩) 2 2],.slice (some ⟨w1.heap.size,0,none⟩) 4 4] w2 fun e w'=>e=.returned (.tuple #[.bool true,.int .i64 0])/\Below w2.heap.size w2 w'):=hcon
 clear hcon
 go_wp2_with fail
 rw[<-hw2]
 refine Hcon.out.mono ?_
 rintro e w3 ⟨rfl,hb3⟩
 have hb13:Below w1.heap.size w1 w3:=hb2.trans (hb3.mono hb2.size)
 have hb03:Below w'.heap.size w' w3:=hb1.trans (hb13.mono hb1.size)
 have p0':=cell_below hb13 p0
 have p1':=cell_below hb13 p1
 have Hc3:Hid (Calls Tryz.prog 18 #[.agg #[.slice (some ⟨g,0,none⟩) 4 4,.slice (some ⟨cg,0,none⟩) 2 2]] w3 fun e w'=>∃ ca cl cc la ll lc,e=.returned (.tuple #[.agg #[.bool true,.slice ca cl cc,.slice la ll lc],.int .i64 0])/\Below w3.heap.size w3 w'):=
  solve_says (some ⟨g,0,none⟩) (some ⟨cg,0,none⟩) 4 2 (fourK w.heap.size (w.heap.size+1)) (kmClauses w'.heap.size c2) w3 (hT1.below hb13) (hC1.below hb13) (km_refuse _ _ _ _) (km_yes _ _ _ _)
 clear hw2 hr2 Hcon hb2 hb3 p0 p1 hC1 hT1 hb1 hb13
 go_wp2_with fail
 refine Hc3.out.mono ?_
 rintro e w4 ⟨ca,cl,cc,la,ll,lc,rfl,hb4⟩
 have hb04:Below w'.heap.size w' w4:=hb03.trans (hb4.mono hb03.size)
 clear Hc3 p0' p1' hb03 hb4
 obtain⟨w5,hw5⟩:∃ w5,w5=w4.alloc (.cells #[.bool true,.slice ca cl cc,.slice la ll lc] 31):=⟨_,rfl⟩
 have hb5:Below w4.heap.size w4 w5:=by rw[hw5];exact below_alloc _ _
 have a0:w5.cell? ⟨w4.heap.size,0,none⟩=some (.bool true):=by rw[hw5];simp
 have hb05:Below w'.heap.size w' w5:=hb04.trans (hb5.mono hb04.size)
 go_upto_region 24 with fail
 rw[<-hw5]
 clear hw5 hb5 hb04
 generalize w4.heap.size=G1 at *
 have hT5:=hT.below hb05
 obtain⟨w6,hw6⟩:∃ w6,w6=((w5.alloc (.cells #[] 60)).alloc (.cells #[.slice (some ⟨w5.heap.size,0,none⟩) 0 0] 61)).alloc (.cells #[.slice (some ⟨g,0,none⟩) 4 4,.slice (some ⟨w5.heap.size+1,0,none⟩) 1 1] 25):=⟨_,rfl⟩
 have hb6:Below w5.heap.size w5 w6:=by rw[hw6];exact(((Below.refl _ _).alloc (Nat.le_refl _) _).alloc (by simp) _).alloc (by simp;omega) _
 have hC6:ClausesAt w6 (some ⟨w5.heap.size+1,0,none⟩) [⟨some ⟨w5.heap.size,0,none⟩,0,[]⟩]:=by
  refine .inr ⟨w5.heap.size+1,0,rfl,fun i hi=>?_⟩
  have:i=0:=by simpa using hi
  subst this
  refine⟨?_,.inl rfl⟩
  rw[hw6]
  exact alloc_old (alloc_new (by simp) rfl)
 have q0:w6.cell? ⟨w5.heap.size+1+1,0,none⟩=some (.slice (some ⟨g,0,none⟩) 4 4):=by rw[hw6];exact alloc_new (by simp) rfl
 have q1:w6.cell? ⟨w5.heap.size+1+1,1,none⟩=some (.slice (some ⟨w5.heap.size+1,0,none⟩) 1 1):=by rw[hw6];exact alloc_new (by simp) rfl
 have a6:=cell_below hb6 a0
 have hT6:=hT5.below hb6
 have hb06:Below w'.heap.size w' w6:=hb05.trans (hb6.mono hb05.size)
 go_upto_region 25 with fail
 rw[<-hw6]
 clear hw6 hb6 a0 hT5 hb05
 generalize w5.heap.size+1+1=B2 at *
 generalize w5.heap.size+1=cg2 at *
 have Hc7:Hid (Calls Tryz.prog 18 #[.agg #[.slice (some ⟨g,0,none⟩) 4 4,.slice (some ⟨cg2,0,none⟩) 1 1]] w6 fun e w'=>∃ ca cl cc la ll lc,e=.returned (.tuple #[.agg #[.bool false,.slice ca cl cc,.slice la ll lc],.int .i64 0])/\Below w6.heap.size w6 w'):=
  solve_says (some ⟨g,0,none⟩) (some ⟨cg2,0,none⟩) 4 1 (fourK w.heap.size (w.heap.size+1)) [⟨some ⟨w5.heap.size,0,none⟩,0,[]⟩] w6 hT6 hC6 (k0_refuse _ _ _ _) (k0_not _ _ _ _)
 go_wp2_with fail
 refine Hc7.out.mono ?_
 rintro e w7 ⟨ca2,cl2,cc2,la2,ll2,lc2,rfl,hb7⟩
 clear Hc7
 obtain⟨w8,hw8⟩:∃ w8,w8=w7.alloc (.cells #[.bool false,.slice ca2 cl2 cc2,.slice la2 ll2 lc2] 31):=⟨_,rfl⟩
 have hb8:Below w7.heap.size w7 w8:=by rw[hw8];exact below_alloc _ _
 have d0:w8.cell? ⟨w7.heap.size,0,none⟩=some (.bool false):=by rw[hw8];simp
 have hb68:Below w6.heap.size w6 w8:=hb7.trans (hb8.mono hb7.size)
 have a8:=cell_below hb68 a6
 have r0:=cell_below hb68 q0
 have r1:=cell_below hb68 q1
 have hT8:=hT6.below hb68
 have hC8:=hC6.below hb68
 have hb08:Below w'.heap.size w' w8:=hb06.trans (hb68.mono hb06.size)
 go_upto_region 26 with fail
 rw[<-hw8]
 clear hw8 hb8 hb7 hb68 a6 q0 q1 hT6 hC6 hb06
 generalize w7.heap.size=G2 at *
 obtain⟨w9,hw9⟩:∃ w9,w9=w8.alloc (.cells #[.int .i64 0,.int .i64 0,.int .i64 0,.int .i64 0,.int .i64 0] 36):=⟨_,rfl⟩
 have hb9:Below w8.heap.size w8 w9:=by rw[hw9];exact below_alloc _ _
 have hst9:StepsAt w9 (some ⟨w8.heap.size,0,none⟩) [⟨0,0,0,0,0⟩]:=.inr ⟨w8.heap.size,0,rfl,fun i hi=>by
  have:i=0:=by simpa using hi
  subst this
  refine⟨?_,?_,?_,?_,?_⟩ <;> rw[hw9] <;> exact alloc_new rfl rfl⟩
 have hcon:=check_any (some ⟨g,0,none⟩) (some ⟨cg2,0,none⟩) (some ⟨w8.heap.size,0,none⟩) 4 1 1 (fourK w.heap.size (w.heap.size+1)) [⟨some ⟨w5.heap.size,0,none⟩,0,[]⟩] [⟨0,0,0,0,0⟩] w9 (hT8.below hb9) (hC8.below hb9) hst9 (by simp)
 rw[(k0_one _ _ _ _).1,(k0_one _ _ _ _).2]at hcon
 have Hcon:Hid (Calls Tryz.prog 16 #[.agg #[.slice (some ⟨g,0,none⟩) 4 4,.slice (some ⟨cg2,0,none⟩) 1 1],.slice (some ⟨w8.heap.size,0,none⟩) 1 1] w9 fun e w'=>e=.returned (.tuple #[.int .i64 1,.int .i64 0])/\Below w9.heap.size w9 w'):=hcon
 clear hcon
 go_wp2_with fail
 rw[<-hw9]
 refine Hcon.out.mono ?_
 rintro e wa ⟨rfl,hba⟩
 have hb8a:Below w8.heap.size w8 wa:=hb9.trans (hba.mono hb9.size)
 have a9:=cell_below hb8a a8
 have d9:=cell_below hb8a d0
 have hT9:=hT8.below hb8a
 have hb0a:Below w'.heap.size w' wa:=hb08.trans (hb8a.mono hb08.size)
 clear hw9 hst9 Hcon hb9 hba hb8a a8 d0 r0 r1 hT8 hC8 hb08
 have Hcb:Hid (Calls Tryz.prog 18 #[.agg #[.slice (some ⟨g,0,none⟩) 4 4,.slice none 0 0]] wa fun e w'=>∃ ca cl cc la ll lc,e=.returned (.tuple #[.agg #[.bool true,.slice ca cl cc,.slice la ll lc],.int .i64 0])/\Below wa.heap.size wa w'):=
  solve_says (some ⟨g,0,none⟩) none 4 0 (fourK w.heap.size (w.heap.size+1)) [] wa hT9 (.inl rfl) (k1_refuse _ _) (k1_yes _ _)
 go_wp2_with fail
 refine Hcb.out.mono ?_
 rintro e wb ⟨ca3,cl3,cc3,la3,ll3,lc3,rfl,hbb⟩
 obtain⟨wd,hwd⟩:∃ wd,wd=wb.alloc (.cells #[.bool true,.slice ca3 cl3 cc3,.slice la3 ll3 lc3] 31):=⟨_,rfl⟩
 have hbd:Below wb.heap.size wb wd:=by rw[hwd];exact below_alloc _ _
 have f0:wd.cell? ⟨wb.heap.size,0,none⟩=some (.bool true):=by rw[hwd];simp
 have hbad:Below wa.heap.size wa wd:=hbb.trans (hbd.mono hbb.size)
 have a10:=cell_below hbad a9
 have d10:=cell_below hbad d9
 have hfin:Below w.heap.size w wd:=hbw.trans ((hb0a.trans (hbad.mono hb0a.size)).mono hbw.size)
 go_upto_region 28 with fail
 rw[<-hwd]
 clear hwd Hcb hbb hbd hbad a9 d9 hT9 hb0a
 generalize wb.heap.size=G3 at *
 go_wp2_with fail
 go_ret
 exact⟨rfl,hfin⟩
end Go.Proofs.YtjebhhoibofmfaaGreat
