import Derived.Test.YtjebhhoibofmfaaGreatBXKnA
namespace Go.Proofs.YtjebhhoibofmfaaGreat
open Go.RowKit
theorem close_four(g b1 b2:Nat)(pa:Option Addr)(pn pc:Nat)(ps:List Pr)(C:List Int)(w:World)(ht:TermsAt w (some ⟨g,0,none⟩) (fourK b1 b2))(hp:PairsAt w pa ps)(hl:ps.length=pn)(hpB:pairsB (fourK b1 b2).length ps=true)(hC:∀ c,CloseOf (fourK b1 b2) ps c->c=C) :
 Calls Tryz.prog 14 #[.slice (some ⟨g,0,none⟩) 4 4,.slice pa pn pc] w fun e w'=>∃ h,e=.returned (.tuple #[.slice (some ⟨h,0,none⟩) 4 4,.int .i64 0])/\Row w' h C/\Below w.heap.size w w':=by
 subst hl
 refine(close_any (some ⟨g,0,none⟩) pa 4 pc (fourK b1 b2) ps w ht hp).mono ?_
 rintro e w' ⟨hce,hb⟩
 rcases hce with⟨h1,_⟩ | ⟨_,h1,_⟩ | ⟨_,_,h,c,rfl,hrow,hg,hco⟩
 ·rw[fourK_terms]at h1;cases h1
 ·rw[hpB]at h1;cases h1
 ·rw[hC c hco]at hrow
  exact⟨h,rfl,hrow,hb⟩
theorem same_four(h k:Nat)(C:List Int)(w:World)(h1:Row w h C)(h2:Row w k C)(hl:C.length=4) :
 Calls Tryz.prog 15 #[.slice (some ⟨h,0,none⟩) 4 4,.slice (some ⟨k,0,none⟩) 4 4] w fun e w'=>e=.returned (.bool true)/\Below w.heap.size w w':=by
 have hs:=same_any (some ⟨h,0,none⟩) (some ⟨k,0,none⟩) 4 4 C C w h1.at h2.at (by omega)
 rw[hl]at hs
 refine hs.mono ?_
 rintro e w' ⟨rfl,n,rfl⟩
 exact⟨by simp,below_drewN (Below.refl _ _) n⟩
def knClauses(c1 c2:Nat):List Cl:=[⟨some ⟨c1,0,none⟩,1,[⟨0,1,false⟩]⟩,⟨some ⟨c2,0,none⟩,1,[⟨2,3,true⟩]⟩]
def kmClauses(c1 c2:Nat):List Cl:=[⟨some ⟨c1,0,none⟩,2,[⟨0,1,false⟩,⟨2,1,false⟩]⟩,⟨some ⟨c2,0,none⟩,1,[⟨0,1,true⟩]⟩]
def knSteps:List St:=[⟨0,0,0,0,0⟩,⟨0,1,0,0,0⟩,⟨3,2,3,0,0⟩,⟨4,2,1,2,3⟩,⟨4,0,3,0,1⟩]
theorem kn_refuse(b1 b2 c1 c2:Nat):refuseI (fourK b1 b2) (knClauses c1 c2)=0:=by kernel_rfl
theorem km_refuse(b1 b2 c1 c2:Nat):refuseI (fourK b1 b2) (kmClauses c1 c2)=0:=by kernel_rfl
theorem k0_refuse(b1 b2:Nat)(a:Option Addr)(c:Nat):refuseI (fourK b1 b2) [⟨a,c,[]⟩]=0:=by kernel_rfl
theorem k1_refuse(b1 b2:Nat):refuseI (fourK b1 b2) []=0:=by kernel_rfl
theorem kn_five(b1 b2 c1 c2:Nat):folN (fourK b1 b2) (knClauses c1 c2) knSteps=5/\chkE (fourK b1 b2) (knClauses c1 c2) knSteps=0:=⟨by kernel_rfl,by kernel_rfl⟩
theorem kn_four(b1 b2 c1 c2:Nat):folN (fourK b1 b2) (knClauses c1 c2) (knSteps.take 4)=4/\chkE (fourK b1 b2) (knClauses c1 c2) (knSteps.take 4)=5:=⟨by kernel_rfl,by kernel_rfl⟩
theorem kn_cls(b1 b2 c1 c2:Nat):clsN (fourK b1 b2) (knClauses c1 c2) (knSteps.take 4)=3/\clsE (fourK b1 b2) (knClauses c1 c2) (knSteps.take 4)=0/\clsL (fourK b1 b2) (knClauses c1 c2) (knSteps.take 4)=[⟨0,1,true⟩]:=⟨by kernel_rfl,by kernel_rfl,by kernel_rfl⟩
theorem k0_one(b1 b2:Nat)(a:Option Addr)(c:Nat):folN (fourK b1 b2) [⟨a,c,[]⟩] [⟨0,0,0,0,0⟩]=1/\chkE (fourK b1 b2) [⟨a,c,[]⟩] [⟨0,0,0,0,0⟩]=0:=⟨by kernel_rfl,by kernel_rfl⟩
theorem km_true(b1 b2 c1 c2:Nat):trueB (fourK b1 b2) (kmClauses c1 c2) [0,1,1,2]=true/\trueE (fourK b1 b2) (kmClauses c1 c2) [0,1,1,2]=0:=⟨by kernel_rfl,by kernel_rfl⟩
theorem kn_not(b1 b2 c1 c2:Nat):∃ cls sts,Sol (fourK b1 b2) (knClauses c1 c2) false cls sts:=
 solve_not (kn_refuse _ _ _ _) (fun c h1 h2=>miss_no (cs:=[]) ⟨by simp[fourK],⟨rfl,rfl⟩,⟨rfl,rfl⟩,⟨rfl,rfl⟩,rfl,rfl⟩ (c1:=⟨some ⟨c1,0,none⟩,1,[⟨0,1,false⟩]⟩) (c2:=⟨some ⟨c2,0,none⟩,1,[⟨2,3,true⟩]⟩) rfl rfl h1 h2)
theorem km_yes(b1 b2 c1 c2:Nat):∃ cls sts,Sol (fourK b1 b2) (kmClauses c1 c2) true cls sts:=solve_yes (c:=[0,1,1,2]) (km_refuse _ _ _ _) rfl rfl
theorem k0_not(b1 b2:Nat)(a:Option Addr)(c:Nat):∃ cls sts,Sol (fourK b1 b2) [⟨a,c,[]⟩] false cls sts:=
 solve_not (k0_refuse _ _ _ _) (fun d _ h2=>by simp[allHoldB,allB,holdsB,anyB]at h2)
theorem k1_yes(b1 b2:Nat):∃ cls sts,Sol (fourK b1 b2) [] true cls sts:=solve_yes (c:=[0,1,2,3]) (k1_refuse _ _) rfl rfl
theorem pairs_one{w:World}{g:Nat}{x y:Int}(h:w.heap[g]?=some (.cells #[.int .i64 x,.int .i64 y] 58 (0,0))):PairsAt w (some ⟨g,0,none⟩) [⟨x,y⟩]:=by
 refine .inr ⟨g,0,rfl,fun i hi=>?_⟩
 have:i=0:=by simpa using hi
 subst this
 exact⟨by rw[cell_of_row _ _ _ _ _ _ h];rfl,by rw[cell_of_row _ _ _ _ _ _ h];rfl⟩
set_option maxRecDepth 100000 in
set_option maxHeartbeats 4000000 in
theorem known_zero(c:Int)(w:World)(hq:∀ w,Calls Tryz.prog 13 #[.int .i64 c,.int .i64 3] w fun e w'=>e=.returned (.int .i64 0)/\w'=w) :
 Calls Tryz.prog 5 #[.int .i64 c] w fun e w'=>e=.returned (.bool true)/\Below w.heap.size w w':=by
 have hK:=KT.start w
 obtain⟨W,hW⟩:∃ W,W=(((w.alloc (.cells #[.int .i64 0] 3)).alloc (.cells #[.int .i64 1] 3)).alloc
  (.cells #[.int .i64 0,.slice none 0 0,.int .i64 1,.slice none 0 0,.int .i64 2,.slice (some ⟨w.heap.size,0,none⟩) 1 1,.int .i64 2,.slice (some ⟨w.heap.size+1,0,none⟩) 1 1] 52)):=⟨_,rfl⟩
 rw[<-hW]at hK
 obtain⟨a,cap,hv,ht⟩:=termsAt_of_own hK.1 (fun i hi=>(hK.2.1 i hi).at)
 injection hv with e1 _ _
 subst e1
 have hT:TermsAt W (some ⟨w.heap.size+1+1,0,none⟩) (fourK w.heap.size (w.heap.size+1)):=ht
 have hbw:=hK.below
 clear hK ht
 go_enter Tryz.func5,Tryz.ntmps5
 go_upto_region 2 with fail
 rw[<-hW]
 clear hW
 generalize w.heap.size+1+1=g at *
 have Hq:=hide hq
 clear hq
 go_wp2_with fail
 refine(Hq.out _).mono ?_
 rintro e w' ⟨rfl,rfl⟩
 obtain⟨w1,hw1⟩:∃ w1,w1=w'.alloc (.cells #[.int .i64 0,.int .i64 1] 58):=⟨_,rfl⟩
 have hb1:Below w'.heap.size w' w1:=by rw[hw1];exact below_alloc _ _
 have hp1:PairsAt w1 (some ⟨w'.heap.size,0,none⟩) [⟨0,1⟩]:=pairs_one (by rw[hw1];exact heap_at_new _ _ _ rfl)
 have Hc1:=hide (close_four g _ _ (some ⟨w'.heap.size,0,none⟩) 1 1 [⟨0,1⟩] [0,0,1,1] w1 (hT.below hb1) hp1 rfl rfl (fun c h=>known_one h))
 go_wp2_with fail
 rw[<-hw1]
 refine Hc1.out.mono ?_
 rintro e w2 ⟨x,rfl,hx,hb2⟩
 have hb02:Below w'.heap.size w' w2:=hb1.trans (hb2.mono hb1.size)
 have hT2:=hT.below hb02
 clear hw1 hp1 Hc1 hb1 hb2
 have Hc2:=hide (close_four g _ _ none 0 0 [] [0,1,2,3] w2 hT2 (.inl rfl) rfl rfl (fun c h=>known_two h))
 go_wp2_with fail
 refine Hc2.out.mono ?_
 rintro e w3 ⟨y,rfl,hy,hb3⟩
 have hb03:Below w'.heap.size w' w3:=hb02.trans (hb3.mono hb02.size)
 have hT3:=hT.below hb03
 have hx3:Row w3 x [0,0,1,1]:=hx.below hb3 hx.lt
 clear Hc2 hb02 hb3 hx hT2
 obtain⟨w4,hw4⟩:∃ w4,w4=w3.alloc (.cells #[.int .i64 3,.int .i64 2] 58):=⟨_,rfl⟩
 have hb4:Below w3.heap.size w3 w4:=by rw[hw4];exact below_alloc _ _
 have hp4:PairsAt w4 (some ⟨w3.heap.size,0,none⟩) [⟨3,2⟩]:=pairs_one (by rw[hw4];exact heap_at_new _ _ _ rfl)
 have Hc3:=hide (close_four g _ _ (some ⟨w3.heap.size,0,none⟩) 1 1 [⟨3,2⟩] [0,1,2,2] w4 (hT3.below hb4) hp4 rfl rfl (fun c h=>known_three h))
 go_wp2_with fail
 rw[<-hw4]
 refine Hc3.out.mono ?_
 rintro e w5 ⟨z,rfl,hz,hb5⟩
 have hb35:Below w3.heap.size w3 w5:=hb4.trans (hb5.mono hb4.size)
 have hb05:Below w'.heap.size w' w5:=hb03.trans (hb35.mono hb03.size)
 have hx5:Row w5 x [0,0,1,1]:=hx3.below hb35 hx3.lt
 have hy5:Row w5 y [0,1,2,3]:=hy.below hb35 hy.lt
 clear hw4 hp4 Hc3 hb4 hb5 hb03 hb35 hx3 hy hT3 hT
 obtain⟨w6,hw6⟩:∃ w6,w6=w5.alloc (.cells #[.int .i64 0,.int .i64 0,.int .i64 1,.int .i64 1] 3):=⟨_,rfl⟩
 have hb6:Below w5.heap.size w5 w6:=by rw[hw6];exact below_alloc _ _
 have hr6:Row w6 w5.heap.size [0,0,1,1]:=by rw[hw6];exact heap_at_new _ _ _ rfl
 have Hs1:=hide (same_four x w5.heap.size [0,0,1,1] w6 (hx5.below hb6 hx5.lt) hr6 rfl)
 go_wp2_with fail
 rw[<-hw6]
 refine Hs1.out.mono ?_
 rintro e w7 ⟨rfl,hb7⟩
 have hb57:Below w5.heap.size w5 w7:=hb6.trans (hb7.mono hb6.size)
 have hy7:Row w7 y [0,1,2,3]:=hy5.below hb57 hy5.lt
 have hz7:Row w7 z [0,1,2,2]:=hz.below hb57 hz.lt
 have hb07:Below w'.heap.size w' w7:=hb05.trans (hb57.mono hb05.size)
 clear hw6 hr6 Hs1 hb6 hb7 hb57 hb05 hx5 hy5 hz
 obtain⟨w8,hw8⟩:∃ w8,w8=w7.alloc (.cells #[.int .i64 0,.int .i64 1,.int .i64 2,.int .i64 3] 3):=⟨_,rfl⟩
 have hb8:Below w7.heap.size w7 w8:=by rw[hw8];exact below_alloc _ _
 have hr8:Row w8 w7.heap.size [0,1,2,3]:=by rw[hw8];exact heap_at_new _ _ _ rfl
 have Hs2:=hide (same_four y w7.heap.size [0,1,2,3] w8 (hy7.below hb8 hy7.lt) hr8 rfl)
 go_wp2_with fail
 rw[<-hw8]
 refine Hs2.out.mono ?_
 rintro e w9 ⟨rfl,hb9⟩
 have hb79:Below w7.heap.size w7 w9:=hb8.trans (hb9.mono hb8.size)
 have hz9:Row w9 z [0,1,2,2]:=hz7.below hb79 hz7.lt
 have hb09:Below w'.heap.size w' w9:=hb07.trans (hb79.mono hb07.size)
 clear hw8 hr8 Hs2 hb8 hb9 hb79 hb07 hy7 hz7
 obtain⟨wa,hwa⟩:∃ wa,wa=w9.alloc (.cells #[.int .i64 0,.int .i64 1,.int .i64 2,.int .i64 2] 3):=⟨_,rfl⟩
 have hba:Below w9.heap.size w9 wa:=by rw[hwa];exact below_alloc _ _
 have hra:Row wa w9.heap.size [0,1,2,2]:=by rw[hwa];exact heap_at_new _ _ _ rfl
 have Hs3:=hide (same_four z w9.heap.size [0,1,2,2] wa (hz9.below hba hz9.lt) hra rfl)
 go_wp2_with fail
 rw[<-hwa]
 refine Hs3.out.mono ?_
 rintro e wb ⟨rfl,hbb⟩
 have hb9b:Below w9.heap.size w9 wb:=hba.trans (hbb.mono hba.size)
 have hfin:Below w.heap.size w wb:=hbw.trans ((hb09.trans (hb9b.mono hb09.size)).mono hbw.size)
 clear hwa hra Hs3
 go_wp2_with fail
 go_ret
 exact⟨rfl,hfin⟩
end Go.Proofs.YtjebhhoibofmfaaGreat
