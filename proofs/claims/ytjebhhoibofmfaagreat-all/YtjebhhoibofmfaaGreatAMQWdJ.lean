import Derived.Test.YtjebhhoibofmfaaGreatAMQWdH
namespace Go.Proofs.YtjebhhoibofmfaaGreat
open Go.RowKit
theorem apart_new{B H:Nat}{w w1:World}{D:Wd}(h:Wo B w H D){e:TypeId}{size n c:Nat}{a:Option Addr}{xs:List Value}(ho:w1.ownsRow w.heap.size e size (.slice a n c) n xs):Apart' D a:=by
 intro f hf k hk b hb hb2
 have h1:=(own_lt (h.mks f hf k hk) b hb).2
 have h2:=(own_lt ho b hb2).1
 omega
theorem answer_six:∀ i:Fin 6,(31:TypeId)≠eR i:=by decide
theorem answer_apart:∀ i,i < 6->(31:TypeId)≠eR i:=fun i hi=>answer_six ⟨i,hi⟩
def Stepped(B H N:Nat)(w:World)(w':World):Prop:=∃ D',Wo B w' H D'/\Many D' (N+1)/\Below B w w'
theorem wo_lt{B H:Nat}{w:World}{D:Wd}(h:Wo B w H D):B<=w.heap.size:=Nat.le_of_lt (Nat.lt_of_le_of_lt h.hB (Array.getElem?_eq_some_iff.1 h.box).1)
set_option maxRecDepth 100000 in
set_option maxHeartbeats 4000000 in
theorem step_any(B H N:Nat)(D:Wd)(w:World)(o:Opv)(hW:Wo B w H D)(hM:Many D N)(hN:N<=1099511627775)(ho:OpAt w o)(hok:OpOk o) :
 Calls Tryz.prog 11 #[.pointer (some ⟨H,0,none⟩),.agg (opCells o)] w fun e w'=>e=.returned (.bool true)/\Stepped B H N w w':=by
 obtain⟨kind,ta,tc,ts,sa,sc,cs,pa,pc,ps,ca,cc,c,la,lc,sts⟩:=o
 simp only[opCells]
 have hBw:=wo_lt hW
 obtain⟨W,hWe⟩:∃ W,W=w.alloc (.cells #[.int .i64 kind,.slice ta ts.length tc,.slice sa cs.length sc,.slice pa ps.length pc,.slice ca c.length cc,.slice la sts.length lc] 48):=⟨_,rfl⟩
 have hb:Below w.heap.size w W:=by rw[hWe];exact below_alloc _ _
 have b0:W.cell? ⟨w.heap.size,0,none⟩=some (.int .i64 kind):=by rw[hWe];simp
 have b1:W.cell? ⟨w.heap.size,1,none⟩=some (.slice ta ts.length tc):=by rw[hWe];simp
 have b2:W.cell? ⟨w.heap.size,2,none⟩=some (.slice sa cs.length sc):=by rw[hWe];simp
 have b3:W.cell? ⟨w.heap.size,3,none⟩=some (.slice pa ps.length pc):=by rw[hWe];simp
 have b4:W.cell? ⟨w.heap.size,4,none⟩=some (.slice ca c.length cc):=by rw[hWe];simp
 have b5:W.cell? ⟨w.heap.size,5,none⟩=some (.slice la sts.length lc):=by rw[hWe];simp
 have Ho:=hide (ho.below hb)
 have Hok:=hide hok
 have HW:=hide (hW.below hb)
 have HM:=hide hM
 have Hb:Hid (Below B w W):=hb.mono hBw
 have hBW:B<=W.heap.size:=Nat.le_trans hBw hb.size
 obtain⟨m1,m2⟩:=hM 0 (by omega)
 obtain⟨m3,m4⟩:=hM 2 (by omega)
 obtain⟨m5,m6⟩:=hM 4 (by omega)
 have HQ:=hide (And.intro m1 (And.intro m3 m5))
 clear hW hM ho hok m1 m3 m5
 have done:∀ w',Below W.heap.size W w'->Stepped B H N w w':=fun w' hb'=>⟨D,HW.out.below hb',HM.out.mono (by omega),Hb.out.trans (hb'.mono hBW)⟩
 have Hdone:=hide done
 clear done hb
 go_enter Tryz.func11,Tryz.ntmps11
 go_upto_region 1 with fail
 rw[<-hWe]
 clear hWe
 generalize w.heap.size=bx at *
 by_cases h1:kind=1
 ·subst h1
  have hcon:=closed_own ta pa tc pc ts ps W Ho.out.t Ho.out.p Hok.out.tn Hok.out.tk Hok.out.tl Hok.out.tt Hok.out.pl
  have Hcon:=hide hcon
  clear hcon
  go_wp2_with fail
  refine Hcon.out.mono ?_
  rintro e w1 ⟨xa,xc,C,rfl,hC,hb1,ho1⟩
  have h9:=closeIs_len hC
  have htk:=takeInts_any B H D w1 (HW.out.below hb1) xa C.length xc (intCells C) (own_base ho1 hBW) (apart_new HW.out ho1) (by omega) (by omega) HQ.out.1
  have Htk:=hide htk
  have Hb1:Hid (Below B w w1):=Hb.out.trans (hb1.mono hBW)
  clear htk ho1 hC Hcon b0 b1 b2 b3 b4 b5
  go_wp2_with fail
  refine Htk.out.mono ?_
  rintro e w2 ⟨rfl,D',L,hT⟩
  have HT:Hid (Stepped B H N w w2):=⟨D',hT.wo,HM.out.taken (by omega) hT,Hb1.out.trans hT.bel⟩
  clear hT Htk
  go_wp2_with fail
  go_ret
  exact⟨rfl,HT.out⟩
 by_cases h2:kind=2
 ·subst h2
  have hcon:=truth_any ta sa ca tc sc cc ts cs c W Ho.out.t Ho.out.s Ho.out.c Hok.out.tn Hok.out.sn Hok.out.cn Hok.out.tk Hok.out.sk Hok.out.tl Hok.out.sl Hok.out.cl
  have Hcon:=hide hcon
  clear hcon h1
  go_wp2_with fail
  refine Hcon.out.mono ?_
  rintro e w1 ⟨rfl,hb1⟩
  have HT:=hide (Hdone.out w1 hb1)
  clear hb1 Hcon b0 b1 b2 b3 b4 b5
  go_wp2_with fail
  go_ret
  exact⟨rfl,HT.out⟩
 by_cases h3:kind=3
 ·subst h3
  have hcon:=clauseL_own ta sa la tc sc lc ts cs sts W Ho.out.t Ho.out.s Ho.out.l Hok.out.tn Hok.out.sn Hok.out.ln Hok.out.tk Hok.out.sk Hok.out.tl Hok.out.sl Hok.out.ll
  have Hcon:=hide hcon
  clear hcon h1 h2
  go_wp2_with fail
  refine Hcon.out.mono ?_
  rintro e w1 ⟨xa,xc,rfl,hb1,ho1⟩
  have hll:(clsL ts cs sts).length<=1000:=by
   unfold clsL
   split
   ·unfold inOrd
    exact Nat.le_trans (List.length_filter_le _ _) (Nat.le_trans (allL_length 9) (by omega))
   ·simp
  have htk:=takeLits_any B H D w1 (HW.out.below hb1) xa (clsL ts cs sts).length xc (lsCells (clsL ts cs sts)) (own_base ho1 hBW) (apart_new HW.out ho1) (by omega) (by omega) HQ.out.2.1
  generalize (clsL ts cs sts).length=ln at *
  have Htk:=hide htk
  have Hb1:Hid (Below B w w1):=Hb.out.trans (hb1.mono hBW)
  clear htk ho1 Hcon b0 b1 b2 b3 b4 b5
  go_wp2_with fail
  refine Htk.out.mono ?_
  rintro e w2 ⟨rfl,D',L,hT⟩
  have HT:Hid (Stepped B H N w w2):=⟨D',hT.wo,HM.out.taken (by omega) hT,Hb1.out.trans hT.bel⟩
  clear hT Htk
  go_wp2_with fail
  go_ret
  exact⟨rfl,HT.out⟩
 by_cases h4:kind=4
 ·subst h4
  have hcon:=checkL_any ta sa la tc sc lc ts cs sts W Ho.out.t Ho.out.s Ho.out.l Hok.out.tn Hok.out.sn Hok.out.ln Hok.out.tk Hok.out.sk Hok.out.tl Hok.out.sl Hok.out.ll
  have Hcon:=hide hcon
  clear hcon h1 h2 h3
  go_wp2_with fail
  refine Hcon.out.mono ?_
  rintro e w1 ⟨rfl,hb1⟩
  have HT:=hide (Hdone.out w1 hb1)
  clear hb1 Hcon b0 b1 b2 b3 b4 b5
  go_wp2_with fail
  go_ret
  exact⟨rfl,HT.out⟩
 by_cases h5:kind=5
 ·subst h5
  obtain⟨b,cls,st2,hS⟩:=solve_is ts cs
  have hlc:cls.length<=1000/\st2.length<=3518437208880:=by
   rcases hS with⟨_,_,h1,h2⟩ | ⟨hr,_,h2⟩
   ·rw[h1,h2];simp
   ·have hmax:stepsMax=3518437208883:=rfl
    have:=h2.len
    obtain⟨hts,_⟩:=of_refuse hr
    have h9:=(len_of hts).2
    cases hb:b with
    | true=>have:=(h2.yes hb).1;omega
    | false=>have:=(h2.no hb).1;rw[this];simp;omega
  obtain⟨hl1,hl2⟩:=hlc
  have hcon:=solveL_any ta sa tc sc ts cs W Ho.out.t Ho.out.s Hok.out.tn Hok.out.sn Hok.out.tk Hok.out.sk Hok.out.tl Hok.out.sl Hok.out.tt hS
  have Hcon:=hide hcon
  clear hcon h1 h2 h3 h4 hS
  go_wp2_with fail
  refine Hcon.out.mono ?_
  rintro e w1 ⟨xa,xc,ya,yc,rfl,ho1,ho2,hb1⟩
  obtain⟨w2,hw2⟩:∃ w2,w2=w1.alloc (.cells #[.bool b,.slice xa cls.length xc,.slice ya st2.length yc] 31):=⟨_,rfl⟩
  have hb2:Below w1.heap.size w1 w2:=by rw[hw2];exact below_alloc _ _
  have a1:w2.cell? ⟨w1.heap.size,1,none⟩=some (.slice xa cls.length xc):=by rw[hw2];simp
  have a2:w2.cell? ⟨w1.heap.size,2,none⟩=some (.slice ya st2.length yc):=by rw[hw2];simp
  have a3:w2.heap[w1.heap.size]?=some (.cells #[.bool b,.slice xa cls.length xc,.slice ya st2.length yc] 31 (0,0)):=by rw[hw2];exact heap_at_new _ _ _ rfl
  have hb12:Below W.heap.size W w2:=hb1.trans (hb2.mono hb1.size)
  have ho1':=own_below ho1 hb2
  have ho2':=own_below ho2 hb2
  have htk:=takeInts_any B H D w2 (HW.out.below hb12) xa cls.length xc (intCells cls) (own_base ho1' hBW) (apart_new HW.out ho1') (by omega) (by omega) HQ.out.1
  have Htk:=hide htk
  have Hb1:Hid (Below B w w2):=Hb.out.trans (hb12.mono hBW)
  have Ho2:=hide ho2'
  have HA:=hide a3
  have hG:B<=w1.heap.size:=Nat.le_trans hBW hb1.size
  go_upto_region 16 with fail
  rw[<-hw2]
  clear hw2 htk ho1 ho2 ho1' ho2' hb1 hb2 hb12 a3 b0 b1 b2 b3 b4 b5 Hcon
  generalize w1.heap.size=G at *
  go_wp2_with fail
  refine Htk.out.mono ?_
  rintro e w3 ⟨rfl,D1,L,hT⟩
  have hoA:w2.ownsRow B 31 3 (.slice (some ⟨G,0,none⟩) 1 1) 1 [.bool b,.slice xa cls.length xc,.slice ya st2.length yc]:=⟨rfl,.inr ⟨G,1,_,rfl,hG,HA.out,Nat.le_refl _,(by unfold maxLen;omega),rfl,rfl⟩⟩
  have hoA3:=hT.kg 31 _ _ _ _ (by decide) answer_apart (by decide) hoA
  have a3:w3.cell? ⟨G,2,none⟩=some (.slice ya st2.length yc):=by rw[hoA3.cellAt 2 (by omega)];rfl
  have ho3:=hT.ke _ _ _ _ (own_base Ho2.out hBW)
  have hap:Apart' D1 ya:=by
   intro f hf k hk bb hbb hbb2
   by_cases h4:f=4\/f=5
   ·have hus:D1.us f=D.us f:=hT.lo f (by omega) (by omega)
    rw[hus]at hk hbb
    exact apart_new HW.out Ho2.out f hf k hk bb hbb hbb2
   ·have hne:eL f≠36:=by
     have:∀ f:Fin 6,¬ (f.val=4\/f.val=5)->eL f≠36:=by decide
     exact this ⟨f,hf⟩ h4
    exact own_two ho3 (hT.wo.mks f hf k hk) (fun e=>hne e.symm) bb hbb hbb2
  have hM1:=HM.out.taken (by omega) hT
  have htk2:=takeSteps_any B H D1 w3 hT.wo ya st2.length yc (stCells st2) ho3 hap hl2 (by rw[hT.lo 4 (by omega) (by omega)];omega) (hM1 4 (by omega)).1
  have Htk2:=hide htk2
  have HM1:=hide hM1
  have Hb3:Hid (Below B w w3):=Hb1.out.trans hT.bel
  have Hlo:=hide hT.lo
  have Hla:=hide (And.intro hT.la hT.lb)
  clear hT Htk hoA hoA3 ho3 hap htk2 hM1 a1 a2 HA Ho2 hG
  go_wp2_with fail
  refine Htk2.out.mono ?_
  rintro e w4 ⟨rfl,D2,L2,hT2⟩
  have HT:Hid (Stepped B H N w w4):=by
   refine⟨D2,hT2.wo,fun f hf=>?_,Hb3.out.trans hT2.bel⟩
   obtain⟨k1,k2⟩:=HM.out f hf
   rcases hf with rfl | rfl | rfl
   ·rw[hT2.lo 0 (by omega) (by omega),hT2.lo (0+1) (by omega) (by omega),Hla.out.1,Hla.out.2]
    omega
   ·rw[hT2.lo 2 (by omega) (by omega),hT2.lo (2+1) (by omega) (by omega),Hlo.out 2 (by omega) (by omega),Hlo.out (2+1) (by omega) (by omega)]
    omega
   ·rw[hT2.la,hT2.lb,Hlo.out 4 (by omega) (by omega),Hlo.out (4+1) (by omega) (by omega)]
    omega
  clear hT2 Htk2 a3
  go_wp2_with fail
  go_ret
  exact⟨rfl,HT.out⟩
 ·have HT:=hide (Hdone.out W (Below.refl _ _))
  have e1:(kind == 1)=false:=by simpa using h1
  have e2:(kind == 2)=false:=by simpa using h2
  have e3:(kind == 3)=false:=by simpa using h3
  have e4:(kind == 4)=false:=by simpa using h4
  have e5:(kind == 5)=false:=by simpa using h5
  clear h1 h2 h3 h4 h5
  go_wp2_with fail
  go_ret
  exact⟨rfl,HT.out⟩
end Go.Proofs.YtjebhhoibofmfaaGreat
namespace Go.Proofs.YtjebhhoibofmfaaGreat
open Go.RowKit
def op0:Opv:=⟨0,none,0,[],none,0,[],none,0,[],none,0,[],none,0,[]⟩
def OpsAt(w:World)(a:Option Addr)(os:List Opv):Prop:=
 os=[]\/∃ b o,a=some ⟨b,o,none⟩/\∀ i,i < os.length->(∀ j,j < 6->w.cell? ⟨b,o+i*6+j,none⟩=(opCells (os.getD i op0))[j]?)/\OpAt w (os.getD i op0)
theorem wo_start(w:World):Wo w.heap.size (w.alloc (.cells #[.slice none 0 0,.slice none 0 0,.slice none 0 0,.slice none 0 0,.slice none 0 0,.slice none 0 0] 44)) w.heap.size wd0:=
 ⟨heap_at_new _ _ _ rfl,Nat.le_refl _,fun f _=>World.ownsRow_nil _ _ _ _,fun _ _ _ _ _ b hb=>by simp[wd0,blkOf]at hb,fun f _ k hk=>by simp[wd0]at hk⟩
theorem many_start:Many wd0 0:=fun _ _=>⟨rfl,Nat.le_refl _⟩
set_option maxRecDepth 100000 in
set_option maxHeartbeats 4000000 in
theorem alls_any(a:Option Addr)(cap:Nat)(os:List Opv)(w:World)(h:OpsAt w a os)(hok:∀ i,i < os.length->OpOk (os.getD i op0))(hlen:os.length<=1099511627775) :
 Calls Tryz.prog 4 #[.slice a os.length cap] w fun e w'=>e=.returned (.bool true)/\Below w.heap.size w w':=by
 have Hh:=hide h
 have Hok:=hide hok
 clear h hok
 go_enter Tryz.func4,Tryz.ntmps4
 go_wp2_with fail
 refine(unsaid_full w).mono ?_
 rintro e w2 ⟨b1,b2,g,c1,c2,cg,sg,rfl,hF,hU,hS,hb2⟩
 obtain⟨w3,hw3⟩:∃ w3,w3=w2.alloc (.cells #[.slice (some ⟨g,0,none⟩) 4 4,.slice (some ⟨cg,0,none⟩) 2 2] 25):=⟨_,rfl⟩
 have hb3:Below w2.heap.size w2 w3:=by rw[hw3];exact below_alloc _ _
 have q0:w3.cell? ⟨w2.heap.size,0,none⟩=some (.slice (some ⟨g,0,none⟩) 4 4):=by rw[hw3];simp
 have q1:w3.cell? ⟨w2.heap.size,1,none⟩=some (.slice (some ⟨cg,0,none⟩) 2 2):=by rw[hw3];simp
 have hS2:SRow w2 sg unSteps:=hS
 have hS3:=(un_steps hS2).below hb3
 have hF3:=hF.below hb3
 have hU3:=hU.below hb3
 have hck:=checks_any (some ⟨g,0,none⟩) (some ⟨cg,0,none⟩) (some ⟨sg,0,none⟩) 4 2 5 (fourTs b1 b2) (unClauses c1 c2) unSteps w3 hF3 hU3 hS3 (fun h=>by cases h) (fun h=>by cases h) (fun h=>by cases h) (four_ok _ _) (unC_ok _ _) (by simp[fourTs]) (by simp[unClauses]) (by simp[unSteps])
 have Hck:Hid (Calls Tryz.prog 10 #[.agg #[.slice (some ⟨g,0,none⟩) 4 4,.slice (some ⟨cg,0,none⟩) 2 2],.slice (some ⟨sg,0,none⟩) 5 5] w3 fun e w'=>e=.returned (.bool true)/\Below w3.heap.size w3 w'):=hck
 have hb13:Below w.heap.size w w3:=hb2.trans (hb3.mono hb2.size)
 go_upto_region 2 with fail
 rw[<-hw3]
 clear hw3 hck hS hS2 hS3 hF hU hb2 hb3
 generalize w2.heap.size=Q at *
 go_wp2_with fail
 refine Hck.out.mono ?_
 rintro e w4 ⟨rfl,hb4⟩
 have r0:=cell_below hb4 q0
 have r1:=cell_below hb4 q1
 have hsv:=solves_any (some ⟨g,0,none⟩) (some ⟨cg,0,none⟩) 4 2 (fourTs b1 b2) (unClauses c1 c2) w4 (hF3.below hb4) (hU3.below hb4) (fun h=>by cases h) (fun h=>by cases h) (four_ok _ _) (unC_ok _ _) (by simp[fourTs]) (by simp[unClauses]) (by simp[fourTs])
 have Hsv:Hid (Calls Tryz.prog 3 #[.agg #[.slice (some ⟨g,0,none⟩) 4 4,.slice (some ⟨cg,0,none⟩) 2 2]] w4 fun e w'=>e=.returned (.bool true)/\Below w4.heap.size w4 w'):=hsv
 have hb14:Below w.heap.size w w4:=hb13.trans (hb4.mono hb13.size)
 clear hsv Hck q0 q1 hF3 hU3 hb13 hb4
 go_wp2_with fail
 refine Hsv.out.mono ?_
 rintro e w5 ⟨rfl,hb5⟩
 have hb15:Below w.heap.size w w5:=hb14.trans (hb5.mono hb14.size)
 obtain⟨w6,hw6⟩:∃ w6,w6=w5.alloc (.cells #[.slice none 0 0,.slice none 0 0,.slice none 0 0,.slice none 0 0,.slice none 0 0,.slice none 0 0] 44):=⟨_,rfl⟩
 have hWo:Wo w5.heap.size w6 w5.heap.size wd0:=by rw[hw6];exact wo_start w5
 have hb6:Below w.heap.size w w6:=by rw[hw6];exact hb15.trans ((below_alloc w5 _).mono hb15.size)
 have hwH:w.heap.size<=w5.heap.size:=hb15.size
 clear Hsv r0 r1 hb14 hb5 hb15
 go_upto_region 7 with fail
 rw[<-hw6]
 clear hw6
 generalize w5.heap.size=H at *
 go_wp2_with fail
 go_loopg [8] os.length (fun q s wr=>∃(k:Nat) (D:Wd),q=os.length - k/\k<=os.length/\s=.int .i64 k/\Hid (Wo H wr H D)/\Hid (Many D k)/\Below w.heap.size w wr)
 case atStart=>exact⟨0,wd0,by omega,by omega,rfl,hWo,many_start,hb6⟩
 case round=>
  obtain⟨k,D,rfl,hk,rfl,HW,HM,hbr⟩:=hrel
  by_cases hlt:k < os.length
  ·obtain⟨ob,oo,hao,hcells⟩:∃ b o,a=some ⟨b,o,none⟩/\∀ i,i < os.length->(∀ j,j < 6->w.cell? ⟨b,o+i*6+j,none⟩=(opCells (os.getD i op0))[j]?)/\OpAt w (os.getD i op0):=by
    rcases Hh.out with h | h
    ·rw[h]at hlt;simp at hlt
    ·exact h
   subst hao
   obtain⟨hc,hat⟩:=hcells k hlt
   have hst:=step_any H H k D wr (os.getD k op0) HW.out HM.out (by omega) (hat.below hbr) (Hok.out k hlt)
   have x0:=hc 0 (by omega)
   have x1:=hc 1 (by omega)
   have x2:=hc 2 (by omega)
   have x3:=hc 3 (by omega)
   have x4:=hc 4 (by omega)
   have x5:=hc 5 (by omega)
   generalize os.getD k op0=o at *
   simp[opCells]at x0 x1 x2 x3 x4 x5 hst
   have y0:=cell_below hbr x0
   have y1:=cell_below hbr x1
   have y2:=cell_below hbr x2
   have y3:=cell_below hbr x3
   have y4:=cell_below hbr x4
   have y5:=cell_below hbr x5
   have Hst:=hide hst
   have klt:(k:Int) < (os.length:Int):=by omega
   clear hst hc hcells hat x0 x1 x2 x3 x4 x5
   go_wp2_with fail
   refine Hst.out.mono ?_
   rintro e w7 ⟨rfl,D',hW7,hM7,hb7⟩
   have hlk:=looks_any H H D' w7 hW7 (fun f hf=>⟨(hM7 f hf).1,Nat.le_trans (hM7 f hf).2 (by omega)⟩)
   have Hlk:=hide hlk
   have HW7:=hide hW7
   have HM7:=hide hM7
   have hbr7:Below w.heap.size w w7:=hbr.trans (hb7.mono hwH)
   clear hlk hW7 hM7 hb7 Hst y0 y1 y2 y3 y4 y5
   go_wp2_with fail
   refine Hlk.out.mono ?_
   rintro e w8 ⟨rfl,hb8⟩
   have HW8:=hide (HW7.out.below hb8)
   have hbr8:Below w.heap.size w w8:=hbr7.trans (hb8.mono hbr7.size)
   clear Hlk hb8
   go_wp2_with fail
   go_roundg (os.length - (k+1))
   case measure=>omega
   case rel=>exact⟨k+1,D',rfl,by omega,by go_num,HW8,HM7,hbr8⟩
  ·go_wp2_with fail
   go_ret
   exact⟨rfl,hbr⟩
end Go.Proofs.YtjebhhoibofmfaaGreat
