import Derived.Test.YtjebhhoibofmfaaGreatAXWdC
import Derived.Test.YtjebhhoibofmfaaGreatAMQCkP
import Derived.Test.YtjebhhoibofmfaaGreatAMQTrC
import Derived.Test.YtjebhhoibofmfaaGreatAMSt
import Derived.Test.YtjebhhoibofmfaaGreatAXStB
import Derived.Test.YtjebhhoibofmfaaGreatAMRf
import Derived.Test.YtjebhhoibofmfaaGreatAXWdE
import Derived.Test.YtjebhhoibofmfaaGreatAMQCsI
import Derived.Test.YtjebhhoibofmfaaGreatAMSo
namespace Go.Proofs.YtjebhhoibofmfaaGreat
open Go.RowKit
theorem marks_get{mk:List Value}{sz:Nat}(h:mk.length=sz){n j t:Nat}(hj:j < n)(ht:t < sz):(marks mk n)[j*sz+t]?=mk[t]?:=by
 have e:n=j+(1+(n - j - 1)):=by omega
 rw[e,marks_add,marks_add,List.getElem?_append_right (by rw[marks_length h];omega),marks_length h,Nat.add_sub_cancel_left,List.getElem?_append_left (by rw[marks_length h];omega)]
 simp[marks]
theorem own_mark{w:World}{B:Nat}{e:TypeId}{sz n c:Nat}{a:Option Addr}{mk:List Value}(hmk:mk.length=sz)(h:w.ownsRow B e sz (.slice a n c) n (marks mk n)){k:Nat}(hk:k < n):∃ g,a=some ⟨g,0,none⟩/\∀ t,t < sz->w.cell? ⟨g,k*sz+t,none⟩=mk[t]?:=by
 rcases h.2 with⟨_,h0⟩ | ⟨g,cap,cur,hv,_⟩
 ·omega
 ·injection hv with e1 _ e3
  subst e1
  refine⟨g,rfl,fun t ht=>?_⟩
  have hlt:k*sz+t < n*sz:=by
   have:(k+1)*sz<=n*sz:=Nat.mul_le_mul_right _ hk
   rw[Nat.add_mul]at this
   omega
  rw[h.cellAt _ hlt,marks_get hmk hk ht]
set_option maxRecDepth 100000 in
set_option maxHeartbeats 1000000 in
theorem ownInts_any(B:Nat)(a:Option Addr)(n c:Nat)(m:Int)(w:World)(h:w.ownsRow B 3 1 (.slice a n c) n (marks [.int .i64 m] n))(hn:n<=9223372036854775807) :
 Calls Tryz.prog 38 #[.slice a n c,.int .i64 m] w fun e w'=>e=.returned (.bool true)/\Below w.heap.size w w':=by
 have hmm:(m != m)=false:=by simp
 go_enter Tryz.func38,Tryz.ntmps38
 go_wp2_with fail
 go_loopg [5] n (fun q s wr=>∃ k:Nat,q=n - k/\k<=n/\s=.int .i64 k/\Below w.heap.size w wr)
 case atStart=>exact⟨0,by omega,by omega,rfl,Below.refl _ _⟩
 case round=>
  obtain⟨k,rfl,hk,rfl,hbr⟩:=hrel
  by_cases hlt:k < n
  ·obtain⟨g,rfl,hc⟩:=own_mark (sz:=1) rfl (own_below h hbr) hlt
   have c0:=hc 0 (by omega)
   simp at c0
   have klt:(k:Int) < (n:Int):=by omega
   clear hc
   go_wp2_with fail
   go_roundg (n - (k+1))
   case measure=>omega
   case rel=>exact⟨k+1,rfl,by omega,by go_num,hbr⟩
  ·go_wp2_with fail
   go_ret
   exact⟨rfl,hbr⟩
set_option maxRecDepth 100000 in
set_option maxHeartbeats 1000000 in
theorem ownLits_any(B:Nat)(a:Option Addr)(n c:Nat)(m:Int)(w:World)(h:w.ownsRow B 60 3 (.slice a n c) n (marks [.int .i64 m,.int .i64 0,.bool false] n))(hn:n<=9223372036854775807) :
 Calls Tryz.prog 39 #[.slice a n c,.int .i64 m] w fun e w'=>e=.returned (.bool true)/\Below w.heap.size w w':=by
 obtain⟨W,hW⟩:∃ W,W=w.alloc (.cells #[.int .i64 m,.int .i64 0,.bool false] 60):=⟨_,rfl⟩
 have hb:Below w.heap.size w W:=by rw[hW];exact below_alloc _ _
 have x0:W.cell? ⟨w.heap.size,0,none⟩=some (.int .i64 m):=by rw[hW];simp
 have x1:W.cell? ⟨w.heap.size,1,none⟩=some (.int .i64 0):=by rw[hW];simp
 have x2:W.cell? ⟨w.heap.size,2,none⟩=some (.bool false):=by rw[hW];simp
 go_enter Tryz.func39,Tryz.ntmps39
 go_upto_region 2 with fail
 rw[<-hW]
 clear hW
 generalize hbx:w.heap.size=bx at *
 have Hbx:=hide hbx
 clear hbx
 go_wp2_with fail
 go_loopg [6] n (fun q s wr=>∃ k:Nat,q=n - k/\k<=n/\s=.int .i64 k/\∃ j,wr=W.drewN j)
 case atStart=>exact⟨0,by omega,by omega,rfl,0,rfl⟩
 case round=>
  obtain⟨k,rfl,hk,rfl,j,rfl⟩:=hrel
  by_cases hlt:k < n
  ·obtain⟨g,rfl,hc⟩:=own_mark (sz:=3) rfl (own_below h (by rw[Hbx.out];exact hb)) hlt
   have c0:=hc 0 (by omega)
   have c1:=hc 1 (by omega)
   have c2:=hc 2 (by omega)
   simp at c0 c1 c2
   have klt:(k:Int) < (n:Int):=by omega
   clear hc
   go_upto_region 5 with fail
   go_quiet (fail)
   go_wp2_with fail
   go_roundg (n - (k+1))
   case measure=>omega
   case rel=>exact⟨k+1,rfl,by omega,by go_num,_,rfl⟩
  ·go_wp2_with fail
   go_ret
   exact⟨rfl,by rw[Hbx.out];exact below_drewN hb j⟩
set_option maxRecDepth 100000 in
set_option maxHeartbeats 1000000 in
theorem ownSteps_any(B:Nat)(a:Option Addr)(n c:Nat)(m:Int)(w:World)(h:w.ownsRow B 36 5 (.slice a n c) n (marks [.int .i64 m,.int .i64 0,.int .i64 0,.int .i64 0,.int .i64 0] n))(hn:n<=9223372036854775807) :
 Calls Tryz.prog 40 #[.slice a n c,.int .i64 m] w fun e w'=>e=.returned (.bool true)/\Below w.heap.size w w':=by
 obtain⟨W,hW⟩:∃ W,W=w.alloc (.cells #[.int .i64 m,.int .i64 0,.int .i64 0,.int .i64 0,.int .i64 0] 36):=⟨_,rfl⟩
 have hb:Below w.heap.size w W:=by rw[hW];exact below_alloc _ _
 have x0:W.cell? ⟨w.heap.size,0,none⟩=some (.int .i64 m):=by rw[hW];simp
 have x1:W.cell? ⟨w.heap.size,1,none⟩=some (.int .i64 0):=by rw[hW];simp
 have x2:W.cell? ⟨w.heap.size,2,none⟩=some (.int .i64 0):=by rw[hW];simp
 have x3:W.cell? ⟨w.heap.size,3,none⟩=some (.int .i64 0):=by rw[hW];simp
 have x4:W.cell? ⟨w.heap.size,4,none⟩=some (.int .i64 0):=by rw[hW];simp
 go_enter Tryz.func40,Tryz.ntmps40
 go_upto_region 2 with fail
 rw[<-hW]
 clear hW
 generalize hbx:w.heap.size=bx at *
 have Hbx:=hide hbx
 clear hbx
 go_wp2_with fail
 go_loopg [6] n (fun q s wr=>∃ k:Nat,q=n - k/\k<=n/\s=.int .i64 k/\∃ j,wr=W.drewN j)
 case atStart=>exact⟨0,by omega,by omega,rfl,0,rfl⟩
 case round=>
  obtain⟨k,rfl,hk,rfl,j,rfl⟩:=hrel
  by_cases hlt:k < n
  ·obtain⟨g,rfl,hc⟩:=own_mark (sz:=5) rfl (own_below h (by rw[Hbx.out];exact hb)) hlt
   have c0:=hc 0 (by omega)
   have c1:=hc 1 (by omega)
   have c2:=hc 2 (by omega)
   have c3:=hc 3 (by omega)
   have c4:=hc 4 (by omega)
   simp at c0 c1 c2 c3 c4
   have klt:(k:Int) < (n:Int):=by omega
   clear hc
   go_upto_region 5 with fail
   go_quiet (fail)
   go_wp2_with fail
   go_roundg (n - (k+1))
   case measure=>omega
   case rel=>exact⟨k+1,rfl,by omega,by go_num,_,rfl⟩
  ·go_wp2_with fail
   go_ret
   exact⟨rfl,by rw[Hbx.out];exact below_drewN hb j⟩
end Go.Proofs.YtjebhhoibofmfaaGreat
namespace Go.Proofs.YtjebhhoibofmfaaGreat
open Go.RowKit
theorem own_max{w:World}{B:Nat}{e:TypeId}{sz n c:Nat}{a:Option Addr}{xs:List Value}(h:w.ownsRow B e sz (.slice a n c) n xs):n<=9223372036854775807:=by
 rcases h.2 with⟨_,h0⟩ | ⟨g,cap,cur,hv,_,_,h1,h2,_⟩
 ·omega
 ·unfold maxLen at h2;omega
theorem row_cell{w:World}{B:Nat}{e:TypeId}{a:Option Addr}{c:Nat}{us:List Ls}(h:w.ownsRow B e 1 (.slice a us.length c) us.length (us.map lsV)){k:Nat}(hk:k < us.length):∃ g,a=some ⟨g,0,none⟩/\w.cell? ⟨g,k,none⟩=some (lsV (us.getD k ls0)):=by
 rcases h.2 with⟨_,h0⟩ | ⟨g,cap,cur,hv,_⟩
 ·omega
 ·injection hv with e1 _ e3
  subst e1
  refine⟨g,rfl,?_⟩
  rw[h.cellAt k (by omega),List.getElem?_map,List.getD_eq_getElem?_getD,List.getElem?_eq_getElem hk]
  rfl
theorem div_three{k:Nat}(h:k<=3298534883340):IntKind.i64.wrap ((k:Int) / 3)=((k / 3:Nat):Int)/\wrap64 ((k:Int) / 3)=((k / 3:Nat):Int)/\(k:Int) / 3=((k / 3:Nat):Int)/\(k:Int).tdiv 3=((k / 3:Nat):Int)/\IntKind.i64.wrap ((k:Int).tdiv 3)=((k / 3:Nat):Int):=by
 have e:(k:Int) / 3=((k / 3:Nat):Int):=by omega
 have e2:(k:Int).tdiv 3=((k / 3:Nat):Int):=by rw[Int.tdiv_eq_ediv_of_nonneg (by omega)];exact e
 refine⟨?_,?_,e,e2,?_⟩
 ·rw[e,IntKind.wrap_i64];omega
 ·rw[e];unfold wrap64;omega
 ·rw[e2,IntKind.wrap_i64];omega
def Thrice(D:Wd):Prop:=∀ f,f=0\/f=2\/f=4->(D.us (f+1)).length=3*(D.us f).length/\(D.us f).length<=1099511627780
set_option maxRecDepth 100000 in
set_option maxHeartbeats 4000000 in
theorem looks_any(B H:Nat)(D:Wd)(w:World)(hW:Wo B w H D)(h3:Thrice D) :
 Calls Tryz.prog 12 #[.pointer (some ⟨H,0,none⟩)] w fun e w'=>e=.returned (.bool true)/\Below w.heap.size w w':=by
 have HW:=hide hW
 have H3:=hide h3
 clear hW h3
 go_enter Tryz.func12,Tryz.ntmps12
 go_wp2_with fail
 go_loopg [3] (D.us 1).length (fun q s wr=>∃ k:Nat,q=(D.us 1).length - k/\k<=(D.us 1).length/\s=.int .i64 k/\Below w.heap.size w wr)
 case atStart=>exact⟨0,by omega,by omega,rfl,Below.refl _ _⟩
 case round=>
  obtain⟨k,rfl,hk,rfl,hbr⟩:=hrel
  have hWr:=HW.out.below hbr
  have c1:=(hWr.cell (f:=1) (by omega)).1
  have c0:=(hWr.cell (f:=0) (by omega)).1
  simp only[Wd.val]at c0 c1
  by_cases hlt:k < (D.us 1).length
  ·obtain⟨hj,hk3⟩:k / 3 < (D.us 0).length/\k<=3298534883340:=by
    obtain⟨t1,t2⟩:=H3.out 0 (by omega)
    simp only[Nat.reduceAdd]at t1
    omega
   obtain⟨g0,ha0,r0⟩:=row_cell (hWr.row 0 (by omega)) hj
   obtain⟨g1,ha1,r1⟩:=row_cell (hWr.row 1 (by omega)) hlt
   have m0:=hWr.mks 0 (by omega) (k / 3) hj
   have m1:=hWr.mks 1 (by omega) k hlt
   rw[ha0]at c0
   rw[ha1]at c1
   obtain⟨d1,d2,d3,d4,d5⟩:=div_three hk3
   have hmc:mkc 0 (k / 3)=[.int .i64 (-1 - ((k / 3:Nat):Int))]:=rfl
   have hmd:mkc 1 k=[.int .i64 (-1 - ((k / 3:Nat):Int))]:=rfl
   rw[hmc]at m0
   rw[hmd]at m1
   have wm:=wrap_mark (k:=k / 3) (by omega)
   obtain⟨w1,w2⟩:=wm
   generalize (D.us 0).getD (k / 3) ls0=u0 at *
   generalize (D.us 1).getD k ls0=u1 at *
   generalize k / 3=j at *
   obtain⟨ua,un,uc⟩:=u0
   obtain⟨va,vn,vc⟩:=u1
   simp only[lsV]at r0 r1 m0 m1
   have Hm0:=hide m0
   have Hm1:=hide m1
   clear hmc hmd m0 m1
   go_wp2_with fail
   refine(ownInts_any B ua un uc _ wr Hm0.out (own_max Hm0.out)).mono ?_
   rintro e wx ⟨rfl,hbx⟩
   have c1':=cell_below hbx c1
   have r1':=cell_below hbx r1
   have Hm2:=hide (own_below Hm1.out hbx)
   have hbr2:Below w.heap.size w wx:=hbr.trans (hbx.mono hbr.size)
   clear c0 c1 r0 r1 Hm0 Hm1 hbx hWr
   go_wp2_with fail
   refine(ownInts_any B va vn vc _ wx Hm2.out (own_max Hm2.out)).mono ?_
   rintro e wy ⟨rfl,hby⟩
   have hbr3:Below w.heap.size w wy:=hbr2.trans (hby.mono hbr2.size)
   clear c1' r1' Hm2 hby
   go_wp2_with fail
   go_roundg ((D.us 1).length - (k+1))
   case measure=>omega
   case rel=>exact⟨k+1,rfl,by omega,by go_num,hbr3⟩
  ·have hB0:Below w.heap.size w wr:=hbr
   obtain rfl:k=(D.us 1).length:=by omega
   clear c0 hWr hbr
   go_wp2_with fail
   go_loopg [6] (D.us 3).length (fun q s wr=>∃ k:Nat,q=(D.us 3).length - k/\k<=(D.us 3).length/\s=.int .i64 k/\Below w.heap.size w wr)
   case atStart=>exact⟨0,by omega,by omega,rfl,hB0⟩
   case round=>
    obtain⟨k,rfl,hk,rfl,hbr⟩:=hrel
    have hWr:=HW.out.below hbr
    have c1:=(hWr.cell (f:=3) (by omega)).1
    have c0:=(hWr.cell (f:=2) (by omega)).1
    simp only[Wd.val]at c0 c1
    by_cases hlt:k < (D.us 3).length
    ·obtain⟨hj,hk3⟩:k / 3 < (D.us 2).length/\k<=3298534883340:=by
      obtain⟨t1,t2⟩:=H3.out 2 (by omega)
      simp only[Nat.reduceAdd]at t1
      omega
     obtain⟨g0,ha0,r0⟩:=row_cell (hWr.row 2 (by omega)) hj
     obtain⟨g1,ha1,r1⟩:=row_cell (hWr.row 3 (by omega)) hlt
     have m0:=hWr.mks 2 (by omega) (k / 3) hj
     have m1:=hWr.mks 3 (by omega) k hlt
     rw[ha0]at c0
     rw[ha1]at c1
     obtain⟨d1,d2,d3,d4,d5⟩:=div_three hk3
     have hmc:mkc 2 (k / 3)=[.int .i64 (-1 - ((k / 3:Nat):Int)),.int .i64 0,.bool false]:=rfl
     have hmd:mkc 3 k=[.int .i64 (-1 - ((k / 3:Nat):Int)),.int .i64 0,.bool false]:=rfl
     rw[hmc]at m0
     rw[hmd]at m1
     have wm:=wrap_mark (k:=k / 3) (by omega)
     obtain⟨w1,w2⟩:=wm
     generalize (D.us 2).getD (k / 3) ls0=u0 at *
     generalize (D.us 3).getD k ls0=u1 at *
     generalize k / 3=j at *
     obtain⟨ua,un,uc⟩:=u0
     obtain⟨va,vn,vc⟩:=u1
     simp only[lsV]at r0 r1 m0 m1
     have Hm0:=hide m0
     have Hm1:=hide m1
     clear hmc hmd m0 m1
     go_wp2_with fail
     refine(ownLits_any B ua un uc _ wr Hm0.out (own_max Hm0.out)).mono ?_
     rintro e wx ⟨rfl,hbx⟩
     have c1':=cell_below hbx c1
     have r1':=cell_below hbx r1
     have Hm2:=hide (own_below Hm1.out hbx)
     have hbr2:Below w.heap.size w wx:=hbr.trans (hbx.mono hbr.size)
     clear c0 c1 r0 r1 Hm0 Hm1 hbx hWr
     go_wp2_with fail
     refine(ownLits_any B va vn vc _ wx Hm2.out (own_max Hm2.out)).mono ?_
     rintro e wy ⟨rfl,hby⟩
     have hbr3:Below w.heap.size w wy:=hbr2.trans (hby.mono hbr2.size)
     clear c1' r1' Hm2 hby
     go_wp2_with fail
     go_roundg ((D.us 3).length - (k+1))
     case measure=>omega
     case rel=>exact⟨k+1,rfl,by omega,by go_num,hbr3⟩
    ·have hB2:Below w.heap.size w wr:=hbr
     obtain rfl:k=(D.us 3).length:=by omega
     clear c0 hWr hbr
     go_wp2_with fail
     go_loopg [9] (D.us 5).length (fun q s wr=>∃ k:Nat,q=(D.us 5).length - k/\k<=(D.us 5).length/\s=.int .i64 k/\Below w.heap.size w wr)
     case atStart=>exact⟨0,by omega,by omega,rfl,hB2⟩
     case round=>
      obtain⟨k,rfl,hk,rfl,hbr⟩:=hrel
      have hWr:=HW.out.below hbr
      have c1:=(hWr.cell (f:=5) (by omega)).1
      have c0:=(hWr.cell (f:=4) (by omega)).1
      simp only[Wd.val]at c0 c1
      by_cases hlt:k < (D.us 5).length
      ·obtain⟨hj,hk3⟩:k / 3 < (D.us 4).length/\k<=3298534883340:=by
        obtain⟨t1,t2⟩:=H3.out 4 (by omega)
        simp only[Nat.reduceAdd]at t1
        omega
       obtain⟨g0,ha0,r0⟩:=row_cell (hWr.row 4 (by omega)) hj
       obtain⟨g1,ha1,r1⟩:=row_cell (hWr.row 5 (by omega)) hlt
       have m0:=hWr.mks 4 (by omega) (k / 3) hj
       have m1:=hWr.mks 5 (by omega) k hlt
       rw[ha0]at c0
       rw[ha1]at c1
       obtain⟨d1,d2,d3,d4,d5⟩:=div_three hk3
       have hmc:mkc 4 (k / 3)=[.int .i64 (-1 - ((k / 3:Nat):Int)),.int .i64 0,.int .i64 0,.int .i64 0,.int .i64 0]:=rfl
       have hmd:mkc 5 k=[.int .i64 (-1 - ((k / 3:Nat):Int)),.int .i64 0,.int .i64 0,.int .i64 0,.int .i64 0]:=rfl
       rw[hmc]at m0
       rw[hmd]at m1
       have wm:=wrap_mark (k:=k / 3) (by omega)
       obtain⟨w1,w2⟩:=wm
       generalize (D.us 4).getD (k / 3) ls0=u0 at *
       generalize (D.us 5).getD k ls0=u1 at *
       generalize k / 3=j at *
       obtain⟨ua,un,uc⟩:=u0
       obtain⟨va,vn,vc⟩:=u1
       simp only[lsV]at r0 r1 m0 m1
       have Hm0:=hide m0
       have Hm1:=hide m1
       clear hmc hmd m0 m1
       go_wp2_with fail
       refine(ownSteps_any B ua un uc _ wr Hm0.out (own_max Hm0.out)).mono ?_
       rintro e wx ⟨rfl,hbx⟩
       have c1':=cell_below hbx c1
       have r1':=cell_below hbx r1
       have Hm2:=hide (own_below Hm1.out hbx)
       have hbr2:Below w.heap.size w wx:=hbr.trans (hbx.mono hbr.size)
       clear c0 c1 r0 r1 Hm0 Hm1 hbx hWr
       go_wp2_with fail
       refine(ownSteps_any B va vn vc _ wx Hm2.out (own_max Hm2.out)).mono ?_
       rintro e wy ⟨rfl,hby⟩
       have hbr3:Below w.heap.size w wy:=hbr2.trans (hby.mono hbr2.size)
       clear c1' r1' Hm2 hby
       go_wp2_with fail
       go_roundg ((D.us 5).length - (k+1))
       case measure=>omega
       case rel=>exact⟨k+1,rfl,by omega,by go_num,hbr3⟩
      ·have hB4:Below w.heap.size w wr:=hbr
       obtain rfl:k=(D.us 5).length:=by omega
       clear c0 hWr hbr
       go_wp2_with fail
       go_ret
       exact⟨rfl,hB4⟩
end Go.Proofs.YtjebhhoibofmfaaGreat
namespace Go.Proofs.YtjebhhoibofmfaaGreat
open Go.RowKit
def unSteps:List St:=[⟨0,0,0,0,0⟩,⟨0,1,0,0,0⟩,⟨3,2,3,0,0⟩,⟨4,2,1,2,3⟩,⟨4,0,3,0,1⟩]
theorem un_ok(c1 c2:Nat):ClsOk (unClauses c1 c2):=by
 intro i hi
 match i,hi with
 | 0,_=>exact⟨fun h=>by simp[unClauses]at h,by simp[unClauses]⟩
 | 1,_=>exact⟨fun h=>by simp[unClauses]at h,by simp[unClauses]⟩
theorem un_folN(b1 b2 c1 c2:Nat):folN (fourTs b1 b2) (unClauses c1 c2) unSteps=5:=by kernel_rfl
theorem un_chkE(b1 b2 c1 c2:Nat):chkE (fourTs b1 b2) (unClauses c1 c2) unSteps=0:=by kernel_rfl
theorem un_clsL(b1 b2 c1 c2:Nat):(clsL (fourTs b1 b2) (unClauses c1 c2) (unSteps.take 4)).length=1:=by kernel_rfl
theorem un_steps{w:World}{g:Nat}(h:SRow w g unSteps):StepsAt w (some ⟨g,0,none⟩) unSteps:=
 .inr ⟨g,0,rfl,fun i hi=>by rw[Nat.zero_add];exact h.cell hi⟩
theorem un_steps4{w:World}{g:Nat}(h:SRow w g unSteps):StepsAt w (some ⟨g,0,none⟩) (unSteps.take 4):=by
 refine .inr ⟨g,0,rfl,fun i hi=>?_⟩
 rw[Nat.zero_add]
 have:=h.cell (k:=i) (by have:i < 4:=hi;show i < 5;omega)
 have e:(unSteps.take 4).getD i st0=unSteps.getD i st0:=by
  match i,hi with
  | 0,_=>rfl
  | 1,_=>rfl
  | 2,_=>rfl
  | 3,_=>rfl
 rw[e];exact this
set_option maxRecDepth 100000 in
set_option maxHeartbeats 2000000 in
theorem checks_any(ta sa la:Option Addr)(tc sc lc:Nat)(ts:List Tm)(cs:List Cl)(sts:List St)(w:World)(ht:TermsAt w ta ts)(hcs:ClausesAt w sa cs)(hst:StepsAt w la sts)
 (htn:ta=none->tc=0) (hsn:sa=none->sc=0) (hln:la=none->lc=0) (hto:TmsOk ts) (hco:ClsOk cs) (htl:ts.length<=4398046510976) (hcl:cs.length<=5864062014634) (hlen:sts.length<=3518437208883) :
 Calls Tryz.prog 10 #[.agg #[.slice ta ts.length tc,.slice sa cs.length sc],.slice la sts.length lc] w fun e w'=>e=.returned (.bool true)/\Below w.heap.size w w':=by
 have Hto:=hide hto
 have Hco:=hide hco
 clear hto hco
 go_enter Tryz.func10,Tryz.ntmps10
 go_upto_region 1 with fail
 obtain⟨w1,hw1⟩:∃ w1,w1=w.alloc (.cells #[.slice ta ts.length tc,.slice sa cs.length sc] 25):=⟨_,rfl⟩
 rw[<-hw1]
 have hb1:Below w.heap.size w w1:=by rw[hw1];exact(Below.refl _ _).alloc (Nat.le_refl _) _
 have p0:w1.cell? ⟨w.heap.size,0,none⟩=some (.slice ta ts.length tc):=by rw[hw1];exact new0 rfl
 have p1:w1.cell? ⟨w.heap.size,1,none⟩=some (.slice sa cs.length sc):=by rw[hw1];exact new0 rfl
 have hT1:=ht.below hb1
 have hC1:=hcs.below hb1
 have hS1:=hst.below hb1
 have hs1:=hb1.size
 clear hw1 ht hcs hst
 go_wp2_with fail
 refine(unsaid_full w1).mono ?_
 rintro e w2 ⟨b1,b2,g,c1,c2,cg,sg,rfl,hF,hU,hR,hb2⟩
 have hR':SRow w2 sg unSteps:=hR
 have hs2:=hb2.size
 clear hR
 go_upto_region 2 with fail
 obtain⟨w3,hw3⟩:∃ w3,w3=w2.alloc (.cells #[.slice (some ⟨g,0,none⟩) 4 4,.slice (some ⟨cg,0,none⟩) 2 2] 25):=⟨_,rfl⟩
 rw[<-hw3]
 have hb3:Below w2.heap.size w2 w3:=by rw[hw3];exact(Below.refl _ _).alloc (Nat.le_refl _) _
 have hr3:w3.heap[w2.heap.size]?=some (.cells #[.slice (some ⟨g,0,none⟩) 4 4,.slice (some ⟨cg,0,none⟩) 2 2] 25 (0,0)):=by rw[hw3];exact heap_at_new _ _ _ rfl
 have q0:w3.cell? ⟨w2.heap.size,0,none⟩=some (.slice (some ⟨g,0,none⟩) 4 4):=by rw[cell_of_row _ _ _ _ _ _ hr3];rfl
 have q1:w3.cell? ⟨w2.heap.size,1,none⟩=some (.slice (some ⟨cg,0,none⟩) 2 2):=by rw[cell_of_row _ _ _ _ _ _ hr3];rfl
 have hF3:=hF.below hb3
 have hU3:=hU.below hb3
 have hR3:=hR'.up hb3
 have hs3:=hb3.size
 have hb13:Below w1.heap.size w1 w3:=hb2.trans (hb3.mono hs2)
 clear hw3 hr3 hF hU hR'
 have hck:=check_any (some ⟨g,0,none⟩) (some ⟨cg,0,none⟩) (some ⟨sg,0,none⟩) 4 2 5 (fourTs b1 b2) (unClauses c1 c2) unSteps w3 hF3 hU3 (un_steps hR3) (by simp[unSteps])
 have Hck:=hide hck
 clear hck
 go_wp2_with fail
 refine Hck.out.mono ?_
 rintro e w4 ⟨rfl,hb4⟩
 rw[un_folN,un_chkE]
 have hs4:=hb4.size
 have q0':=cell_below hb4 q0
 have q1':=cell_below hb4 q1
 have hF4:=hF3.below hb4
 have hU4:=hU3.below hb4
 have hR4:=hR3.up hb4
 have hS4:=un_steps4 hR4
 clear q0 q1 Hck
 go_upto_region 3 with fail
 go_cut [9,10]from 24 to 30 (fun s9 s10 wx=>∃ va vc,s9=.slice va 1 vc/\s10=.bool true/\Below w4.heap.size w4 wx)
 case first=>
  go_region_with (go_at_call 31; refine(clauseL_any (some ⟨g,0,none⟩) (some ⟨cg,0,none⟩) (some ⟨sg,0,none⟩) 4 2 5 (fourTs b1 b2) (unClauses c1 c2) (unSteps.take 4) _ (hF4.below (Below.refl _ _).drew) (hU4.below (Below.refl _ _).drew) (hS4.below (Below.refl _ _).drew) (fun h=>by cases h) (fun h=>by cases h) (fun h=>by cases h) (four_ok _ _) (un_ok _ _) (by simp[fourTs]) (by simp[unClauses]) (by simp[unSteps])).mono ?_;rintro e w' ⟨va,vc,rfl,k1⟩)
  all_goals (rw[un_clsL];go_wp2_with fail;go_meet;exact⟨va,vc,rfl,rfl,(Below.refl _ _).drew.trans k1⟩)
 case rest=>
  obtain⟨va,vc,rfl,rfl,hb5⟩:=hcut
  have hb15:Below w1.heap.size w1 wc:=(hb13.trans (hb4.mono (by omega))).trans (hb5.mono (by omega))
  have p0':=cell_below hb15 p0
  have p1':=cell_below hb15 p1
  clear p0 p1 q0' q1'
  go_wp2_with fail
  refine(clauseL_any ta sa la tc sc lc ts cs sts wc (hT1.below hb15) (hC1.below hb15) (hS1.below hb15) htn hsn hln Hto.out Hco.out htl hcl hlen).mono ?_
  rintro e w6 ⟨da,dc,rfl,hb6⟩
  have hs5:=hb15.size
  have hb16:Below w1.heap.size w1 w6:=hb15.trans (hb6.mono (by omega))
  have p0:=cell_below hb6 p0'
  have p1:=cell_below hb6 p1'
  clear p0' p1'
  go_wp2_with fail
  refine(checkL_any ta sa la tc sc lc ts cs sts w6 (hT1.below hb16) (hC1.below hb16) (hS1.below hb16) htn hsn hln Hto.out Hco.out htl hcl hlen).mono ?_
  rintro e w7 ⟨rfl,hb7⟩
  go_wp2_with fail
  go_ret
  exact⟨rfl,(hb1.trans (hb16.mono hs1)).trans (hb7.mono (by have:=hb16.size;omega))⟩
end Go.Proofs.YtjebhhoibofmfaaGreat
namespace Go.Proofs.YtjebhhoibofmfaaGreat
open Go.RowKit
theorem fullInts_both(ca:Option Addr)(cc:Nat)(c:List Int)(w:World)(hc:IntsAt w ca c)(hn:ca=none->cc=0)(hlen:c.length<=17592186043904) :
 Calls Tryz.prog 55 #[.slice ca c.length cc] w fun e w'=>∃(oa:Option Addr) (ol:Nat),e=.returned (.slice oa ol ol)/\Below w.heap.size w w' /\
  ((oa=none/\ol=0/\c=[])\/(oa=some ⟨w.heap.size,0,none⟩/\ol=c.length+8/\Row w' w.heap.size (full c))):=by
 cases ca with
 | none=>
   have h0:c=[]:=by rcases hc with h | ⟨_,_,h,_⟩;exact h;cases h
   have:=hn rfl
   subst this
   subst h0
   refine(fullInts_nil w).mono ?_
   rintro e w' ⟨rfl,rfl⟩
   exact⟨none,0,rfl,Below.refl _ _,.inl ⟨rfl,rfl,rfl⟩⟩
 | some ad=>
   refine(fullInts_any ad cc c w hc hlen).mono ?_
   rintro e w' ⟨rfl,h1,h2⟩
   exact⟨_,_,rfl,h2,.inr ⟨rfl,rfl,h1⟩⟩
theorem stillInts_both(W w:World)(ca oa:Option Addr)(cc ol B:Nat)(c:List Int)(hc:IntsAt W ca c)(hW:Below W.heap.size W w)(hB:W.heap.size<=B)(hlen:c.length<=17592186043904)
 (ho:(oa=none/\ol=0/\c=[])\/(oa=some ⟨B,0,none⟩/\ol=c.length+8/\Row w B (full c))) :
 Calls Tryz.prog 57 #[.slice oa ol ol,.slice ca c.length cc] w fun e w'=>e=.returned (.bool true)/\Below W.heap.size W w':=by
 rcases ho with⟨rfl,rfl,rfl⟩ | ⟨rfl,rfl,hr⟩
 ·refine(stillInts_nil _ _ _ _).mono ?_
  rintro e w' ⟨rfl,rfl⟩
  exact⟨rfl,hW⟩
 ·refine(stillInts_any W B (c.length+8) (c.length+8) (full c) ca cc c w hW hB hc hr (by rw[full_length];omega) (by rw[full_length];omega) (full_mt c)).mono ?_
  rintro e w' ⟨rfl,_,hg⟩
  exact⟨rfl,hW.grown hg hW.size (fun k hk=>by injection hk with hk;omega)⟩
set_option maxRecDepth 100000 in
set_option maxHeartbeats 2000000 in
theorem truth_any(ta sa ca:Option Addr)(tc sc cc:Nat)(ts:List Tm)(cs:List Cl)(c:List Int)(w:World)(ht:TermsAt w ta ts)(hcs:ClausesAt w sa cs)(hc:IntsAt w ca c)
 (htn:ta=none->tc=0) (hsn:sa=none->sc=0) (hcn:ca=none->cc=0) (hto:TmsOk ts) (hco:ClsOk cs) (htl:ts.length<=4398046510976) (hcl:cs.length<=5864062014634) (hlen:c.length<=17592186043904) :
 Calls Tryz.prog 35 #[.agg #[.slice ta ts.length tc,.slice sa cs.length sc],.slice ca c.length cc] w fun e w'=>e=.returned (.bool true)/\Below w.heap.size w w':=by
 have Hto:=hide hto
 have Hco:=hide hco
 have Hht:=hide ht
 have Hcs:=hide hcs
 clear hto hco
 go_enter Tryz.func35,Tryz.ntmps35
 go_upto_region 1 with fail
 obtain⟨w1,hw1⟩:∃ w1,w1=w.alloc (.cells #[.slice ta ts.length tc,.slice sa cs.length sc] 25):=⟨_,rfl⟩
 rw[<-hw1]
 have hb1:Below w.heap.size w w1:=by rw[hw1];exact(Below.refl _ _).alloc (Nat.le_refl _) _
 have p0:w1.cell? ⟨w.heap.size,0,none⟩=some (.slice ta ts.length tc):=by rw[hw1];exact new0 rfl
 have p1:w1.cell? ⟨w.heap.size,1,none⟩=some (.slice sa cs.length sc):=by rw[hw1];exact new0 rfl
 have hT1:=ht.below hb1
 have hC1:=hcs.below hb1
 have hc1:=hc.below hb1
 have hs1:=hb1.size
 clear hw1 ht hcs hc
 go_wp2_with fail
 refine(hand_any ta sa tc sc ts cs w1 hT1 hC1 htn hsn Hto.out Hco.out htl hcl).mono ?_
 rintro e w2 ⟨rfl,hh2,hb2⟩
 have hs2:=hb2.size
 have Hh2:=hide hh2
 clear hh2
 go_wp2_with fail
 refine(fullInts_both ca cc c w2 (hc1.below hb2) hcn hlen).mono ?_
 rintro e w3 ⟨oa,ol,rfl,hb3,ho3⟩
 have hb13:Below w1.heap.size w1 w3:=hb2.trans (hb3.mono hs2)
 have Ho3:=hide ho3
 have hol:c.length<=ol:=by
  rcases ho3 with⟨_,h2,h3⟩ | ⟨_,h2,_⟩
  ·rw[h3];simp
  ·omega
 have hs3:=hb3.size
 clear ho3
 go_upto_region 3 with fail
 go_cut [7,8] (fun s7 s8 wz=>s7=.bool (trueB ts cs c)/\s8=.int .i64 (trueE ts cs c)/\Below w3.heap.size w3 wz)
 case first=>
  have hh3:=Hh2.out.up hb3
  have hta:=Hht.out.bare
  have hca:=Hcs.out.bare
  have Hh3:=hide hh3
  have Hta:=hide hta
  have Hca:=hide hca
  clear hh3 hta hca
  rcases Ho3.out with⟨rfl,rfl,rfl⟩ | ⟨rfl,rfl,hr⟩
  ·go_region_with (first
    | (go_at_call 25; refine(given_any (w1.heap.size+1) ta sa tc sc ts cs _ (Hh3.out.up (Below.refl _ _).drew) Hta.out Hca.out htl hcl).mono ?_;rintro e w' ⟨ta',sa',tc',sc',ts',cs',rfl,k1,k2,k3,k4,k5⟩)
    | (go_at_call 19; refine(true_any ta' sa' _ tc' sc' _ ts' cs' [] _ (k1.below k5) (k2.below k5) (.inl rfl)).mono ?_;rintro e w'' ⟨rfl,k6⟩))
   all_goals (go_wp2_with fail;go_meet;exact⟨by rw[same_trueB k3 k4],by rw[same_trueE k3 k4],(Below.refl _ _).drew.trans (k5.trans (k6.mono k5.size))⟩)
  ·have Hr:=hide hr
   have hia:IntsAt w3 (some ⟨w2.heap.size,0,none⟩) c:=.inr ⟨w2.heap.size,0,rfl,fun i hi=>by
    rw[Nat.zero_add]
    have:=hr.cell (k:=i) (by rw[full_length];omega)
    rw[full_getD hi]at this
    exact this⟩
   have Hia:=hide hia
   clear hr hia
   go_region_with (first
    | (go_at_call 25; refine(given_any (w1.heap.size+1) ta sa tc sc ts cs _ (Hh3.out.up (Below.refl _ _).drew) Hta.out Hca.out htl hcl).mono ?_;rintro e w' ⟨ta',sa',tc',sc',ts',cs',rfl,k1,k2,k3,k4,k5⟩)
    | (go_at_call 19; refine(true_any ta' sa' _ tc' sc' _ ts' cs' c _ (k1.below k5) (k2.below k5) (Hia.out.below ((Below.refl _ _).drew.trans k5))).mono ?_;rintro e w'' ⟨rfl,k6⟩))
   all_goals (go_wp2_with fail;go_meet;exact⟨by rw[same_trueB k3 k4],by rw[same_trueE k3 k4],(Below.refl _ _).drew.trans (k5.trans (k6.mono k5.size))⟩)
 case rest=>
  obtain⟨rfl,rfl,hbz⟩:=hcut
  have hs4:=hbz.size
  have hb1c:Below w1.heap.size w1 wc:=hb13.trans (hbz.mono (by omega))
  have hN:Below w2.heap.size w2 wc:=hb3.trans (hbz.mono hs3)
  go_wp2_with fail
  refine(still_any w1 w2 wc (w1.heap.size+1) ta sa tc sc ts cs hb1c (by omega) Hh2.out hN hT1 hC1 hT1.bare hC1.bare Hto.out Hco.out htl hcl).mono ?_
  rintro e w5 ⟨rfl,htch⟩
  have hb15:Below w1.heap.size w1 w5:=hb1c.trans (htch.below (by omega) hb1c.size)
  have Ho5:Hid ((oa=none/\ol=0/\c=[])\/(oa=some ⟨w2.heap.size,0,none⟩/\ol=c.length+8/\Row w5 w2.heap.size (full c))):=by
   rcases Ho3.out with h | ⟨h1,h2,h3⟩
   ·exact .inl h
   ·have h4:=h3.up hbz
    refine .inr ⟨h1,h2,?_⟩
    unfold Row
    rw[htch.block _ h4.lt (.inr (Nat.le_refl _))]
    exact h4
  go_wp2_with fail
  refine(stillInts_both w1 w5 ca oa cc ol w2.heap.size c hc1 hb15 hs2 hlen Ho5.out).mono ?_
  rintro e w6 ⟨rfl,hb6⟩
  have p0':=cell_below hb6 p0
  have p1':=cell_below hb6 p1
  clear p0 p1
  go_wp2_with fail
  refine(rTrue_any ta sa ca tc sc cc ts cs c w6 (hT1.below hb6) (hC1.below hb6) (hc1.below hb6)).mono ?_
  rintro e w7 ⟨rfl,hb7⟩
  have hb17:Below w.heap.size w w7:=(hb1.trans (hb6.mono hs1)).trans (hb7.mono (by have:=hb6.size;omega))
  generalize trueB ts cs c=bb at *
  generalize trueE ts cs c=ee at *
  have hee:(ee == ee)=true:=by simp
  cases bb
  ·go_wp2_with fail
   go_ret
   exact⟨rfl,hb17⟩
  ·go_wp2_with fail
   go_ret
   exact⟨rfl,hb17⟩
end Go.Proofs.YtjebhhoibofmfaaGreat
namespace Go.Proofs.YtjebhhoibofmfaaGreat
open Go.RowKit
structure Opv where
 kind:Int
 ta:Option Addr
 tc:Nat
 ts:List Tm
 sa:Option Addr
 sc:Nat
 cs:List Cl
 pa:Option Addr
 pc:Nat
 ps:List Pr
 ca:Option Addr
 cc:Nat
 c:List Int
 la:Option Addr
 lc:Nat
 sts:List St
def opCells(o:Opv):Array Value:=#[.int .i64 o.kind,.slice o.ta o.ts.length o.tc,.slice o.sa o.cs.length o.sc,.slice o.pa o.ps.length o.pc,.slice o.ca o.c.length o.cc,.slice o.la o.sts.length o.lc]
structure OpAt (w:World) (o:Opv):Prop where
 t:TermsAt w o.ta o.ts
 s:ClausesAt w o.sa o.cs
 p:PairsAt w o.pa o.ps
 c:IntsAt w o.ca o.c
 l:StepsAt w o.la o.sts
structure OpOk (o:Opv):Prop where
 tn:o.ta=none->o.tc=0
 sn:o.sa=none->o.sc=0
 cn:o.ca=none->o.cc=0
 ln:o.la=none->o.lc=0
 tk:TmsOk o.ts
 sk:ClsOk o.cs
 tl:o.ts.length<=4398046510976
 sl:o.cs.length<=5864062014634
 tt:o.ts.length<=o.tc
 pl:o.ps.length<=8796093021952
 cl:o.c.length<=17592186043904
 ll:o.sts.length<=3518437208883
theorem OpAt.below{w w':World}{o:Opv}(h:OpAt w o)(hb:Below w.heap.size w w'):OpAt w' o:=⟨h.t.below hb,h.s.below hb,h.p.below hb,h.c.below hb,h.l.below hb⟩
def Many(D:Wd)(N:Nat):Prop:=∀ f,f=0\/f=2\/f=4->(D.us (f+1)).length=3*(D.us f).length/\(D.us f).length<=N
theorem Many.mono{D:Wd}{N M:Nat}(h:Many D N)(hm:N<=M):Many D M:=fun f hf=>⟨(h f hf).1,Nat.le_trans (h f hf).2 hm⟩
theorem Many.taken{B H N:Nat}{w w':World}{D D':Wd}{f:Nat}{e:TypeId}{L:List Ls}(h:Many D N)(hf:f=0\/f=2\/f=4)(ht:Tk B H w D f 1 3 e L w' D'):Many D' (N+1):=by
 intro g hg
 by_cases hgf:g=f
 ·subst hgf
  obtain⟨h1,h2⟩:=h g hg
  rw[ht.la,ht.lb]
  omega
 ·obtain⟨h1,h2⟩:=h g hg
  rw[ht.lo g hgf (by omega),ht.lo (g+1) (by omega) (by omega)]
  omega
end Go.Proofs.YtjebhhoibofmfaaGreat
