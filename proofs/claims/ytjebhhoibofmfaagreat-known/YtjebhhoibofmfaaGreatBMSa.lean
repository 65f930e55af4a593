import Derived.Test.YtjebhhoibofmfaaGreatBMLy
import Derived.Test.YtjebhhoibofmfaaGreatBXLtQ
import Derived.Test.YtjebhhoibofmfaaGreatBMCk
namespace Go.Proofs.YtjebhhoibofmfaaGreat
open Go.RowKit
set_option maxHeartbeats 400000 in
theorem contrary_any(t:Lt)(w:World) :
 Calls Tryz.prog 101 #[.agg #[.int .i64 t.x,.int .i64 t.y,.bool t.n]] w fun e w'=>e=.returned (.agg #[.int .i64 t.x,.int .i64 t.y,.bool (!t.n)])/\Below w.heap.size w w':=by
 obtain⟨x,y,n⟩:=t
 go_enter Tryz.func101,Tryz.ntmps101
 go_wp2_with fail
 refine bodyPost_ret (v:=.agg #[.int .i64 x,.int .i64 y,.bool (!n)]) (by simp[results,Tryz.results101,go_sem]) rfl ⟨rfl,?_⟩
 first
  | exact Below.alloc (Below.alloc (Below.refl _ _) (Nat.le_refl _) _) (by simp) _
  | exact Below.setCell (Below.alloc (Below.alloc (Below.refl _ _) (Nat.le_refl _) _) (by simp) _) (by simp) _
set_option maxHeartbeats 400000 in
theorem minus_any(E A F B:Nat)(w:World)(hE:E < 18446744073709551616)(hA:A < 18446744073709551616)(hF:F < 18446744073709551616)(hB:B < 18446744073709551616) :
 Calls Tryz.prog 135 #[.agg #[.int .u64 E,.int .u64 A],.agg #[.int .u64 F,.int .u64 B]] w fun e w'=>e=.returned (.agg #[.int .u64 (butN E F:Nat),.int .u64 (butN A B:Nat)])/\Below w.heap.size w w':=by
 have e1:=bits_but hE hF
 have e2:=bits_but hA hB
 generalize butN E F=P at *
 generalize butN A B=Q at *
 go_enter Tryz.func135,Tryz.ntmps135
 go_wp2_with fail
 refine bodyPost_ret (v:=.agg #[.int .u64 P,.int .u64 Q]) (by simp[results,Tryz.results135,go_sem]) rfl ⟨rfl,?_⟩
 refine Below.alloc (Below.alloc (Below.alloc (Below.refl _ _) (Nat.le_refl _) _) ?_ _) ?_ _
 ·simp
 ·simp;omega
set_option maxHeartbeats 400000 in
theorem contraries_any(E A:Nat)(w:World) :
 Calls Tryz.prog 95 #[.agg #[.int .u64 E,.int .u64 A]] w fun e w'=>e=.returned (.agg #[.int .u64 A,.int .u64 E])/\Below w.heap.size w w':=by
 go_enter Tryz.func95,Tryz.ntmps95
 go_wp2_with fail
 refine bodyPost_ret (v:=.agg #[.int .u64 A,.int .u64 E]) (by simp[results,Tryz.results95,go_sem]) rfl ⟨rfl,?_⟩
 exact Below.alloc (Below.alloc (Below.refl _ _) (Nat.le_refl _) _) (by simp) _
def meetsB(E A F B:Nat):Bool:=!decide (E &&& F=0) || !decide (A &&& B=0)
set_option maxHeartbeats 400000 in
theorem meets_any(E A F B:Nat)(w:World)(hE:E < 18446744073709551616)(hA:A < 18446744073709551616)(hF:F < 18446744073709551616)(hB:B < 18446744073709551616) :
 Calls Tryz.prog 134 #[.agg #[.int .u64 E,.int .u64 A],.agg #[.int .u64 F,.int .u64 B]] w fun e w'=>e=.returned (.bool (meetsB E A F B))/\Below w.heap.size w w':=by
 have e1:=bits_and hE hF
 have e2:=bits_and hA hB
 have Hm:Hid (meetsB E A F B=(!decide (E &&& F=0) || !decide (A &&& B=0))):=rfl
 generalize E &&& F=P at *
 generalize A &&& B=Q at *
 generalize meetsB E A F B=m at *
 have hb0:Below w.heap.size w ((w.alloc (.cells #[.int .u64 E,.int .u64 A] 95)).alloc (.cells #[.int .u64 F,.int .u64 B] 95)):=((Below.refl _ _).alloc (Nat.le_refl _) _).alloc (by simp) _
 go_enter Tryz.func134,Tryz.ntmps134
 by_cases hP:P=0
 ·subst hP
  by_cases hQ:Q=0
  ·subst hQ
   go_wp2_with fail
   go_ret
   exact⟨ret_bool (by rw[Hm.out];rfl),hb0⟩
  ·have hQ':((Q:Int) != 0)=true:=by simpa using hQ
   go_wp2_with fail
   go_ret
   exact⟨ret_bool (by rw[Hm.out];simp[hQ]),hb0⟩
 ·have hP':((P:Int) != 0)=true:=by simpa using hP
  go_wp2_with fail
  go_ret
  exact⟨ret_bool (by rw[Hm.out];simp[hP]),hb0⟩
end Go.Proofs.YtjebhhoibofmfaaGreat
namespace Go.Proofs.YtjebhhoibofmfaaGreat
open Go.RowKit
def popB(b:Nat):Nat:=(b.testBit 0).toNat+(b.testBit 1).toNat+(b.testBit 2).toNat+(b.testBit 3).toNat+(b.testBit 4).toNat+(b.testBit 5).toNat+(b.testBit 6).toNat+(b.testBit 7).toNat
def rep(c:Nat):Nat->Nat
 | 0=>0
 | n+1=>c+256*rep c n
def q1(n x:Nat):Nat:=((x / 2) &&& rep 85 n)+(x &&& rep 85 n)
def q2(n x:Nat):Nat:=((x / 4) &&& rep 51 n)+(x &&& rep 51 n)
def q3(n x:Nat):Nat:=(x / 16+x) &&& rep 15 n
def f1(b:Nat):Nat:=((b / 2) &&& 85)+(b &&& 85)
def f2(b:Nat):Nat:=((b / 4) &&& 51)+(b &&& 51)
theorem land_split{b c r m:Nat}(hb:b < 256)(hc:c < 256):(b+256*r) &&& (c+256*m)=(b &&& c)+256*(r &&& m):=by
 have hbc:b &&& c < 256:=Nat.lt_of_le_of_lt Nat.and_le_left hb
 apply Nat.eq_of_testBit_eq
 intro k
 rw[Nat.testBit_and,Nat.add_comm b,Nat.add_comm c,Nat.add_comm (b &&& c)]
 rw[show(256:Nat)=2 ^ 8 from rfl]at *
 rw[Nat.testBit_two_pow_mul_add _ hb,Nat.testBit_two_pow_mul_add _ hc,Nat.testBit_two_pow_mul_add _ hbc]
 split
 ·rw[Nat.testBit_and]
 ·rw[Nat.testBit_and]
theorem byte1:∀(b:Fin 256) (s:Fin 2),((b.1 / 2+128*s.1) &&& 85)=(b.1 / 2) &&& 85:=by decide +kernel
theorem byte2:∀(b:Fin 256) (s:Fin 4),((b.1 / 4+64*s.1) &&& 51)=(b.1 / 4) &&& 51:=by decide +kernel
theorem byte12:∀ b:Fin 256,f1 b.1 < 256/\f2 (f1 b.1) < 256/\f2 (f1 b.1) / 16<=4/\f2 (f1 b.1) % 16<=4/\((f2 (f1 b.1) / 16+f2 (f1 b.1)) &&& 15)=popB b.1:=by decide +kernel
theorem popB_le:∀ b:Fin 256,popB b.1<=8:=by decide +kernel
theorem q1_step(n x:Nat):q1 (n+1) x=f1 (x % 256)+256*q1 n (x / 256):=by
 have hx:x=x % 256+256*(x / 256):=by omega
 have hb:x % 256 < 256:=Nat.mod_lt _ (by omega)
 generalize x % 256=b at *
 generalize x / 256=r at *
 subst hx
 have e:(b+256*r) / 2=(b / 2+128*(r % 2))+256*(r / 2):=by omega
 show(((b+256*r) / 2) &&& (85+256*rep 85 n))+((b+256*r) &&& (85+256*rep 85 n))=((b / 2 &&& 85)+(b &&& 85))+256*((r / 2 &&& rep 85 n)+(r &&& rep 85 n))
 rw[e,land_split (by omega) (by decide),land_split hb (by decide),byte1 ⟨b,hb⟩ ⟨r % 2,Nat.mod_lt _ (by omega)⟩]
 simp only
 generalize b / 2 &&& 85=u1
 generalize b &&& 85=u2
 generalize r / 2 &&& rep 85 n=u3
 generalize r &&& rep 85 n=u4
 omega
theorem q2_step(n x:Nat):q2 (n+1) x=f2 (x % 256)+256*q2 n (x / 256):=by
 have hx:x=x % 256+256*(x / 256):=by omega
 have hb:x % 256 < 256:=Nat.mod_lt _ (by omega)
 generalize x % 256=b at *
 generalize x / 256=r at *
 subst hx
 have e:(b+256*r) / 4=(b / 4+64*(r % 4))+256*(r / 4):=by omega
 show(((b+256*r) / 4) &&& (51+256*rep 51 n))+((b+256*r) &&& (51+256*rep 51 n))=((b / 4 &&& 51)+(b &&& 51))+256*((r / 4 &&& rep 51 n)+(r &&& rep 51 n))
 rw[e,land_split (by omega) (by decide),land_split hb (by decide),byte2 ⟨b,hb⟩ ⟨r % 4,Nat.mod_lt _ (by omega)⟩]
 simp only
 generalize b / 4 &&& 51=u1
 generalize b &&& 51=u2
 generalize r / 4 &&& rep 51 n=u3
 generalize r &&& rep 51 n=u4
 omega
theorem land15(x:Nat):x &&& 15=x % 16:=Nat.and_two_pow_sub_one_eq_mod x 4
theorem q3_step(n b r:Nat)(hb:b < 256)(h1:b / 16<=4)(h2:b % 16<=4)(hr:r % 16<=4):q3 (n+1) (b+256*r)=((b / 16+b) &&& 15)+256*q3 n r:=by
 have e:(b+256*r) / 16+(b+256*r)=(b / 16+16*(r % 16)+b)+256*(r / 16+r):=by omega
 show((b+256*r) / 16+(b+256*r)) &&& (15+256*rep 15 n)=((b / 16+b) &&& 15)+256*((r / 16+r) &&& rep 15 n)
 rw[e,land_split (by omega) (by decide),land15,land15]
 have:(b / 16+16*(r % 16)+b) % 16=(b / 16+b) % 16:=by omega
 rw[this]
def pops:Nat->Nat->Nat
 | 0,_=>0
 | n+1,x=>popB (x % 256)+256*pops n (x / 256)
theorem q12_low:∀ n x,q2 n (q1 n x) % 16<=4
 | 0,x=>by simp[q2,q1,rep]
 | n+1,x=>by
   have hb:x % 256 < 256:=Nat.mod_lt _ (by omega)
   obtain⟨h1,h2,h3,h4,_⟩:=byte12 ⟨x % 256,hb⟩
   simp only at h1 h2 h3 h4
   have e1:q1 (n+1) x % 256=f1 (x % 256):=by rw[q1_step];omega
   have e2:q1 (n+1) x / 256=q1 n (x / 256):=by rw[q1_step];omega
   rw[q2_step,e1,e2]
   omega
theorem q123:∀ n x,q3 n (q2 n (q1 n x))=pops n x
 | 0,x=>by simp[q3,rep,pops]
 | n+1,x=>by
   have hb:x % 256 < 256:=Nat.mod_lt _ (by omega)
   obtain⟨h1,h2,h3,h4,h5⟩:=byte12 ⟨x % 256,hb⟩
   simp only at h1 h2 h3 h4 h5
   have e1:q1 (n+1) x % 256=f1 (x % 256):=by rw[q1_step];omega
   have e2:q1 (n+1) x / 256=q1 n (x / 256):=by rw[q1_step];omega
   rw[q2_step,e1,e2,q3_step n _ _ h2 h3 h4 (q12_low n (x / 256)),h5,q123 n (x / 256),pops]
def cnt:Nat->Nat->Nat
 | 0,_=>0
 | n+1,x=>popB (x % 256)+cnt n (x / 256)
def r4(x:Nat):Nat:=x+x / 256
def r5(x:Nat):Nat:=x+x / 65536
def r6(x:Nat):Nat:=x+x / 4294967296
theorem div1{a X:Nat}(h:a < 256):(a+256*X) / 256=X:=by omega
theorem div2{a b X:Nat}(h:a < 256)(h':b < 256):(a+256*(b+256*X)) / 65536=X:=by omega
theorem div4{a b c d X:Nat}(h:a < 256)(h1:b < 256)(h2:c < 256)(h3:d < 256):(a+256*(b+256*(c+256*(d+256*X)))) / 4294967296=X:=by omega
theorem sum8(c0 c1 c2 c3 c4 c5 c6 c7:Nat)(h0:c0<=8)(h1:c1<=8)(h2:c2<=8)(h3:c3<=8)(h4:c4<=8)(h5:c5<=8)(h6:c6<=8)(h7:c7<=8) :
 r6 (r5 (r4 (c0+256*(c1+256*(c2+256*(c3+256*(c4+256*(c5+256*(c6+256*(c7+256*0)))))))))) % 128=c0+c1+c2+c3+c4+c5+c6+c7:=by
 have e4:r4 (c0+256*(c1+256*(c2+256*(c3+256*(c4+256*(c5+256*(c6+256*(c7+256*0))))))))=(c0+c1)+256*((c1+c2)+256*((c2+c3)+256*((c3+c4)+256*((c4+c5)+256*((c5+c6)+256*((c6+c7)+256*c7)))))):=by
  unfold r4
  rw[div1 (by omega)]
  simp only[Nat.mul_add,<-Nat.mul_assoc,Nat.reduceMul]
  omega
 rw[e4]
 generalize hd0:c0+c1=d0
 generalize hd1:c1+c2=d1
 generalize hd2:c2+c3=d2
 generalize hd3:c3+c4=d3
 generalize hd4:c4+c5=d4
 generalize hd5:c5+c6=d5
 generalize hd6:c6+c7=d6
 have k0:d0<=16:=by omega
 have k1:d1<=16:=by omega
 have k2:d2<=16:=by omega
 have k3:d3<=16:=by omega
 have k4:d4<=16:=by omega
 have k5:d5<=16:=by omega
 have k6:d6<=16:=by omega
 have hs:d0+c2+c3+c4+c5+c6+c7=d0+d2+(d4+d6):=by omega
 rw[hs]
 clear hd0 hd1 hd2 hd3 hd4 hd5 hd6 hs e4
 have e5:r5 (d0+256*(d1+256*(d2+256*(d3+256*(d4+256*(d5+256*(d6+256*c7)))))))=(d0+d2)+256*((d1+d3)+256*((d2+d4)+256*((d3+d5)+256*((d4+d6)+256*((d5+c7)+256*(d6+256*c7)))))):=by
  unfold r5
  rw[div2 (by omega) (by omega)]
  simp only[Nat.mul_add,<-Nat.mul_assoc,Nat.reduceMul]
  omega
 rw[e5]
 unfold r6
 rw[div4 (by omega) (by omega) (by omega) (by omega)]
 generalize (d5+c7)+256*(d6+256*c7)=X
 generalize (d1+d3)+256*((d2+d4)+256*((d3+d5)+256*((d4+d6)+256*X)))=Y
 omega
def onesN(x:Nat):Nat:=r6 (r5 (r4 (q3 8 (q2 8 (q1 8 x))))) % 128
theorem onesN_cnt(x:Nat):onesN x=cnt 8 x:=by
 unfold onesN
 rw[q123]
 have hp:∀ y:Nat,popB (y % 256)<=8:=fun y=>popB_le ⟨y % 256,Nat.mod_lt _ (by omega)⟩
 simp only[pops,cnt]
 rw[sum8 _ _ _ _ _ _ _ _ (hp _) (hp _) (hp _) (hp _) (hp _) (hp _) (hp _) (hp _)]
 omega
end Go.Proofs.YtjebhhoibofmfaaGreat
namespace Go.Proofs.YtjebhhoibofmfaaGreat
open Go.RowKit
theorem rep85:rep 85 8=6148914691236517205:=by decide +kernel
theorem rep51:rep 51 8=3689348814741910323:=by decide +kernel
theorem rep15:rep 15 8=1085102592571150095:=by decide +kernel
theorem cast_div(x k:Nat):((x:Int) / (k:Int))=((x / k:Nat):Int):=(Int.natCast_ediv x k).symm
theorem ones1{x:Nat}(hx:x < 18446744073709551616):IntKind.u64.wrap (bits .and .u64 ((x:Int) / 2) 6148914691236517205+bits .and .u64 (x:Int) 6148914691236517205)=((q1 8 x:Nat):Int)/\q1 8 x<=12297829382473034410:=by
 have h1:(x / 2) &&& 6148914691236517205<=6148914691236517205:=Nat.and_le_right
 have h2:x &&& 6148914691236517205<=6148914691236517205:=Nat.and_le_right
 have e:q1 8 x=((x / 2) &&& 6148914691236517205)+(x &&& 6148914691236517205):=by rw[q1,rep85]
 have b1:=bits_and (x:=x / 2) (y:=6148914691236517205) (by omega) (by decide)
 have b2:=bits_and (x:=x) (y:=6148914691236517205) hx (by decide)
 refine⟨?_,by rw[e];omega⟩
 rw[show((x:Int) / 2)=((x / 2:Nat):Int)from cast_div x 2]
 rw[show(6148914691236517205:Int)=((6148914691236517205:Nat):Int)from rfl,b1,b2,e]
 rw[<-Int.natCast_add]
 exact wrap_u64 (by omega)
theorem ones2{x:Nat}(hx:x < 18446744073709551616):IntKind.u64.wrap (bits .and .u64 ((x:Int) / 4) 3689348814741910323+bits .and .u64 (x:Int) 3689348814741910323)=((q2 8 x:Nat):Int)/\q2 8 x<=7378697629483820646:=by
 have h1:(x / 4) &&& 3689348814741910323<=3689348814741910323:=Nat.and_le_right
 have h2:x &&& 3689348814741910323<=3689348814741910323:=Nat.and_le_right
 have e:q2 8 x=((x / 4) &&& 3689348814741910323)+(x &&& 3689348814741910323):=by rw[q2,rep51]
 have b1:=bits_and (x:=x / 4) (y:=3689348814741910323) (by omega) (by decide)
 have b2:=bits_and (x:=x) (y:=3689348814741910323) hx (by decide)
 refine⟨?_,by rw[e];omega⟩
 rw[show((x:Int) / 4)=((x / 4:Nat):Int)from cast_div x 4]
 rw[show(3689348814741910323:Int)=((3689348814741910323:Nat):Int)from rfl,b1,b2,e]
 rw[<-Int.natCast_add]
 exact wrap_u64 (by omega)
theorem ones3{x:Nat}(hx:x<=7378697629483820646):bits .and .u64 (IntKind.u64.wrap ((x:Int) / 16+(x:Int))) 1085102592571150095=((q3 8 x:Nat):Int)/\q3 8 x<=1085102592571150095:=by
 have e:q3 8 x=(x / 16+x) &&& 1085102592571150095:=by rw[q3,rep15]
 have b1:=bits_and (x:=x / 16+x) (y:=1085102592571150095) (by omega) (by decide)
 refine⟨?_,by rw[e];exact Nat.and_le_right⟩
 rw[show((x:Int) / 16+(x:Int))=((x / 16+x:Nat):Int) by omega,wrap_u64 (by omega)]
 rw[show(1085102592571150095:Int)=((1085102592571150095:Nat):Int)from rfl,b1,e]
theorem ones4{x:Nat}(hx:x<=1085102592571150095):IntKind.u64.wrap ((x:Int)+(x:Int) / 256)=((r4 x:Nat):Int)/\r4 x<=1089341274573381150:=by
 refine⟨?_,by unfold r4;omega⟩
 rw[show((x:Int)+(x:Int) / 256)=((x+x / 256:Nat):Int) by omega,wrap_u64 (by omega)];rfl
theorem ones5{x:Nat}(hx:x<=1089341274573381150):IntKind.u64.wrap ((x:Int)+(x:Int) / 65536)=((r5 x:Nat):Int)/\r5 x<=1089357896623628586:=by
 refine⟨?_,by unfold r5;omega⟩
 rw[show((x:Int)+(x:Int) / 65536)=((x+x / 65536:Nat):Int) by omega,wrap_u64 (by omega)];rfl
theorem ones6{x:Nat}(hx:x<=1089357896623628586):IntKind.u64.wrap ((x:Int)+(x:Int) / 4294967296)=((r6 x:Nat):Int)/\r6 x<=1089357896877264492:=by
 refine⟨?_,by unfold r6;omega⟩
 rw[show((x:Int)+(x:Int) / 4294967296)=((x+x / 4294967296:Nat):Int) by omega,wrap_u64 (by omega)];rfl
set_option maxRecDepth 100000 in
set_option maxHeartbeats 1000000 in
theorem ones_any(x:Nat)(w:World)(hx:x < 18446744073709551616):Calls Tryz.prog 143 #[.int .u64 x] w fun e w'=>e=.returned (.int .i64 (onesN x:Nat))/\w'=w:=by
 obtain⟨e1,b1⟩:=ones1 hx
 obtain⟨e2,b2⟩:=ones2 (x:=q1 8 x) (by omega)
 obtain⟨e3,b3⟩:=ones3 b2
 obtain⟨e4,b4⟩:=ones4 b3
 obtain⟨e5,b5⟩:=ones5 b4
 obtain⟨e6,b6⟩:=ones6 b5
 have Ho:Hid (onesN x=r6 (r5 (r4 (q3 8 (q2 8 (q1 8 x))))) % 128):=rfl
 have e3':bits .and .u64 (((q2 8 (q1 8 x):Nat):Int) / 16+((q2 8 (q1 8 x):Nat):Int)) 1085102592571150095=((q3 8 (q2 8 (q1 8 x)):Nat):Int):=by
  rw[<-e3]
  congr 1
  rw[show(((q2 8 (q1 8 x):Nat):Int) / 16+((q2 8 (q1 8 x):Nat):Int))=((q2 8 (q1 8 x) / 16+q2 8 (q1 8 x):Nat):Int) by omega,wrap_u64 (by omega)]
 have e4':(((q3 8 (q2 8 (q1 8 x)):Nat):Int)+((q3 8 (q2 8 (q1 8 x)):Nat):Int) / 256)=((r4 (q3 8 (q2 8 (q1 8 x))):Nat):Int):=by unfold r4;omega
 have e5':(((r4 (q3 8 (q2 8 (q1 8 x))):Nat):Int)+((r4 (q3 8 (q2 8 (q1 8 x))):Nat):Int) / 65536)=((r5 (r4 (q3 8 (q2 8 (q1 8 x)))):Nat):Int):=by unfold r5;omega
 have e6':(((r5 (r4 (q3 8 (q2 8 (q1 8 x)))):Nat):Int)+((r5 (r4 (q3 8 (q2 8 (q1 8 x)))):Nat):Int) / 4294967296)=((r6 (r5 (r4 (q3 8 (q2 8 (q1 8 x))))):Nat):Int):=by unfold r6;omega
 generalize q1 8 x=x1 at *
 generalize q2 8 x1=x2 at *
 generalize q3 8 x2=x3 at *
 generalize r4 x3=x4 at *
 generalize r5 x4=x5 at *
 generalize r6 x5=x6 at *
 generalize onesN x=k at *
 have e7:bits .and .i64 (x6:Int) 127=((k:Nat):Int):=by
  rw[Ho.out]
  show IntKind.i64.wrap ((BitVec.ofInt 64 (x6:Int) &&& BitVec.ofInt 64 ((127:Nat):Int):BitVec 64).toNat:Int)=_
  rw[BitVec.toNat_and,bv_u64 (by omega),bv_u64 (by decide),show(127:Nat)=2 ^ 7 - 1 from rfl,Nat.and_two_pow_sub_one_eq_mod]
  simp[IntKind.wrap,IntKind.signed,IntKind.bits]
  omega
 go_enter Tryz.func143,Tryz.ntmps143
 go_wp2_with fail
 go_ret
 exact⟨rfl,rfl⟩
end Go.Proofs.YtjebhhoibofmfaaGreat
