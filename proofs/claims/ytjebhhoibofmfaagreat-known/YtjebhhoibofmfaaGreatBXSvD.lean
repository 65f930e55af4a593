import Derived.Test.YtjebhhoibofmfaaGreatBMSa
namespace Go.Proofs.YtjebhhoibofmfaaGreat
open Go.RowKit
set_option maxRecDepth 100000 in
set_option maxHeartbeats 400000 in
theorem count_any(E A:Nat)(w:World)(hE:E < 18446744073709551616)(hA:A < 18446744073709551616) :
 Calls Tryz.prog 136 #[.agg #[.int .u64 E,.int .u64 A]] w fun e w'=>e=.returned (.int .i64 ((onesN E+onesN A:Nat):Int))/\Below w.heap.size w w':=by
 have b1:onesN E < 128:=Nat.mod_lt _ (by omega)
 have b2:onesN A < 128:=Nat.mod_lt _ (by omega)
 go_enter Tryz.func136,Tryz.ntmps136
 go_upto_region 1 with fail
 obtain⟨W,hW⟩:∃ W,W=w.alloc (.cells #[.int .u64 E,.int .u64 A] 95):=⟨_,rfl⟩
 rw[<-hW]
 have hb:Below w.heap.size w W:=by rw[hW];exact(Below.refl _ _).alloc (Nat.le_refl _) _
 have c0:W.cell? ⟨w.heap.size,0,none⟩=some (.int .u64 E):=by rw[hW];simp
 have c1:W.cell? ⟨w.heap.size,1,none⟩=some (.int .u64 A):=by rw[hW];simp
 have hne:Nonempty (Up W):=⟨⟨W,Below.refl _ _⟩⟩
 have d0:∀ u:Up W,u.world.cell? ⟨w.heap.size,0,none⟩=some (.int .u64 E):=fun u=>u.cell c0
 have d1:∀ u:Up W,u.world.cell? ⟨w.heap.size,1,none⟩=some (.int .u64 A):=fun u=>u.cell c1
 have o1:∀(v:World),Calls Tryz.prog 143 #[.int .u64 E] v fun e w'=>e=.returned (.int .i64 (onesN E:Nat))/\Below v.heap.size v w':=fun v=>(ones_any E v hE).mono (by rintro e w' ⟨rfl,rfl⟩;exact⟨rfl,Below.refl _ _⟩)
 have o2:∀(v:World),Calls Tryz.prog 143 #[.int .u64 A] v fun e w'=>e=.returned (.int .i64 (onesN A:Nat))/\Below v.heap.size v w':=fun v=>(ones_any A v hA).mono (by rintro e w' ⟨rfl,rfl⟩;exact⟨rfl,Below.refl _ _⟩)
 have O1:=hide o1
 have O2:=hide o2
 generalize hk1:onesN E=k1 at *
 generalize hk2:onesN A=k2 at *
 have K1:=hide hk1
 have K2:=hide hk2
 clear hk1 hk2
 clear hW o1 o2
 refine wp_region_up (by kernel_rfl) (by kernel_rfl) ?_
 repeat (go_big_quiet_step (fail))
 go_big_quiet_step ((go_at_call 143; exact calls_up (O1.out _)))
 repeat (go_big_quiet_step (fail))
 go_big_quiet_step ((go_at_call 143; exact calls_up (O2.out _)))
 repeat (go_big_quiet_step (fail))
 refine wpQuiet_nil ?_
 intro _ hw'
 obtain⟨nq,hw''⟩:=hw'
 subst hw''
 clear d0 d1 hne
 go_wp2_with fail
 go_ret
 exact⟨ret_int (by rw[K1.out,K2.out];omega),hb.trans (nq.above.mono hb.size)⟩
def sumO(x:Nat):Nat->Nat->Nat
 | _,0=>0
 | o,k+1=>(x.testBit o).toNat+sumO x (o+1) k
theorem sumO_add(x:Nat):∀(a o b:Nat),sumO x o (a+b)=sumO x o a+sumO x (o+a) b
 | 0,o,b=>by simp[sumO]
 | a+1,o,b=>by
   rw[Nat.add_right_comm,sumO,sumO,sumO_add x a (o+1) b,show o+1+a=o+(a+1) by omega]
   omega
theorem sumO_zero{x:Nat}:∀ {k o:Nat},(∀ j,o<=j->x.testBit j=false)->sumO x o k=0
 | 0,_,_=>rfl
 | k+1,o,h=>by rw[sumO,h o (Nat.le_refl _),sumO_zero (fun j hj=>h j (by omega))];rfl
theorem bit_of(x o j:Nat)(hj:j < 8):(x / 2 ^ o % 256).testBit j=x.testBit (o+j):=by
 rw[show(256:Nat)=2 ^ 8 from rfl,Nat.testBit_mod_two_pow,Nat.testBit_div_two_pow]
 simp[hj,Nat.add_comm]
theorem cnt_sum(x:Nat):∀ n o,cnt n (x / 2 ^ o)=sumO x o (8*n)
 | 0,_=>rfl
 | n+1,o=>by
   have e:x / 2 ^ o / 256=x / 2 ^ (o+8):=by rw[Nat.div_div_eq_div_mul,show(256:Nat)=2 ^ 8 from rfl,<-Nat.pow_add]
   rw[cnt,e,cnt_sum x n (o+8),show 8*(n+1)=8+8*n by omega,sumO_add,popB]
   rw[bit_of x o 0 (by omega),bit_of x o 1 (by omega),bit_of x o 2 (by omega),bit_of x o 3 (by omega),bit_of x o 4 (by omega),bit_of x o 5 (by omega),bit_of x o 6 (by omega),bit_of x o 7 (by omega)]
   simp only[sumO,Nat.add_zero,Nat.add_assoc,Nat.reduceAdd]
theorem onesN_sum(x:Nat):onesN x=sumO x 0 64:=by
 rw[onesN_cnt]
 have:=cnt_sum x 8 0
 simpa using this
theorem onesN_low{p:Nat×Nat}(h:Low45 p):onesN p.1=sumO p.1 0 45/\onesN p.2=sumO p.2 0 45:=by
 refine⟨?_,?_⟩
 ·rw[onesN_sum,show(64:Nat)=45+19 from rfl,sumO_add,sumO_zero (o:=0+45) (fun j hj=>(h j (by omega)).1),Nat.add_zero]
 ·rw[onesN_sum,show(64:Nat)=45+19 from rfl,sumO_add,sumO_zero (o:=0+45) (fun j hj=>(h j (by omega)).2),Nat.add_zero]
def pairC(E A l g:Nat):Nat:=(E.testBit (tri l g)).toNat+(A.testBit (tri l g)).toNat
def rowC(E A l:Nat):Nat->Nat
 | 0=>0
 | k+1=>rowC E A l k+pairC E A l (l+k)
def allC(E A:Nat):Nat->Nat
 | 0=>0
 | n+1=>allC E A n+rowC E A n (9 - n)
theorem pairC_count(E A l g:Nat)(h:l<=g):(pairL l g).countP (hasS E A)=pairC E A l g:=by
 have e:ixN (l:Int) (g:Int)=tri l g:=by unfold ixN;simp only[Int.toNat_natCast];rw[Nat.min_eq_left h,Nat.max_eq_right h]
 unfold pairL pairC
 simp only[List.countP_cons,List.countP_nil,hasS,e]
 cases E.testBit (tri l g) <;> cases A.testBit (tri l g) <;> rfl
theorem rowC_count(E A l:Nat):∀ k,(rowL l k).countP (hasS E A)=rowC E A l k
 | 0=>rfl
 | k+1=>by rw[rowL,List.countP_append,rowC_count E A l k,pairC_count E A l (l+k) (by omega),rowC]
theorem allC_count(E A:Nat):∀ n,(allL n).countP (hasS E A)=allC E A n
 | 0=>rfl
 | n+1=>by rw[allL,List.countP_append,allC_count E A n,rowC_count,allC]
set_option maxRecDepth 100000 in
set_option maxHeartbeats 4000000 in
theorem allC_sum(E A:Nat):allC E A 9=sumO E 0 45+sumO A 0 45:=by
 simp only[allC,rowC,pairC,sumO,tri,Nat.reduceAdd,Nat.reduceMul,Nat.reduceDiv,Nat.reduceSub,Nat.zero_add,Nat.add_zero]
 omega
theorem count_len{p:Nat×Nat}(h:Low45 p):onesN p.1+onesN p.2=(inOrd p.1 p.2).length:=by
 rw[(onesN_low h).1,(onesN_low h).2,<-allC_sum,<-allC_count,inOrd,List.countP_eq_length_filter]
end Go.Proofs.YtjebhhoibofmfaaGreat
