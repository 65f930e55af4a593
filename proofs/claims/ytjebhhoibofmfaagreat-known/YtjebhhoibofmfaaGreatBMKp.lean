import Derived.Test.YtjebhhoibofmfaaGreatBMEq
import Derived.Deep.RegionLaw
import Derived.Deep.OwnRows
import Derived.Deep.CutBlock
namespace Go.Proofs.YtjebhhoibofmfaaGreat
open Go.RowKit
theorem mod_nat(x n:Int)(hn:1<=n):∃ r:Nat,(r:Int) < n/\x % n=r:=by
 have h1:=Int.emod_nonneg x (show n≠0 by omega)
 have h2:=Int.emod_lt_of_pos x (show 0 < n by omega)
 exact⟨(x % n).toNat,by omega,by omega⟩
set_option maxHeartbeats 400000 in
theorem pick_any(c n:Int)(w:World)(h1:-9223372036854775808<=c)(h2:c<=9223372036854775807)(hn:1<=n)(hn2:n<=1152921504606846976) :
 Calls Tryz.prog 13 #[.int .i64 c,.int .i64 n] w fun e w'=>∃ r:Nat,(r:Int) < n/\e=.returned (.int .i64 r)/\w'=w:=by
 have hz:(n == 0)=false:=by rw[beq_eq_false_iff_ne];omega
 by_cases h:c < 0
 ·go_enter Tryz.func13,Tryz.ntmps13
  go_wp2_with fail
  go_ret
  obtain⟨r,hr,e⟩:=mod_nat (-(c+1)) n hn
  exact⟨r,hr,ret_int (by rw[<-e,<-Int.neg_tmod,Int.tmod_eq_emod_of_nonneg (by omega)]),rfl⟩
 ·go_enter Tryz.func13,Tryz.ntmps13
  go_wp2_with fail
  go_ret
  obtain⟨r,hr,e⟩:=mod_nat c n hn
  exact⟨r,hr,ret_int e,rfl⟩
def IntsRow(w:World)(a:Option Addr)(xs:List Int):Prop:=
 xs=[]\/∃ b cur,a=some ⟨b,0,none⟩/\w.heap[b]?=some (.cells cur 3 (0,0))/\∀ i,i < xs.length->cur[i]?=some (.int .i64 (xs.getD i 0))
theorem IntsRow.at{w:World}{a:Option Addr}{xs:List Int}(h:IntsRow w a xs):IntsAt w a xs:=by
 rcases h with h | ⟨b,cur,rfl,hb,h⟩
 ·exact .inl h
 ·refine .inr ⟨b,0,rfl,fun i hi=>?_⟩
  rw[Nat.zero_add,cell_of_row w b i cur 3 (0,0) hb]
  exact h i hi
theorem IntsRow.grown{w w':World}{row:Option Nat}{a:Option Addr}{xs:List Int}(h:IntsRow w a xs)(hg:w.grownBy w' row)
 (hr:∀ g,row=some g->∃ cur e,w.heap[g]?=some (.cells cur e (0,0))/\e≠3):IntsRow w' a xs:=by
 rcases h with h | ⟨b,cur,rfl,hb,h⟩
 ·exact .inl h
 ·refine .inr ⟨b,cur,rfl,?_,h⟩
  rw[hg.block b (Array.getElem?_eq_some_iff.1 hb).1 (fun e=>?_)]
  ·exact hb
  ·obtain⟨cur',e',h1,h2⟩:=hr b e.symm
   rw[hb]at h1
   injection h1 with h1
   injection h1 with _ h1
   exact h2 h1.symm
def tmCells(t:Tm):List Value:=[.int .i64 t.sym,.slice t.a t.args.length t.cap]
def tsCells(ts:List Tm):List Value:=ts.flatMap tmCells
theorem tsCells_length(ts:List Tm):(tsCells ts).length=ts.length*2:=by
 induction ts with
 | nil=>rfl
 | cons t ts ih=>simp only[tsCells,List.flatMap_cons,List.length_append,tmCells,List.length_cons,List.length_nil]at *; omega
theorem tsCells_get(ts:List Tm):∀ i,i < ts.length->(tsCells ts)[i*2]?=some (.int .i64 (ts.getD i tm0).sym) /\
 (tsCells ts)[i*2+1]?=some (.slice (ts.getD i tm0).a (ts.getD i tm0).args.length (ts.getD i tm0).cap):=by
 induction ts with
 | nil=>intro i hi;simp at hi
 | cons t ts ih=>
   intro i hi
   cases i with
   | zero=>exact⟨rfl,rfl⟩
   | succ i=>
     have:=ih i (by simpa using hi)
     have e1:(i+1)*2=i*2+2:=by omega
     have hc:tsCells (t :: ts)=.int .i64 t.sym :: .slice t.a t.args.length t.cap :: tsCells ts:=rfl
     rw[e1,hc]
     simpa using this
theorem termsAt_of_own{w:World}{base:Nat}{v:Value}{ts:List Tm}(h:w.ownsRow base 52 2 v ts.length (tsCells ts))(ha:∀ i,i < ts.length->IntsAt w (ts.getD i tm0).a (ts.getD i tm0).args) :
 ∃ a cap,v=.slice a ts.length cap/\TermsAt w a ts:=by
 rcases h.2 with⟨rfl,hn⟩ | ⟨g,cap,cur,rfl,hb,hg,h1,h2,h3,h4⟩
 ·exact⟨none,0,by rw[hn],.inl (List.length_eq_zero_iff.1 hn)⟩
 ·refine⟨_,cap,rfl,.inr ⟨g,0,rfl,fun i hi=>?_⟩⟩
  have hc:=tsCells_get ts i hi
  rw[<-h4,List.getElem?_take,List.getElem?_take]at hc
  rw[if_pos (by omega),if_pos (by omega)]at hc
  refine⟨?_,?_,ha i hi⟩
  ·rw[Nat.zero_add,cell_of_row w g _ cur 52 (0,0) hg];simpa using hc.1
  ·rw[Nat.zero_add,cell_of_row w g _ cur 52 (0,0) hg];simpa using hc.2
theorem tsCells_snoc(ts:List Tm)(t:Tm):tsCells (ts++[t])=tsCells ts++tmCells t:=by simp[tsCells]
end Go.Proofs.YtjebhhoibofmfaaGreat
namespace Go.Proofs.YtjebhhoibofmfaaGreat
open Go.RowKit
theorem info_term:(Tryz.prog.info? 52).map (fun i=>(i.zero,i.size,i.bytes))=some (some (.agg #[.int .i64 0,.slice none 0 0]),2,32):=by kernel_rfl
def First4(ts:List Tm):Prop:=4<=ts.length/\((ts.getD 0 tm0).sym=0/\(ts.getD 0 tm0).args=[])/\((ts.getD 1 tm0).sym=1/\(ts.getD 1 tm0).args=[]) /\
 ((ts.getD 2 tm0).sym=2/\(ts.getD 2 tm0).args=[0])/\(ts.getD 3 tm0).sym=2/\(ts.getD 3 tm0).args=[1]
def KT(w wr:World)(v:Value)(ts:List Tm):Prop:=
 wr.ownsRow w.heap.size 52 2 v ts.length (tsCells ts)/\(∀ i,i < ts.length->IntsRow wr (ts.getD i tm0).a (ts.getD i tm0).args)/\termsB ts=true/\First4 ts/\Below w.heap.size w wr
theorem getD_snoc_lt{α:Type}(ts:List α)(t d:α){i:Nat}(h:i < ts.length):(ts++[t]).getD i d=ts.getD i d:=by
 simp[List.getElem?_append_left h]
theorem getD_snoc_eq{α:Type}(ts:List α)(t d:α):(ts++[t]).getD ts.length d=t:=by simp
theorem termsB_snoc{ts:List Tm}{t:Tm}(h:termsB ts=true)(h8:ts.length<=8)(ht:termB ts.length t=true):termsB (ts++[t])=true:=by
 have h1:=len_of h
 refine termsB_yes (by simp) (by simp;omega) ?_
 intro k hk
 simp only[List.length_append,List.length_cons,List.length_nil]at hk
 by_cases hkl:k < ts.length
 ·rw[getD_snoc_lt _ _ _ hkl]
  simp only[termsB,Bool.and_eq_true]at h
  exact allB_iff.1 h.2 k hkl
 ·have:k=ts.length:=by omega
  subst this
  rw[getD_snoc_eq]
  exact ht
theorem First4.snoc{ts:List Tm}{t:Tm}(h:First4 ts):First4 (ts++[t]):=by
 obtain⟨h0,h1⟩:=h
 refine⟨by simp;omega,?_⟩
 rw[getD_snoc_lt _ _ _ (by omega),getD_snoc_lt _ _ _ (by omega),getD_snoc_lt _ _ _ (by omega),getD_snoc_lt _ _ _ (by omega)]
 exact h1
theorem KT.step{w wr w1 w':World}{v v':Value}{ts:List Tm}{t:Tm}(h:KT w wr v ts)(hb:Below wr.heap.size wr w1)(h8:ts.length<=8)(ht:termB ts.length t=true)(hr:IntsRow w1 t.a t.args)
 (hown:w'.ownsRow w.heap.size 52 2 v' (ts.length+1) (tsCells ts++tmCells t)) (hg:w1.grownBy w' v.ownBlock):KT w w' v' (ts++[t]):=by
 obtain⟨h1,h2,h3,h4,h5⟩:=h
 have hrow:∀ g,v.ownBlock=some g->∃ cur e,w1.heap[g]?=some (.cells cur e (0,0))/\e≠3:=by
  intro g hg'
  rcases h1.2 with⟨rfl,_⟩ | ⟨g',cap,cur,rfl,hb',hgg,_⟩
  ·simp[Value.ownBlock]at hg'
  ·simp[Value.ownBlock]at hg'
   subst hg'
   exact⟨cur,_,by rw[hb.block _ (Array.getElem?_eq_some_iff.1 hgg).1];exact hgg,by decide⟩
 have hup:∀ {a xs},IntsRow wr a xs->IntsRow w1 a xs:=by
  intro a xs hx
  rcases hx with hx | ⟨b,cur,rfl,hbb,hx⟩
  ·exact .inl hx
  ·exact .inr ⟨b,cur,rfl,by rw[hb.block _ (Array.getElem?_eq_some_iff.1 hbb).1];exact hbb,hx⟩
 refine⟨by rw[tsCells_snoc];simpa using hown,?_,termsB_snoc h3 h8 ht,h4.snoc,?_⟩
 ·intro i hi
  simp only[List.length_append,List.length_cons,List.length_nil]at hi
  by_cases hil:i < ts.length
  ·rw[getD_snoc_lt _ _ _ hil]
   exact(hup (h2 i hil)).grown hg hrow
  ·have:i=ts.length:=by omega
   subst this
   rw[getD_snoc_eq]
   exact hr.grown hg hrow
 ·refine(h5.trans (hb.mono h5.size)).grown hg (Nat.le_trans h5.size hb.size) ?_
  intro k hk
  exact(h1.lt k hk).1
theorem heap_at_new(w:World)(o:Obj)(n:Nat)(h:n=w.heap.size):(w.alloc o).heap[n]?=some o:=by
 subst h
 show(w.heap.push o)[w.heap.size]?=_
 simp
theorem heap_at_old(w:World)(o:Obj){n:Nat}{x:Obj}(h:w.heap[n]?=some x):(w.alloc o).heap[n]?=some x:=by
 have:=(Array.getElem?_eq_some_iff.1 h).1
 show(w.heap.push o)[n]?=_
 rw[Array.getElem?_push,if_neg (by omega)]
 exact h
theorem KT.start(w:World):KT w (((w.alloc (.cells #[.int .i64 0] 3)).alloc (.cells #[.int .i64 1] 3)).alloc
 (.cells #[.int .i64 0,.slice none 0 0,.int .i64 1,.slice none 0 0,.int .i64 2,.slice (some ⟨w.heap.size,0,none⟩) 1 1,.int .i64 2,.slice (some ⟨w.heap.size+1,0,none⟩) 1 1] 52))
 (.slice (some ⟨w.heap.size+1+1,0,none⟩) 4 4)
 [⟨0,none,0,[]⟩,⟨1,none,0,[]⟩,⟨2,some ⟨w.heap.size,0,none⟩,1,[0]⟩,⟨2,some ⟨w.heap.size+1,0,none⟩,1,[1]⟩]:=by
 refine⟨⟨rfl,.inr ⟨w.heap.size+1+1,4,_,rfl,by omega,heap_at_new _ _ _ (by simp),(by show 4<=4;omega),(by show 4<=9223372036854775807;omega),rfl,rfl⟩⟩,?_,rfl,⟨(by show 4<=4;omega),⟨rfl,rfl⟩,⟨rfl,rfl⟩,⟨rfl,rfl⟩,rfl,rfl⟩,?_⟩
 ·intro i hi
  match i,hi with
  | 0,_=>exact .inl rfl
  | 1,_=>exact .inl rfl
  | 2,_=>exact .inr ⟨w.heap.size,#[.int .i64 0],rfl,heap_at_old _ _ (heap_at_old _ _ (heap_at_new _ _ _ rfl)),fun i hi=>by simp at hi;subst hi;rfl⟩
  | 3,_=>exact .inr ⟨w.heap.size+1,#[.int .i64 1],rfl,heap_at_old _ _ (heap_at_new _ _ _ (by simp)),fun i hi=>by simp at hi;subst hi;rfl⟩
  | n+4,hi=>exact absurd hi (by simp)
 ·exact(((Below.refl _ _).alloc (Nat.le_refl _) _).alloc (by simp) _).alloc (by simp;omega) _
theorem termB_nil{n s:Int}{a:Option Addr}{cap:Nat}(h0:0<=s)(h1:s < 10):termB n ⟨s,a,cap,[]⟩=true:=
 termB_yes (belowB_iff.2 ⟨h0,h1⟩) (by simp) (fun k hk=>by simp at hk)
theorem termB_one{n s x:Int}{a:Option Addr}{cap:Nat}(h0:0<=s)(h1:s < 10)(hx:0<=x)(hx':x < n):termB n ⟨s,a,cap,[x]⟩=true:=
 termB_yes (belowB_iff.2 ⟨h0,h1⟩) (by simp) (fun k hk=>by simp at hk;subst hk;exact belowB_iff.2 ⟨hx,hx'⟩)
theorem termB_two{n s x y:Int}{a:Option Addr}{cap:Nat}(h0:0<=s)(h1:s < 10)(hx:0<=x)(hx':x < n)(hy:0<=y)(hy':y < n):termB n ⟨s,a,cap,[x,y]⟩=true:=
 termB_yes (belowB_iff.2 ⟨h0,h1⟩) (by simp) (fun k hk=>by
  match k,hk with
  | 0,_=>exact belowB_iff.2 ⟨hx,hx'⟩
  | 1,_=>exact belowB_iff.2 ⟨hy,hy'⟩
  | k+2,hk=>exact absurd hk (by simp))
theorem KT.val{w wr:World}{v:Value}{ts:List Tm}(h:KT w wr v ts):∃ a cap,v=.slice a ts.length cap:=by
 rcases h.1.2 with⟨rfl,h2⟩ | ⟨g,cap,cur,rfl,_⟩
 ·exact⟨none,0,by rw[h2]⟩
 ·exact⟨_,_,rfl⟩
theorem KT.below{w wr:World}{v:Value}{ts:List Tm}(h:KT w wr v ts):Below w.heap.size w wr:=h.2.2.2.2
theorem KT.done{w wr:World}{v:Value}{ts:List Tm}(h:KT w wr v ts)(h7:ts.length<=7) :
 ∃ a cap ts,Ending.returned v=.returned (.slice a ts.length cap)/\TermsAt wr a ts/\termsB ts=true/\First4 ts/\ts.length<=7/\Below w.heap.size w wr:=by
 obtain⟨h1,h2,h3,h4,h5⟩:=h
 obtain⟨a,cap,rfl,ht⟩:=termsAt_of_own h1 (fun i hi=>(h2 i hi).at)
 exact⟨a,cap,ts,rfl,ht,h3,h4,h7,h5⟩
set_option maxRecDepth 100000 in
set_option maxHeartbeats 400000 in
theorem kterms_any(ra:Option Addr)(rc:Nat)(rs:List Int)(w:World)(hr:IntsAt w ra rs)(hwf:∀ i,i < rs.length->-9223372036854775808<=rs.getD i 0/\rs.getD i 0<=9223372036854775807) :
 Calls Tryz.prog 21 #[.slice ra rs.length rc] w fun e w'=>∃ a cap ts,e=.returned (.slice a ts.length cap)/\TermsAt w' a ts/\termsB ts=true/\First4 ts/\ts.length<=7/\Below w.heap.size w w':=by
 obtain⟨i0,hi0,hz0,hz1,hz2⟩:=info_parts info_term
 go_enter Tryz.func21,Tryz.ntmps21
 go_wp2_with fail
 go_loopg [3,4] 3 (fun g v s wr=>∃(i:Nat) (ts:List Tm),g=3 - i/\i<=3/\s=.int .i64 i/\ts.length=4+i/\KT w wr v ts)
 case atStart=>exact⟨0,_,rfl,by omega,rfl,rfl,KT.start w⟩
 case round=>
  obtain⟨i,ts,rfl,hi,rfl,hn,hK⟩:=hrel
  have Hn:=hide hn
  clear hn
  by_cases hlt:i < rs.length/\i < 3
  ·obtain⟨hlt,hi3⟩:=hlt
   obtain⟨rb,ro,rfl,rcell⟩:=(hr.below hK.below).get hlt
   have r1:=rcell i hlt
   obtain⟨w1,w2⟩:=hwf i hlt
   generalize rs.getD i 0=x at *
   clear rcell
   obtain⟨va,vc,rfl⟩:=hK.val
   have hn4:4<=ts.length:=by have:=Hn.out;omega
   have hn7:ts.length<=6:=by have:=Hn.out;omega
   go_wp2_with fail
   refine(pick_any x 1099511627776 _ w1 w2 (by omega) (by omega)).mono ?_
   rintro e w' ⟨r,hr1,rfl,rfl⟩
   obtain⟨A,hA,eA⟩:=mod_nat ((r:Int) / 8) ts.length (by omega)
   obtain⟨B,hB,eB⟩:=mod_nat ((r:Int) / 128) ts.length (by omega)
   obtain⟨m,hm,em⟩:=mod_nat (r:Int) 5 (by omega)
   have hnz:((ts.length:Int) == 0)=false:=by rw[beq_eq_false_iff_ne];omega
   go_upto_region 9 with fail
   rw[eA,eB,em]
   clear eA eB em hr1
   have hown:=hK.1
   rcases(show m=0\/m=1\/m=2\/m=3\/m=4 by omega)with rfl | rfl | rfl | rfl | rfl
   ·go_wp2_with (at_builtin;refine wpList_append_own _ rfl _ _ 22 rfl w.heap.size 52 i0 (.agg #[.int .i64 0,.slice none 0 0]) 2 32 Tryz.underlying22 hi0 hz0 hz1 hz2 rfl (by decide) _ _ _ rfl (hown.alloc _) ⟨w'.heap.size,0,none⟩ 1 1 (tmCells ⟨3+i,none,0,[]⟩) rfl rfl ?c1 ?c2 ?c3 ?c4 ?c5 ?_)
    case c1=>
     intro j u hj
     match j,hj with
     | 0,hj=>simp[tmCells]at hj;subst hj;simp[Addr.add]
     | 1,hj=>simp[tmCells]at hj;subst hj;simp[Addr.add]
     | j+2,hj=>simp[tmCells]at hj
    case c2=>intro u hu;simp[tmCells]at hu;rcases hu with rfl | rfl <;> rfl
    case c3=>unfold maxLen;omega
    case c4=>omega
    case c5=>have:=hK.below.size;simp;omega
    intro v' w2 hown' hgrow _
    go_wp2_with fail
    go_roundg (3 - (i+1))
    case measure=>omega
    case rel=>exact⟨i+1,ts++[⟨3+i,none,0,[]⟩],rfl,by omega,by go_num,by have:=Hn.out;simp;omega,hK.step ((Below.refl _ _).alloc (Nat.le_refl _) _) (by omega) (termB_nil (by omega) (by omega)) (.inl rfl) hown' hgrow⟩
   ·go_wp2_with (at_builtin;refine wpList_append_own _ rfl _ _ 22 rfl w.heap.size 52 i0 (.agg #[.int .i64 0,.slice none 0 0]) 2 32 Tryz.underlying22 hi0 hz0 hz1 hz2 rfl (by decide) _ _ _ rfl ((hown.alloc _).alloc _) ⟨w'.heap.size+1,0,none⟩ 1 1 (tmCells ⟨2,some ⟨w'.heap.size,0,none⟩,1,[(A:Int)]⟩) rfl rfl ?c1 ?c2 ?c3 ?c4 ?c5 ?_)
    case c1=>
     intro j u hj
     match j,hj with
     | 0,hj=>simp[tmCells]at hj;subst hj;simp[Addr.add]
     | 1,hj=>simp[tmCells]at hj;subst hj;simp[Addr.add]
     | j+2,hj=>simp[tmCells]at hj
    case c2=>intro u hu;simp[tmCells]at hu;rcases hu with rfl | rfl <;> rfl
    case c3=>unfold maxLen;omega
    case c4=>omega
    case c5=>have:=hK.below.size;simp;omega
    intro v' w2 hown' hgrow _
    go_wp2_with fail
    go_roundg (3 - (i+1))
    case measure=>omega
    case rel=>exact⟨i+1,ts++[⟨2,some ⟨w'.heap.size,0,none⟩,1,[(A:Int)]⟩],rfl,by omega,by go_num,by have:=Hn.out;simp;omega,hK.step (((Below.refl _ _).alloc (Nat.le_refl _) _).alloc (by simp) _) (by omega) (termB_one (by omega) (by omega) (by omega) (by omega)) (.inr ⟨w'.heap.size,#[.int .i64 A],rfl,heap_at_old _ _ (heap_at_new _ _ _ rfl),fun i hi=>by simp at hi;subst hi;rfl⟩) hown' hgrow⟩
   ·go_wp2_with (at_builtin;refine wpList_append_own _ rfl _ _ 22 rfl w.heap.size 52 i0 (.agg #[.int .i64 0,.slice none 0 0]) 2 32 Tryz.underlying22 hi0 hz0 hz1 hz2 rfl (by decide) _ _ _ rfl ((hown.alloc _).alloc _) ⟨w'.heap.size+1,0,none⟩ 1 1 (tmCells ⟨2,some ⟨w'.heap.size,0,none⟩,1,[(A:Int)]⟩) rfl rfl ?c1 ?c2 ?c3 ?c4 ?c5 ?_)
    case c1=>
     intro j u hj
     match j,hj with
     | 0,hj=>simp[tmCells]at hj;subst hj;simp[Addr.add]
     | 1,hj=>simp[tmCells]at hj;subst hj;simp[Addr.add]
     | j+2,hj=>simp[tmCells]at hj
    case c2=>intro u hu;simp[tmCells]at hu;rcases hu with rfl | rfl <;> rfl
    case c3=>unfold maxLen;omega
    case c4=>omega
    case c5=>have:=hK.below.size;simp;omega
    intro v' w2 hown' hgrow _
    go_wp2_with fail
    go_roundg (3 - (i+1))
    case measure=>omega
    case rel=>exact⟨i+1,ts++[⟨2,some ⟨w'.heap.size,0,none⟩,1,[(A:Int)]⟩],rfl,by omega,by go_num,by have:=Hn.out;simp;omega,hK.step (((Below.refl _ _).alloc (Nat.le_refl _) _).alloc (by simp) _) (by omega) (termB_one (by omega) (by omega) (by omega) (by omega)) (.inr ⟨w'.heap.size,#[.int .i64 A],rfl,heap_at_old _ _ (heap_at_new _ _ _ rfl),fun i hi=>by simp at hi;subst hi;rfl⟩) hown' hgrow⟩
   ·go_wp2_with (at_builtin;refine wpList_append_own _ rfl _ _ 22 rfl w.heap.size 52 i0 (.agg #[.int .i64 0,.slice none 0 0]) 2 32 Tryz.underlying22 hi0 hz0 hz1 hz2 rfl (by decide) _ _ _ rfl ((hown.alloc _).alloc _) ⟨w'.heap.size+1,0,none⟩ 1 1 (tmCells ⟨2,some ⟨w'.heap.size,0,none⟩,2,[(A:Int),(B:Int)]⟩) rfl rfl ?c1 ?c2 ?c3 ?c4 ?c5 ?_)
    case c1=>
     intro j u hj
     match j,hj with
     | 0,hj=>simp[tmCells]at hj;subst hj;simp[Addr.add]
     | 1,hj=>simp[tmCells]at hj;subst hj;simp[Addr.add]
     | j+2,hj=>simp[tmCells]at hj
    case c2=>intro u hu;simp[tmCells]at hu;rcases hu with rfl | rfl <;> rfl
    case c3=>unfold maxLen;omega
    case c4=>omega
    case c5=>have:=hK.below.size;simp;omega
    intro v' w2 hown' hgrow _
    go_wp2_with fail
    go_roundg (3 - (i+1))
    case measure=>omega
    case rel=>exact⟨i+1,ts++[⟨2,some ⟨w'.heap.size,0,none⟩,2,[(A:Int),(B:Int)]⟩],rfl,by omega,by go_num,by have:=Hn.out;simp;omega,hK.step (((Below.refl _ _).alloc (Nat.le_refl _) _).alloc (by simp) _) (by omega) (termB_two (by omega) (by omega) (by omega) (by omega) (by omega) (by omega)) (.inr ⟨w'.heap.size,#[.int .i64 A,.int .i64 B],rfl,heap_at_old _ _ (heap_at_new _ _ _ rfl),fun i hi=>by rcases(show i=0\/i=1 by simp at hi;omega)with rfl | rfl <;> rfl⟩) hown' hgrow⟩
   ·go_wp2_with (at_builtin;refine wpList_append_own _ rfl _ _ 22 rfl w.heap.size 52 i0 (.agg #[.int .i64 0,.slice none 0 0]) 2 32 Tryz.underlying22 hi0 hz0 hz1 hz2 rfl (by decide) _ _ _ rfl ((hown.alloc _).alloc _) ⟨w'.heap.size+1,0,none⟩ 1 1 (tmCells ⟨7,some ⟨w'.heap.size,0,none⟩,2,[(A:Int),(B:Int)]⟩) rfl rfl ?c1 ?c2 ?c3 ?c4 ?c5 ?_)
    case c1=>
     intro j u hj
     match j,hj with
     | 0,hj=>simp[tmCells]at hj;subst hj;simp[Addr.add]
     | 1,hj=>simp[tmCells]at hj;subst hj;simp[Addr.add]
     | j+2,hj=>simp[tmCells]at hj
    case c2=>intro u hu;simp[tmCells]at hu;rcases hu with rfl | rfl <;> rfl
    case c3=>unfold maxLen;omega
    case c4=>omega
    case c5=>have:=hK.below.size;simp;omega
    intro v' w2 hown' hgrow _
    go_wp2_with fail
    go_roundg (3 - (i+1))
    case measure=>omega
    case rel=>exact⟨i+1,ts++[⟨7,some ⟨w'.heap.size,0,none⟩,2,[(A:Int),(B:Int)]⟩],rfl,by omega,by go_num,by have:=Hn.out;simp;omega,hK.step (((Below.refl _ _).alloc (Nat.le_refl _) _).alloc (by simp) _) (by omega) (termB_two (by omega) (by omega) (by omega) (by omega) (by omega) (by omega)) (.inr ⟨w'.heap.size,#[.int .i64 A,.int .i64 B],rfl,heap_at_old _ _ (heap_at_new _ _ _ rfl),fun i hi=>by rcases(show i=0\/i=1 by simp at hi;omega)with rfl | rfl <;> rfl⟩) hown' hgrow⟩
  ·have Hlt:=hide hlt
   clear hlt
   by_cases hlt:i < rs.length
   ·have h3:¬ i < 3:=fun h=>Hlt.out ⟨hlt,h⟩
    go_wp2_with fail
    go_ret
    exact KT.done hK (by have:=Hn.out;omega)
   ·go_wp2_with fail
    go_ret
    exact KT.done hK (by have:=Hn.out;omega)
end Go.Proofs.YtjebhhoibofmfaaGreat
namespace Go.Proofs.YtjebhhoibofmfaaGreat
open Go.RowKit
theorem step_append_own{P:Program}{ops:Array Oper}{o:Oper}{a:Act}{w:World}{K:Act->World->Prop}{Q:Exit->Act->World->Prop}{E:Prop}
 (hgd:o.guard=none) (s x:Operand) (t:TypeId) (ho:o.op=.call { callee:=.builtin .append,args:=#[s,x],argTypes:=#[t,t] })
 (base:Nat) (e:TypeId) (i:TypeInfo) (z:Value) (size bytes:Nat) (ht:P.underlying t=some (.slice e)) (hi:P.info? e=some i) (hz:i.zero=some z)
 (hsize:i.size=size) (hby:i.bytes=bytes) (hzs:z.cells.size=size) (hsz:0 < size)
 (v:Value) (n:Nat) (xs:List Value) (hs:a.eval s=v) (hown:w.ownsRow base e size v n xs)
 (ad:Addr) (m c:Nat) (news:List Value) (hx:a.eval x=.slice (some ad) m c) (hl:news.length=m*size) (hnews:∀ j u,news[j]?=some u->w.cell? (ad.add j)=some u) (h1:∀ u∈news,u.oneCell'=true)
 (h63:n+m<=maxLen) (hbytes:(n+m)*bytes<=140737488355328) (hbase:base<=w.heap.size)
 (h:∀ v' w',w'.ownsRow base e size v' (n+m) (xs++news)->w.grownBy w' v.ownBlock->K (a.put o.dst v') w') :
 if Region.wanted o (yielded ops a.tmps)=true then Oper.wp P o a w K Q else E:=by
 have hw:Region.wanted o (yielded ops a.tmps)=true:=by simp[Region.wanted,hgd]
 rw[if_pos hw]
 obtain⟨v',w',hrun,r1,r2,_⟩:=run_append_own (P:=P) w base t o.type e i z size bytes ht hi hz hsize hby hzs hsz v n xs hown ad m c news hl hnews h1 h63 hbytes hbase
 unfold Oper.wp
 simp[execOp,ho,resolve,invoke,builtin,hs,hx,hrun,Result.andThen]
 exact h v' w' r1 r2
theorem own_apart{w w':World}{base:Nat}{e:TypeId}{size:Nat}{v:Value}{n:Nat}{xs:List Value}{row:Option Nat}(h:w.ownsRow base e size v n xs)(hg:w.grownBy w' row)
 (hr:∀ g,row=some g->∃ cur e',w.heap[g]?=some (.cells cur e' (0,0))/\e'≠e):w'.ownsRow base e size v n xs:=by
 refine h.kept hg ?_
 rcases h.2 with⟨rfl,_⟩ | ⟨g,cap,cur,rfl,hb,hgg,_⟩
 ·exact .inl rfl
 ·refine .inr (fun e1=>?_)
  obtain⟨cur',e',h1,h2⟩:=hr g e1.symm
  rw[hgg]at h1
  injection h1 with h1
  injection h1 with _ h1
  exact h2 h1.symm
theorem own_type{w:World}{base:Nat}{e:TypeId}{size:Nat}{v:Value}{n:Nat}{xs:List Value}(h:w.ownsRow base e size v n xs){e0:TypeId}(hne:e≠e0) :
 ∀ g,v.ownBlock=some g->∃ cur e',w.heap[g]?=some (.cells cur e' (0,0))/\e'≠e0:=by
 intro g hg
 rcases h.2 with⟨rfl,_⟩ | ⟨g',cap,cur,rfl,hb,hgg,_⟩
 ·simp[Value.ownBlock]at hg
 ·simp[Value.ownBlock]at hg
  subst hg
  exact⟨cur,e,hgg,hne⟩
theorem own_below{w w':World}{base:Nat}{e:TypeId}{size:Nat}{v:Value}{n:Nat}{xs:List Value}(h:w.ownsRow base e size v n xs)(hb:Below w.heap.size w w'):w'.ownsRow base e size v n xs:=by
 refine⟨h.1,?_⟩
 rcases h.2 with h2 | ⟨g,cap,cur,hv,hg,hh,r⟩
 ·exact Or.inl h2
 ·exact Or.inr ⟨g,cap,cur,hv,hg,by rw[hb.block _ (Array.getElem?_eq_some_iff.1 hh).1];exact hh,r⟩
theorem own_val{w:World}{base:Nat}{e:TypeId}{size:Nat}{v:Value}{n:Nat}{xs:List Value}(h:w.ownsRow base e size v n xs):∃ a cap,v=.slice a n cap:=by
 rcases h.2 with⟨rfl,h2⟩ | ⟨g,cap,cur,rfl,_⟩
 ·exact⟨none,0,by rw[h2]⟩
 ·exact⟨_,_,rfl⟩
theorem own_setCell{w:World}{base:Nat}{e:TypeId}{size:Nat}{v:Value}{n:Nat}{xs:List Value}(h:w.ownsRow base e size v n xs){p:Addr}(hp:p.block < base)(u:Value):(w.setCell p u).ownsRow base e size v n xs:=
 ownsRow_setCell_below h hp u
def ltCells(l:Lt):List Value:=[.int .i64 l.x,.int .i64 l.y,.bool l.n]
def lsCells(ls:List Lt):List Value:=ls.flatMap ltCells
def clVal(q:Cl):Value:=.slice q.a q.ls.length q.cap
def csCells(cs:List Cl):List Value:=cs.map clVal
theorem lsCells_snoc(ls:List Lt)(l:Lt):lsCells (ls++[l])=lsCells ls++ltCells l:=by simp[lsCells]
theorem csCells_snoc(cs:List Cl)(q:Cl):csCells (cs++[q])=csCells cs++[clVal q]:=by simp[csCells]
theorem lsCells_length(ls:List Lt):(lsCells ls).length=ls.length*3:=by
 induction ls with
 | nil=>rfl
 | cons t ts ih=>simp only[lsCells,List.flatMap_cons,List.length_append,ltCells,List.length_cons,List.length_nil]at *; omega
theorem lsCells_get(ls:List Lt):∀ i,i < ls.length->(lsCells ls)[i*3]?=some (.int .i64 (ls.getD i lt0).x)/\(lsCells ls)[i*3+1]?=some (.int .i64 (ls.getD i lt0).y)/\(lsCells ls)[i*3+2]?=some (.bool (ls.getD i lt0).n):=by
 induction ls with
 | nil=>intro i hi;simp at hi
 | cons t ts ih=>
   intro i hi
   cases i with
   | zero=>exact⟨rfl,rfl,rfl⟩
   | succ i=>
     have:=ih i (by simpa using hi)
     have e1:(i+1)*3=i*3+3:=by omega
     have hc:lsCells (t :: ts)=.int .i64 t.x :: .int .i64 t.y :: .bool t.n :: lsCells ts:=rfl
     rw[e1,hc]
     simpa using this
theorem litsAt_of_own{w:World}{base:Nat}{a:Option Addr}{cap:Nat}{ls:List Lt}(h:w.ownsRow base 60 3 (.slice a ls.length cap) ls.length (lsCells ls)):LitsAt w a ls:=by
 rcases h.2 with⟨_,hn⟩ | ⟨g,cap,cur,hv,hb,hg,h1,h2,h3,h4⟩
 ·exact .inl (List.length_eq_zero_iff.1 hn)
 ·injection hv with hv _ _
  subst hv
  refine .inr ⟨g,0,rfl,fun i hi=>?_⟩
  have hc:=lsCells_get ls i hi
  rw[<-h4,List.getElem?_take,List.getElem?_take,List.getElem?_take]at hc
  rw[if_pos (by omega),if_pos (by omega),if_pos (by omega)]at hc
  refine⟨?_,?_,?_⟩
  ·rw[Nat.zero_add,cell_of_row w g _ cur 60 (0,0) hg];simpa using hc.1
  ·rw[Nat.zero_add,cell_of_row w g _ cur 60 (0,0) hg];simpa using hc.2.1
  ·rw[Nat.zero_add,cell_of_row w g _ cur 60 (0,0) hg];simpa using hc.2.2
theorem clausesAt_of_own{w:World}{base:Nat}{a:Option Addr}{cap:Nat}{cs:List Cl}(h:w.ownsRow base 61 1 (.slice a cs.length cap) cs.length (csCells cs))
 (hl:∀ i,i < cs.length->LitsAt w (cs.getD i cl0).a (cs.getD i cl0).ls):ClausesAt w a cs:=by
 rcases h.2 with⟨_,hn⟩ | ⟨g,cap,cur,hv,hb,hg,h1,h2,h3,h4⟩
 ·exact .inl (List.length_eq_zero_iff.1 hn)
 ·injection hv with hv _ _
  subst hv
  refine .inr ⟨g,0,rfl,fun i hi=>⟨?_,hl i hi⟩⟩
  have hc:(csCells cs)[i]?=some (clVal (cs.getD i cl0)):=by simp[csCells,hi]
  rw[<-h4,List.getElem?_take,if_pos (by omega)]at hc
  rw[Nat.zero_add,cell_of_row w g _ cur 61 (0,0) hg]
  simpa[clVal] using hc
end Go.Proofs.YtjebhhoibofmfaaGreat
namespace Go.Proofs.YtjebhhoibofmfaaGreat
open Go.RowKit
theorem info_lit:(Tryz.prog.info? 60).map (fun i=>(i.zero,i.size,i.bytes))=some (some (.agg #[.int .i64 0,.int .i64 0,.bool false]),3,24):=by kernel_rfl
theorem info_lits:(Tryz.prog.info? 61).map (fun i=>(i.zero,i.size,i.bytes))=some (some (.slice none 0 0),1,24):=by kernel_rfl
def small50(r:Nat):Prop:=(r:Int) < 1125899906842624
theorem new_lt(w:World)(l:Lt)(t:TypeId):∀ j u,(ltCells l)[j]?=some u->(w.alloc (.cells #[.int .i64 l.x,.int .i64 l.y,.bool l.n] t)).cell? ((⟨w.heap.size,0,none⟩:Addr).add j)=some u:=by
 intro j u hj
 match j,hj with
 | 0,hj=>simp[ltCells]at hj;subst hj;simp[Addr.add]
 | 1,hj=>simp[ltCells]at hj;subst hj;simp[Addr.add]
 | 2,hj=>simp[ltCells]at hj;subst hj;simp[Addr.add]
 | j+3,hj=>simp[ltCells]at hj
theorem new_one(w:World)(v:Value)(t:TypeId):∀ j u,[v][j]?=some u->(w.alloc (.cells #[v] t)).cell? ((⟨w.heap.size,0,none⟩:Addr).add j)=some u:=by
 intro j u hj
 match j,hj with
 | 0,hj=>simp at hj;subst hj;simp[Addr.add]
 | j+1,hj=>simp at hj
theorem ltCells_one(l:Lt):∀ u∈ltCells l,u.oneCell'=true:=by
 intro u hu
 simp[ltCells]at hu
 rcases hu with rfl | rfl | rfl <;> rfl
def litOf(q n:Nat):Lt:=⟨(IntKind.i64.wrap ((q:Int) / 8)).tmod n,(IntKind.i64.wrap ((q:Int) / 64)).tmod n,(IntKind.i64.wrap ((q:Int) / 512)).tmod 2 == 1⟩
def CsOwn(B:Nat)(wr:World)(v:Value)(cs:List Cl):Prop:=
 wr.ownsRow B 61 1 v cs.length (csCells cs)/\∀ i,i < cs.length->wr.ownsRow B 60 3 (clVal (cs.getD i cl0)) (cs.getD i cl0).ls.length (lsCells (cs.getD i cl0).ls)
theorem CsOwn.at{B:Nat}{w:World}{v:Value}{cs:List Cl}(h:CsOwn B w v cs):∃ a cap,v=.slice a cs.length cap/\ClausesAt w a cs:=by
 obtain⟨a,cap,rfl⟩:=own_val h.1
 exact⟨a,cap,rfl,clausesAt_of_own h.1 (fun i hi=>litsAt_of_own (h.2 i hi))⟩
theorem CsOwn.below{B:Nat}{w w':World}{v:Value}{cs:List Cl}(h:CsOwn B w v cs)(hb:Below w.heap.size w w'):CsOwn B w' v cs:=⟨own_below h.1 hb,fun i hi=>own_below (h.2 i hi) hb⟩
theorem own_base{w:World}{base base':Nat}{e:TypeId}{size:Nat}{v:Value}{n:Nat}{xs:List Value}(h:w.ownsRow base e size v n xs)(hb:base'<=base):w.ownsRow base' e size v n xs:=by
 refine⟨h.1,?_⟩
 rcases h.2 with h2 | ⟨g,cap,cur,hv,hg,r⟩
 ·exact Or.inl h2
 ·exact Or.inr ⟨g,cap,cur,hv,by omega,r⟩
def PR(n:Nat)(w wr:World)(tsl pv:Value)(cs:List Cl):Prop:=
 wr.heap[w.heap.size]?=some (.cells #[.slice none 0 0,.slice none 0 0] 25 (0,0))/\wr.heap[w.heap.size+1]?=some (.cells #[tsl,pv] 25 (0,0)) /\
 CsOwn (w.heap.size+2) wr pv cs/\clausesB n cs=true/\Below w.heap.size w wr
theorem clausesB_snoc{n:Int}{cs:List Cl}{q:Cl}(h:clausesB n cs=true)(h8:cs.length<=15)(hq:clauseB n q.ls=true):clausesB n (cs++[q])=true:=by
 refine clausesB_yes (by simp;omega) ?_
 intro k hk
 simp only[List.length_append,List.length_cons,List.length_nil]at hk
 by_cases hkl:k < cs.length
 ·rw[getD_snoc_lt _ _ _ hkl]
  simp only[clausesB,Bool.and_eq_true]at h
  exact allB_iff.1 h.2 k hkl
 ·have:k=cs.length:=by omega
  subst this
  rw[getD_snoc_eq]
  exact hq
theorem PR.step{n:Nat}{w wr w1 w2:World}{tsl pv pv':Value}{cs:List Cl}{a:Option Addr}{cap:Nat}{ls:List Lt}{o:Obj}(h:PR n w wr tsl pv cs)(hb:Below wr.heap.size wr w1)
 (hl:w1.ownsRow wr.heap.size 60 3 (.slice a ls.length cap) ls.length (lsCells ls)) (hq:clauseB n ls=true) (h8:cs.length<=15)
 (hown:w2.ownsRow (w.heap.size+2) 61 1 pv' (cs.length+1) (csCells cs++[.slice a ls.length cap])) (hg:(w1.alloc o).grownBy w2 pv.ownBlock) :
 PR n w (w2.setCell ⟨w.heap.size+1,1,none⟩ pv') tsl pv' (cs++[⟨a,cap,ls⟩]):=by
 obtain⟨h1,h2,h3,h4,h5⟩:=h
 have hs2:w.heap.size+2<=wr.heap.size:=by have:=(Array.getElem?_eq_some_iff.1 h2).1;omega
 have hb1:Below wr.heap.size wr (w1.alloc o):=hb.alloc hb.size _
 have hrow:∀ k,pv.ownBlock=some k->w.heap.size+2<=k/\k < wr.heap.size:=fun k hk=>h3.1.lt k hk
 have hold:∀ k,k < w.heap.size+2->(w2.heap[k]?=wr.heap[k]?):=by
  intro k hk
  rw[hg.block k (by have:=hb1.size;omega) (fun e=>by have:=(hrow k e.symm).1;omega)]
  exact hb1.block k (by omega)
 have e1:=(hold w.heap.size (by omega)).trans h1
 have e2:=(hold (w.heap.size+1) (by omega)).trans h2
 have hcs:CsOwn (w.heap.size+2) w2 pv' (cs++[⟨a,cap,ls⟩]):=by
  refine⟨by rw[csCells_snoc];simpa[clVal] using hown,?_⟩
  intro i hi
  have ht:∀ g,pv.ownBlock=some g->∃ cur e',(w1.alloc o).heap[g]?=some (.cells cur e' (0,0))/\e'≠60:=own_type (own_below h3.1 hb1) (by decide)
  simp only[List.length_append,List.length_cons,List.length_nil]at hi
  by_cases hil:i < cs.length
  ·rw[getD_snoc_lt _ _ _ hil]
   exact own_apart (own_below (h3.2 i hil) hb1) hg ht
  ·have:i=cs.length:=by omega
   subst this
   rw[getD_snoc_eq]
   exact own_apart (own_base (hl.alloc o) hs2) hg ht
 refine⟨?_,?_,⟨own_setCell hcs.1 (by show w.heap.size+1 < _;omega) _,fun i hi=>own_setCell (hcs.2 i hi) (by show w.heap.size+1 < _;omega) _⟩,clausesB_snoc h4 h8 hq,?_⟩
 ·rw[heap_setCell_other _ _ _ _ (by show w.heap.size≠w.heap.size+1;omega)];exact e1
 ·rw[heap_setCell_same _ _ _ _ _ _ e2];rfl
 ·refine Below.setCell ((h5.trans (hb1.mono h5.size)).grown hg (Nat.le_trans h5.size hb1.size) (fun k hk=>by have:=(hrow k hk).1;omega)) (by show w.heap.size<=w.heap.size+1;omega) _
theorem PR.kept{n:Nat}{w wr w1 w2:World}{tsl pv:Value}{cs:List Cl}{o:Obj}(h:PR n w wr tsl pv cs)(hb:Below wr.heap.size wr w1)(hg:(w1.alloc o).grownBy w2 pv.ownBlock) :
 w2.heap[w.heap.size+1]?=some (.cells #[tsl,pv] 25 (0,0)):=by
 obtain⟨h1,h2,h3,h4,h5⟩:=h
 have hs2:=(Array.getElem?_eq_some_iff.1 h2).1
 have hb1:Below wr.heap.size wr (w1.alloc o):=hb.alloc hb.size _
 rw[hg.block _ (by have:=hb1.size;omega) (fun e=>by have:=(h3.1.lt _ e.symm).1;omega),hb1.block _ hs2]
 exact h2
theorem wrap_small{x:Int}(h0:0<=x)(h1:x < 9223372036854775808):IntKind.i64.wrap x=x:=by rw[IntKind.wrap_i64];omega
theorem wrap64_small{x:Int}(h0:0<=x)(h1:x < 9223372036854775808):wrap64 x=x:=by unfold wrap64;omega
theorem made_bound{q n:Nat}{d:Int}(hq:small50 q)(hn:1<=n)(hd:1<=d):belowB ((IntKind.i64.wrap ((q:Int) / d)).tmod n) n=true:=by
 unfold small50 at hq
 have h0:0<=(q:Int) / d:=Int.ediv_nonneg (by omega) (by omega)
 have h1:(q:Int) / d<=q:=Int.ediv_le_self _ (by omega)
 rw[wrap_small h0 (by omega),Int.tmod_eq_emod_of_nonneg h0]
 exact belowB_iff.2 ⟨Int.emod_nonneg _ (by omega),Int.emod_lt_of_pos _ (by omega)⟩
theorem next_small{q:Nat}(hq:small50 q):small50 (q / 1024)/\wrap64 ((q:Int) / 1024)=((q / 1024:Nat):Int):=by
 unfold small50 at *
 exact⟨by omega,by rw[wrap64_small (by omega) (by omega)];omega⟩
theorem litsOk_snoc{n:Int}{ls:List Lt}{l:Lt}(h:∀ t,t < ls.length->litOk n (ls.getD t lt0)=true)(hl:litOk n l=true):∀ t,t < (ls++[l]).length->litOk n ((ls++[l]).getD t lt0)=true:=by
 intro t ht
 simp only[List.length_append,List.length_cons,List.length_nil]at ht
 by_cases hil:t < ls.length
 ·rw[getD_snoc_lt _ _ _ hil];exact h t hil
 ·have:t=ls.length:=by omega
  subst this
  rw[getD_snoc_eq];exact hl
theorem PR.start(n:Nat)(w:World)(tsl:Value):PR n w ((w.alloc (.cells #[.slice none 0 0,.slice none 0 0] 25)).alloc (.cells #[tsl,.slice none 0 0] 25)) tsl (.slice none 0 0) []:=
 ⟨heap_at_old _ _ (heap_at_new _ _ _ rfl),heap_at_new _ _ _ (by simp),⟨World.ownsRow_nil _ _ _ _,fun i hi=>by simp at hi⟩,rfl,((Below.refl _ _).alloc (Nat.le_refl _) _).alloc (by simp) _⟩
theorem PR.done{n:Nat}{w wr:World}{tsl pv x y:Value}{cs:List Cl}(h:PR n w wr tsl pv cs)(h8:cs.length<=8) :
 ∃ v cs,Ending.returned (.agg #[tsl,pv])=.returned (.agg #[tsl,v])/\CsOwn (w.heap.size+2) ((wr.setCell ⟨w.heap.size,0,none⟩ x).setCell ⟨w.heap.size,1,none⟩ y) v cs/\clausesB n cs=true/\cs.length<=8 /\
  Below w.heap.size w ((wr.setCell ⟨w.heap.size,0,none⟩ x).setCell ⟨w.heap.size,1,none⟩ y):=by
 obtain⟨h1,h2,h3,h4,h5⟩:=h
 have hlt:w.heap.size < w.heap.size+2:=by omega
 exact⟨pv,cs,rfl,⟨own_setCell (own_setCell h3.1 hlt _) hlt _,fun i hi=>own_setCell (own_setCell (h3.2 i hi) hlt _) hlt _⟩,h4,h8,(h5.setCell (Nat.le_refl _) _).setCell (Nat.le_refl _) _⟩
set_option maxRecDepth 100000 in
set_option maxHeartbeats 400000 in
theorem kproblem_any(ta ra:Option Addr)(tc rc:Nat)(n:Nat)(rs:List Int)(w:World)(hn4:1<=n)(hn7:n<=9)(hr:IntsAt w ra rs)(hwf:∀ i,i < rs.length->-9223372036854775808<=rs.getD i 0/\rs.getD i 0<=9223372036854775807) :
 Calls Tryz.prog 20 #[.slice ta n tc,.slice ra rs.length rc] w fun e w'=>∃ v cs,e=.returned (.agg #[.slice ta n tc,v])/\CsOwn (w.heap.size+2) w' v cs/\clausesB n cs=true/\cs.length<=8/\Below w.heap.size w w':=by
 obtain⟨i1,hi1,hy0,hy1,hy2⟩:=info_parts info_lit
 obtain⟨i2,hi2,hx0,hx1,hx2⟩:=info_parts info_lits
 go_enter Tryz.func20,Tryz.ntmps20
 go_wp2_with fail
 go_loopg [6] 8 (fun g s wr=>∃(i:Nat) (pv:Value) (cs:List Cl),g=8 - i/\i<=8/\s=.int .i64 i/\cs.length=i/\PR n w wr (.slice ta n tc) pv cs)
 case atStart=>exact⟨0,_,[],rfl,by omega,rfl,rfl,PR.start n w _⟩
 case round=>
  obtain⟨i,pv,cs,rfl,hi,rfl,hn,hP⟩:=hrel
  have Hn:=hide hn
  clear hn
  obtain⟨pa,pc,rfl⟩:=own_val hP.2.2.1.1
  have p0:wr.cell? ⟨w.heap.size+1,0,none⟩=some (.slice ta n tc):=by rw[cell_of_row _ _ _ _ _ _ hP.2.1];rfl
  have p1:wr.cell? ⟨w.heap.size+1,1,none⟩=some (.slice pa cs.length pc):=by rw[cell_of_row _ _ _ _ _ _ hP.2.1];rfl
  by_cases hlt:i < rs.length/\i < 8
  ·obtain⟨hlt,hi3⟩:=hlt
   obtain⟨rb,ro,rfl,rcell⟩:=(hr.below hP.2.2.2.2).get hlt
   have r1:=rcell i hlt
   obtain⟨w1,w2⟩:=hwf i hlt
   generalize rs.getD i 0=x at *
   clear rcell
   go_wp2_with fail
   refine(pick_any x 1125899906842624 _ w1 w2 (by omega) (by omega)).mono ?_
   rintro e w' ⟨r,hr1,rfl,rfl⟩
   go_wp2_with fail
   have hs2:w.heap.size+2<=w'.heap.size:=by have:=(Array.getElem?_eq_some_iff.1 hP.2.1).1;omega
   obtain⟨m,hm,em⟩:=mod_nat (r:Int) 3 (by omega)
   rw[em]
   clear em
   have Hr1:Hid (small50 r):=hr1
   have Hwf:=hide hwf
   clear hr1 w1 w2 hwf
   go_loopg [7,8,9] (m+1) (fun g s7 s8 s9 wi=>∃(r:Nat) (j:Int) (ls:List Lt),s7=.int .i64 r/\Hid (small50 r)/\s9=.int .i64 j/\Hid (j=(g:Int) - 1)/\ls.length+g<=3 /\
    wi.ownsRow w'.heap.size 60 3 s8 ls.length (lsCells ls)/\Hid (∀ t,t < ls.length->litOk n (ls.getD t lt0)=true)/\Below w'.heap.size w' wi)
   case atStart=>exact⟨r,m,[],rfl,Hr1,rfl,(by show(m:Int)=((m+1:Nat):Int) - 1;omega),by simp;omega,World.ownsRow_nil _ _ _ _,(fun t ht=>by simp at ht),Below.refl _ _⟩
   case round=>
    obtain⟨q,j,ls,rfl,Hq,rfl,Hj,hls,hown,Hok,hbi⟩:=hrel
    by_cases hk:0<=j
    ·have hj3:j<=2:=by have:=Hj.out;omega
     go_upto_region 10 with fail
     have hn0:¬ n=0:=by omega
     have hwb:(w'.heap.size:Nat)<=wr.heap.size:=hbi.size
     go_region_law (refine step_append_own rfl (.tmp 33) (.tmp 49) 61 rfl w'.heap.size 60 i1 (.agg #[.int .i64 0,.int .i64 0,.bool false]) 3 24 Tryz.underlying61 hi1 hy0 hy1 hy2 rfl (by decide) u8 ls.length (lsCells ls) (by simp[Act.eval]) (hown.alloc _) ⟨wr.heap.size,0,none⟩ 1 1 (ltCells ⟨(IntKind.i64.wrap ((q:Int) / 8)).tmod n,(IntKind.i64.wrap ((q:Int) / 64)).tmod n,(IntKind.i64.wrap ((q:Int) / 512)).tmod 2 == 1⟩) (by simp[Act.eval]) rfl (new_lt wr ⟨_,_,_⟩ _) (ltCells_one _) (by unfold maxLen;omega) (by omega) (by simp;omega) ?_;intro v2 w2 hown2 hgrow2)
     go_wp2_with fail
     obtain⟨hq2,eq2⟩:=next_small Hq.out
     have hown3:w2.ownsRow w'.heap.size 60 3 v2 (ls++[litOf q n]).length (lsCells (ls++[litOf q n])):=by rw[lsCells_snoc,List.length_append];exact hown2
     have hbel:Below w'.heap.size w' w2:=(hbi.alloc hbi.size _).drew.grown hgrow2 (by simp;omega) (fun k hk=>(hown.lt k hk).1)
     go_roundg (gk - 1)
     case measure=>have:=Hj.out;omega
     case rel=>
      refine⟨q / 1024,j - 1,ls++[litOf q n],by rw[<-eq2],hq2,by go_num,(by have:=Hj.out;show j - 1=((gk - 1:Nat):Int) - 1;omega),(by have:=Hj.out;simp;omega),hown3,litsOk_snoc Hok.out ?_,hbel⟩
      unfold litOk litOf
      rw[made_bound Hq.out hn4 (by omega),made_bound Hq.out hn4 (by omega)]
      rfl
    ·have g0:gk=0:=by have:=Hj.out;omega
     obtain⟨ua,uc,rfl⟩:=own_val hown
     have p1':wr.cell? ⟨w.heap.size+1,1,none⟩=some (.slice pa cs.length pc):=cell_below hbi p1
     have hPo:=own_below hP.2.2.1.1 hbi
     have hwb:(w'.heap.size:Nat)<=wr.heap.size:=hbi.size
     have Hcl:Hid (clauseB n ls=true):=clauseB_yes (by omega) Hok.out
     have h8:cs.length<=8:=by have:=Hn.out;omega
     go_wp2_with (at_builtin;refine wpList_append_own _ rfl _ _ 23 rfl (w.heap.size+2) 61 i2 (.slice none 0 0) 1 24 Tryz.underlying23 hi2 hx0 hx1 hx2 rfl (by decide) _ _ _ rfl (hPo.alloc _) ⟨wr.heap.size,0,none⟩ 1 1 [.slice ua ls.length uc] rfl rfl (new_one _ _ _) (fun u hu=>by simp at hu;subst hu;rfl) (by unfold maxLen;omega) (by omega) (by simp;omega) ?_)
     intro v' w2 hown' hgrow _
     have e2:=hP.kept hbi hgrow
     have k1:w2.cell? ⟨w.heap.size+1,1,none⟩=some (.slice pa cs.length pc):=by rw[cell_of_row _ _ _ _ _ _ e2];rfl
     have k2:w2.frozen? ⟨w.heap.size+1,1,none⟩=false:=frozen_of_row _ _ _ _ _ e2
     obtain⟨va,vc,rfl⟩:=own_val hown'
     go_wp2_with fail
     go_roundg (8 - (i+1))
     case measure=>omega
     case rel=>exact⟨i+1,_,cs++[⟨ua,uc,ls⟩],rfl,by omega,by go_num,by have:=Hn.out;simp;omega,hP.step hbi hown Hcl.out (by omega) hown' hgrow⟩
  ·have q0:wr.cell? ⟨w.heap.size,0,none⟩=some (.slice none 0 0):=by rw[cell_of_row _ _ _ _ _ _ hP.1];rfl
   have q1:wr.cell? ⟨w.heap.size,1,none⟩=some (.slice none 0 0):=by rw[cell_of_row _ _ _ _ _ _ hP.1];rfl
   have z0:wr.frozen? ⟨w.heap.size,0,none⟩=false:=frozen_of_row _ _ _ _ _ hP.1
   have z1:wr.frozen? ⟨w.heap.size,1,none⟩=false:=frozen_of_row _ _ _ _ _ hP.1
   have Hlt:=hide hlt
   clear hlt
   by_cases hlt:i < rs.length
   ·have h3:¬ i < 8:=fun h=>Hlt.out ⟨hlt,h⟩
    go_wp2_with fail
    exact bodyPost_ret (v:=.agg #[.slice ta n tc,.slice pa cs.length pc]) (by simp[results,Tryz.results20,go_sem,q0,q1]) rfl (hP.done (by have:=Hn.out;omega))
   ·go_wp2_with fail
    exact bodyPost_ret (v:=.agg #[.slice ta n tc,.slice pa cs.length pc]) (by simp[results,Tryz.results20,go_sem,q0,q1]) rfl (hP.done (by have:=Hn.out;omega))
end Go.Proofs.YtjebhhoibofmfaaGreat
namespace Go.Proofs.YtjebhhoibofmfaaGreat
open Go.RowKit
def tab(n:Nat)(f:Nat->Int):List Int:=(List.range n).map f
theorem tab_length(n:Nat)(f:Nat->Int):(tab n f).length=n:=by simp[tab]
theorem tab_getD(n:Nat)(f:Nat->Int){t:Nat}(h:t < n):(tab n f).getD t 0=f t:=by simp[tab,h]
theorem tab_congr{n:Nat}{f g:Nat->Int}(h:∀ t,t < n->f t=g t):tab n f=tab n g:=by
 unfold tab
 exact List.map_congr_left (fun t ht=>h t (by simpa using ht))
theorem list_ext{a b:List Int}(hl:a.length=b.length)(h:∀ t,t < a.length->a.getD t 0=b.getD t 0):a=b:=by
 apply List.ext_getElem hl
 intro t h1 h2
 have:=h t h1
 simpa[h1,h2] using this
theorem tab_self(c:List Int):tab c.length (fun t=>c.getD t 0)=c:=
 list_ext (tab_length _ _) (fun t ht=>by rw[tab_length]at ht;rw[tab_getD _ _ ht])
theorem tab_set(n:Nat)(f:Nat->Int)(k:Nat)(v:Int):(tab n f).set k v=tab n (fun t=>if t=k then v else f t):=by
 refine list_ext (by simp[tab]) (fun t ht=>?_)
 have ht':t < n:=by simpa[tab] using ht
 rw[tab_getD _ _ ht']
 by_cases h:t=k
 ·subst h;simp[tab,ht']
 ·rw[if_neg h]
  simp[tab,ht',Ne.symm h]
def Row(w:World)(g:Nat)(c:List Int):Prop:=w.heap[g]?=some (.cells (c.map (Value.int .i64)).toArray 3 (0,0))
theorem Row.cell{w:World}{g:Nat}{c:List Int}(h:Row w g c){k:Nat}(hk:k < c.length):w.cell? ⟨g,k,none⟩=some (.int .i64 (c.getD k 0)):=by
 rw[cell_of_row _ _ _ _ _ _ h]
 simp[hk]
theorem Row.frozen{w:World}{g:Nat}{c:List Int}(h:Row w g c)(k:Nat):w.frozen? ⟨g,k,none⟩=false:=frozen_of_row _ _ _ _ _ h
theorem Row.at{w:World}{g:Nat}{c:List Int}(h:Row w g c):IntsAt w (some ⟨g,0,none⟩) c:=.inr ⟨g,0,rfl,fun i hi=>by rw[Nat.zero_add];exact h.cell hi⟩
theorem Row.lt{w:World}{g:Nat}{c:List Int}(h:Row w g c):g < w.heap.size:=(Array.getElem?_eq_some_iff.1 h).1
theorem Row.set{w:World}{g:Nat}{c:List Int}(h:Row w g c)(k:Nat)(v:Int):Row (w.setCell ⟨g,k,none⟩ (.int .i64 v)) g (c.set k v):=by
 unfold Row
 rw[heap_setCell_same _ _ _ _ _ _ h]
 simp[List.map_set]
theorem Row.below{w w':World}{g:Nat}{c:List Int}(h:Row w g c){B:Nat}(hb:Below B w w')(hB:g < B):Row w' g c:=by
 unfold Row
 rw[hb.block g hB];exact h
theorem Row.kept{w w':World}{g:Nat}{c:List Int}{row:Option Nat}(h:Row w g c)(hg:w.grownBy w' row)(hne:some g≠row):Row w' g c:=by
 unfold Row
 rw[hg.block g h.lt hne];exact h
theorem grown_set{w w':World}{g k:Nat}{v:Value}(h:w.grownBy w' (some g)):w.grownBy (w'.setCell ⟨g,k,none⟩ v) (some g):=
 ⟨h.os,h.tape,h.output,by simpa using h.size,fun j hj hne=>by rw[heap_setCell_other _ _ _ _ (by intro e;exact hne (by rw[e]))];exact h.block j hj hne⟩
def gr(c:List Int):Nat->Int
 | 0=>0
 | i+1=>max (gr c i) (c.getD i 0)
def bump(c:List Int)(i k:Nat):List Int:=tab c.length (fun t=>if t < i then c.getD t 0 else if t=i then c.getD i 0+1 else if t < k then 0 else c.getD t 0)
theorem bump_start(c:List Int)(i:Nat)(hi:i < c.length):c.set i (c.getD i 0+1)=bump c i (i+1):=by
 conv=>lhs;rw[<-tab_self c]
 rw[tab_set,tab_self]
 refine tab_congr (fun t ht=>?_)
 by_cases h1:t=i
 ·subst h1;simp
 ·rw[if_neg h1]
  by_cases h2:t < i
  ·rw[if_pos h2]
  ·rw[if_neg h2,if_neg h1,if_neg (by omega)]
theorem bump_step(c:List Int)(i k:Nat)(hi:i < k):(bump c i k).set k 0=bump c i (k+1):=by
 unfold bump
 rw[tab_set]
 refine tab_congr (fun t ht=>?_)
 by_cases h1:t=k
 ·subst h1;rw[if_pos rfl,if_neg (by omega),if_neg (by omega),if_pos (by omega)]
 ·rw[if_neg h1]
  by_cases h2:t < i
  ·rw[if_pos h2,if_pos h2]
  ·by_cases h3:t=i
   ·rw[if_neg h2,if_pos h3,if_neg h2,if_pos h3]
   ·rw[if_neg h2,if_neg h3,if_neg h2,if_neg h3]
    by_cases h4:t < k
    ·rw[if_pos h4,if_pos (by omega)]
    ·rw[if_neg h4,if_neg (by omega)]
theorem bump_length(c:List Int)(i k:Nat):(bump c i k).length=c.length:=tab_length _ _
def BumpAt(c:List Int)(i:Nat):Prop:=0 < i/\i < c.length/\c.getD i 0<=gr c i/\∀ j,i < j->j < c.length->gr c j < c.getD j 0
def NoBump(c:List Int):Prop:=∀ j,0 < j->j < c.length->gr c j < c.getD j 0
set_option maxRecDepth 100000 in
set_option maxHeartbeats 400000 in
theorem next_any(g:Nat)(c:List Int)(w:World)(hc:Row w g c)(h9:c.length<=9)(h1:1<=c.length)(hbd:∀ i,i < c.length->0<=c.getD i 0/\c.getD i 0<=9) :
 Calls Tryz.prog 54 #[.slice (some ⟨g,0,none⟩) c.length c.length] w fun e w'=>w.grownBy w' (some g) /\
  ((∃ i,BumpAt c i/\Row w' g (bump c i c.length)/\e=.returned (.bool true))\/(NoBump c/\Row w' g c/\e=.returned (.bool false))):=by
 have Hbd:=hide hbd
 clear hbd
 obtain⟨m,hm⟩:∃ m,c.length=m+1:=⟨c.length - 1,by omega⟩
 go_enter Tryz.func54,Tryz.ntmps54
 go_wp2_with fail
 have Hm:=hide hm
 clear hm
 go_loopg [3] m (fun q s wr=>s=.int .i64 q/\q<=m/\Hid (∀ j,q < j->j < c.length->gr c j < c.getD j 0)/\wr=w)
 case atStart=>exact⟨rfl,Nat.le_refl _,(fun j h1 h2=>by have:=Hm.out;omega),rfl⟩
 case round=>
  obtain⟨rfl,hq,Hq,rfl⟩:=hrel
  cases gk with
  | zero=>
    go_wp2_with fail
    go_ret
    exact⟨World.grownBy.refl _ _,.inr ⟨fun j h1 h2=>Hq.out j h1 h2,hc,rfl⟩⟩
  | succ p=>
    rw[show((p+1:Nat):Int)=(p:Int)+1 by omega]
    have hpl:p+1 < c.length:=by have:=Hm.out;omega
    go_wp2_with fail
    go_loopg [4,5] (p+1) (fun q s4 s5 wx=>∃ k:Nat,q=p+1 - k/\k<=p+1/\s5=.int .i64 k/\s4=.int .i64 (gr c k)/\wx=wr)
    case atStart=>exact⟨0,by omega,by omega,rfl,rfl,rfl⟩
    case round=>
     obtain⟨k,rfl,hk,rfl,rfl,rfl⟩:=hrel
     by_cases hlt:k < p+1
     ·have ck:=hc.cell (k:=k) (by omega)
      have Hs:Hid (gr c (k+1)=max (gr c k) (c.getD k 0)):=rfl
      generalize gr c k=mx at *
      generalize c.getD k 0=v at *
      by_cases hv:mx < v
      ·have hm1:¬ v < mx:=by omega
       go_wp2_with fail
       go_roundg (p+1 - (k+1))
       case measure=>omega
       case rel=>exact⟨k+1,rfl,by omega,by go_num,by rw[Hs.out];congr 1;omega,rfl⟩
      ·go_wp2_with fail
       go_roundg (p+1 - (k+1))
       case measure=>omega
       case rel=>exact⟨k+1,rfl,by omega,by go_num,by rw[Hs.out];congr 1;omega,rfl⟩
     ·have hkp:k=p+1:=by omega
      subst hkp
      have ck:=hc.cell (k:=p+1) (by omega)
      have fk:=hc.frozen (p+1)
      obtain⟨b0,b9⟩:=Hbd.out (p+1) hpl
      by_cases hle:c.getD (p+1) 0<=gr c (p+1)
      ·have Hb:Hid (BumpAt c (p+1)):=⟨by omega,hpl,hle,fun j h1 h2=>Hq.out j h1 h2⟩
       have Hst:Hid (Row (wr.setCell ⟨g,p+1,none⟩ (.int .i64 (c.getD (p+1) 0+1))) g (bump c (p+1) (p+1+1))):=by rw[<-bump_start c _ hpl];exact hc.set _ _
       generalize c.getD (p+1) 0=v at *
       generalize gr c (p+1)=mx at *
       go_wp2_with fail
       go_loopg [6] (c.length - (p+1+1)) (fun q s wy=>∃ k:Nat,q=c.length - k/\p+1 < k/\k<=c.length/\s=.int .i64 k/\Row wy g (bump c (p+1) k)/\wr.grownBy wy (some g))
       case atStart=>exact⟨p+1+1,rfl,by omega,by omega,by go_num,Hst.out,grown_set (World.grownBy.refl _ _)⟩
       case round=>
        obtain⟨k,rfl,hk1,hk2,rfl,hrow,hgr⟩:=hrel
        by_cases hlt2:k < c.length
        ·have dk:=hrow.cell (k:=k) (by rw[bump_length];exact hlt2)
         have df:=hrow.frozen k
         generalize (bump c (p+1) k).getD k 0=dv at *
         go_wp2_with fail
         go_roundg (c.length - (k+1))
         case measure=>omega
         case rel=>exact⟨k+1,rfl,by omega,by omega,by go_num,by rw[<-bump_step c _ _ hk1];exact hrow.set _ _,grown_set hgr⟩
        ·have hkl:k=c.length:=by omega
         have Hkl:=hide hkl
         clear hkl
         go_wp2_with fail
         go_ret
         exact⟨hgr,.inl ⟨p+1,Hb.out,by rw[Hkl.out]at hrow;exact hrow,rfl⟩⟩
      ·have Hn:Hid (∀ j,p < j->j < c.length->gr c j < c.getD j 0):=by
        intro j h1 h2
        by_cases hj:j=p+1
        ·subst hj;omega
        ·exact Hq.out j (by omega) h2
       generalize c.getD (p+1) 0=v at *
       generalize gr c (p+1)=mx at *
       go_wp2_with fail
       go_roundg p
       case measure=>omega
       case rel=>exact⟨by go_num,by omega,Hn,rfl⟩
end Go.Proofs.YtjebhhoibofmfaaGreat
namespace Go.Proofs.YtjebhhoibofmfaaGreat
open Go.RowKit
theorem forced_split(ts:List Tm)(c:List Int)(i j:Nat):forcedB ts c i j=(!decide (c.getD i 0=c.getD j 0) && alikeB (ts.getD i tm0).sym (ts.getD j tm0).sym (ts.getD i tm0).args.length (ts.getD j tm0).args.length && argsEq c (ts.getD i tm0).args (ts.getD j tm0).args):=by
 simp only[forcedB,mustB,Bool.and_assoc]
set_option maxRecDepth 100000 in
set_option maxHeartbeats 1000000 in
theorem ksound_any(ta ca:Option Addr)(tc cc:Nat)(ts:List Tm)(c:List Int)(w:World)(ht:TermsAt w ta ts)(hc:IntsAt w ca c)
 (hl:ts.length<=c.length) (h9:ts.length<=9) (hin:ArgsIn ts c.length) :
 Calls Tryz.prog 52 #[.slice ta ts.length tc,.slice ca c.length cc] w fun e w'=>e=.returned (.bool (soundB ts c))/\∃ n,w'=w.drewN n:=by
 have Hin:=hide hin
 clear hin
 go_enter Tryz.func52,Tryz.ntmps52
 go_wp2_with fail
 go_loopg [5] ts.length (fun g s wr=>∃ i:Nat,g=ts.length - i/\i<=ts.length/\s=.int .i64 i/\Hid (∀ x y,y < x->x < i->forcedB ts c x y=false)/\∃ n,wr=w.drewN n)
 case atStart=>exact⟨0,by omega,Nat.zero_le _,rfl,(fun x y _ h=>by omega),0,rfl⟩
 case round=>
  obtain⟨i,rfl,hi,rfl,Hi,n0,rfl⟩:=hrel
  by_cases hlt:i < ts.length
  ·obtain⟨tb,tf,rfl,tcell⟩:=ht.get hlt
   obtain⟨cb,co,rfl,ccell⟩:=hc.get (i:=i) (by omega)
   have Htc:=hide tcell
   have Hcc:=hide ccell
   obtain⟨x1,x2,x3⟩:=tcell i hlt
   have cI:=ccell i (by omega)
   have hax:=Hin.out i hlt
   have Hfs:Hid (∀ j,forcedB ts c i j=(!decide (c.getD i 0=c.getD j 0) && alikeB (ts.getD i tm0).sym (ts.getD j tm0).sym (ts.getD i tm0).args.length (ts.getD j tm0).args.length && argsEq c (ts.getD i tm0).args (ts.getD j tm0).args)):=forced_split ts c i
   generalize ts.getD i tm0=x at *
   obtain⟨xs,xa,xc,xl⟩:=x
   simp only at x1 x2 x3 hax
   obtain⟨hx2,hax⟩:=hax
   have Hax:=hide hax
   generalize c.getD i 0=ci at *
   clear tcell ccell hax
   go_wp2_with fail
   go_loopg [6] i (fun g s wr=>∃ j:Nat,g=i - j/\j<=i/\s=.int .i64 j/\Hid (∀ y,y < j->forcedB ts c i y=false)/\∃ n,wr=w.drewN n)
   case atStart=>exact⟨0,by omega,Nat.zero_le _,rfl,(fun y h=>by omega),n0,rfl⟩
   case round=>
    obtain⟨j,rfl,hj,rfl,Hj,n1,rfl⟩:=hrel
    by_cases hjt:j < i
    ·obtain⟨y1,y2,y3⟩:=Htc.out j (by omega)
     have cJ:=Hcc.out j (by omega)
     have hay:=Hin.out j (by omega)
     have hfs:=Hfs.out j
     generalize ts.getD j tm0=y at *
     obtain⟨ys,ya,yc,yl⟩:=y
     simp only at y1 y2 y3 hay hfs
     obtain⟨hy2,hay⟩:=hay
     have Hay:=hide hay
     generalize c.getD j 0=cj at *
     have Hf:=hide hfs
     clear hfs hay
     go_upto_region 7 with fail
     go_cut [7] (fun t wx=>t=.bool (!decide (ci=cj) && alikeB xs ys xl.length yl.length)/\∃ n,wx=w.drewN n)
     case first=>
      by_cases h1:ci=cj
      ·have hb1:(ci != cj)=false:=by simp[h1]
       have H1:=hide h1
       clear h1
       go_quiet (fail)
       go_wp2_with fail
       go_meet
       exact⟨by simp[H1.out],_,World.drewN_drewN _ _ _⟩
      ·have hb1:(ci != cj)=true:=by simp[h1]
       have H1:=hide h1
       clear h1
       by_cases h2:xs=ys
       ·have hb2:(xs == ys)=true:=by simp[h2]
        have H2:=hide h2
        clear h2
        go_quiet (fail)
        go_wp2_with fail
        go_meet
        exact⟨by congr 1;simp[H1.out,H2.out,alikeB];rw[Bool.eq_iff_iff];simp;try omega,_,World.drewN_drewN _ _ _⟩
       ·have hb2:(xs == ys)=false:=by simp[h2]
        have H2:=hide h2
        clear h2
        go_quiet (fail)
        go_wp2_with fail
        go_meet
        exact⟨by simp[H1.out,H2.out,alikeB],_,World.drewN_drewN _ _ _⟩
     case rest=>
      obtain⟨rfl,n2,rfl⟩:=hcut
      go_wp2_with fail
      go_loopg [7,8] xl.length (fun g s7 s8 wr=>∃(k:Nat) (lk:Bool),g=xl.length - k/\k<=xl.length/\s8=.int .i64 k/\s7=.bool lk /\
       Hid (lk=true->((!decide (ci=cj) && alikeB xs ys xl.length yl.length)=true/\∀ t,t < k->eqB c (xl.getD t 0) (yl.getD t 0)=true))/\Hid (lk=false->forcedB ts c i j=false)/\∃ n,wr=w.drewN n)
      case atStart=>exact⟨0,_,by omega,Nat.zero_le _,rfl,rfl,(fun h=>⟨h,fun t ht=>by omega⟩),(fun h=>by rw[Hf.out,h];rfl),n2,rfl⟩
      case round=>
       obtain⟨k,lk,rfl,hk,rfl,rfl,Ht,He,n3,rfl⟩:=hrel
       cases lk
       ·have hff:=hide (He.out rfl)
        go_wp2_with fail
        go_roundg (i - (j+1))
        case measure=>omega
        case rel=>exact⟨j+1,rfl,by omega,by go_num,upto_succ Hj.out hff.out,_,rfl⟩
       ·obtain⟨ht1,ht2⟩:=Ht.out rfl
        have hll:xl.length=yl.length:=by simp[alikeB]at ht1;exact ht1.2.2
        have Ht1:=hide ht1
        have Ht2:=hide ht2
        have Hll:=hide hll
        clear ht1 ht2 hll
        by_cases hkl:k < xl.length
        ·obtain⟨xb,xo,rfl,xcell⟩:=x3.get hkl
         have hly:k < yl.length:=by have:=Hll.out;omega
         obtain⟨yb,yo,rfl,ycell⟩:=y3.get hly
         obtain⟨nx,hnx⟩:=Int.eq_ofNat_of_zero_le (Hax.out k hkl).1
         obtain⟨ny,hny⟩:=Int.eq_ofNat_of_zero_le (Hay.out k hly).1
         have bx:=(Hax.out k hkl).2
         have bY:=(Hay.out k hly).2
         rw[hnx]at bx
         rw[hny]at bY
         have e1:=xcell k hkl
         have e2:=ycell k hly
         have e3:=Hcc.out nx (by omega)
         have e4:=Hcc.out ny (by omega)
         rw[hnx]at e1
         rw[hny]at e2
         have hst:eqB c (xl.getD k 0) (yl.getD k 0)=decide (c.getD nx 0=c.getD ny 0):=by simp only[eqB,cls,hnx,hny,Int.toNat_natCast]
         generalize c.getD nx 0=vx at *
         generalize c.getD ny 0=vy at *
         have Hst:=hide hst
         have Hx3:=hide x3
         have Hy3:=hide y3
         clear x3 y3 xcell ycell hnx hny hst
         go_upto_region 11 with fail
         go_quiet (fail)
         go_wp2_with fail
         go_roundg (xl.length - (k+1))
         case measure=>omega
         case rel=>
          refine⟨k+1,_,rfl,by omega,by go_num,rfl,?_,?_,_,rfl⟩
          ·intro hv
           exact⟨Ht1.out,upto_succ Ht2.out (by rw[Hst.out];simpa using hv)⟩
          ·intro hv
           rw[Hf.out,argsEq,allB_no k hkl (by rw[Hst.out];simpa using hv)];simp
        ·have Hfin:Hid (forcedB ts c i j=true):=by
          show forcedB ts c i j=true
          rw[Hf.out,Ht1.out,argsEq,allB_yes (fun t ht=>Ht2.out t (by omega))];rfl
         go_wp2_with fail
         go_ret
         exact⟨ret_bool (by rw[soundB_no hjt hlt Hfin.out]),_,rfl⟩
    ·go_wp2_with fail
     go_roundg (ts.length - (i+1))
     case measure=>omega
     case rel=>exact⟨i+1,rfl,by omega,by go_num,(fun x y h1 h2=>by
      rcases Nat.lt_succ_iff_lt_or_eq.1 h2 with h3 | h3
      ·exact Hi.out x y h1 h3
      ·subst h3;exact Hj.out y (by omega)),_,rfl⟩
  ·go_wp2_with fail
   go_ret
   exact⟨ret_bool (by rw[soundB_yes (fun x y h1 h2=>Hi.out x y h1 (by omega))]),_,rfl⟩
end Go.Proofs.YtjebhhoibofmfaaGreat
namespace Go.Proofs.YtjebhhoibofmfaaGreat
open Go.RowKit
set_option maxRecDepth 100000 in
set_option maxHeartbeats 1000000 in
theorem some_any(la ca:Option Addr)(lc cc:Nat)(ls:List Lt)(c:List Int)(w:World)(hls:LitsAt w la ls)(hc:IntsAt w ca c)(hin:LitsIn ls c.length) :
 Calls Tryz.prog 53 #[.slice la ls.length lc,.slice ca c.length cc] w fun e w'=>e=.returned (.bool (holdsB c ls))/\∃ n,w'=w.drewN n:=by
 have Hin:=hide hin
 have h6:=hin.1
 clear hin
 go_enter Tryz.func53,Tryz.ntmps53
 go_wp2_with fail
 go_loopg [5] ls.length (fun g s wr=>∃ k:Nat,g=ls.length - k/\k<=ls.length/\s=.int .i64 k/\Hid (∀ t,t < k->litB c (ls.getD t lt0)=false)/\∃ n,wr=w.drewN n)
 case atStart=>exact⟨0,by omega,Nat.zero_le _,rfl,(fun t h=>by omega),0,rfl⟩
 case round=>
  obtain⟨k,rfl,hk,rfl,Hk,n0,rfl⟩:=hrel
  by_cases hlt:k < ls.length
  ·obtain⟨lb,lo,rfl,lcell⟩:=hls.get hlt
   obtain⟨l1,l2,l3⟩:=lcell k hlt
   obtain⟨⟨bx0,bx⟩,by0,bY⟩:=Hin.out.2 k hlt
   obtain⟨nx,hnx⟩:=Int.eq_ofNat_of_zero_le bx0
   obtain⟨ny,hny⟩:=Int.eq_ofNat_of_zero_le by0
   obtain⟨cb,co,rfl,ccell⟩:=hc.get (i:=nx) (by omega)
   have c1:=ccell nx (by omega)
   have c2:=ccell ny (by omega)
   have hst:litB c (ls.getD k lt0)=(decide (c.getD nx 0=c.getD ny 0) != (ls.getD k lt0).n):=by simp only[litB,eqB,cls,hnx,hny,Int.toNat_natCast]
   rw[hnx]at l1 bx
   rw[hny]at l2 bY
   generalize c.getD nx 0=vx at *
   generalize c.getD ny 0=vy at *
   generalize (ls.getD k lt0).n=nt at *
   have Hst:=hide hst
   clear hst ccell lcell bx0 by0 hnx hny
   have d1:decide ((nx:Int) < 0)=false:=by simp
   have d2:decide ((ny:Int) < 0)=false:=by simp
   have d3:decide ((c.length:Int)<=(nx:Int))=false:=by simp;omega
   by_cases he:vx=vy
   ·have hb1:(vx == vy)=true:=by simp[he]
    have He:=hide he
    clear he
    cases nt
    ·go_wp2_with fail
     go_quiet (fail)
     go_wp2_with fail
     go_ret
     exact⟨ret_bool (by rw[holdsB,anyB_yes k hlt (by rw[Hst.out];simp[He.out])]),_,World.drewN_drewN _ _ _⟩
    ·go_wp2_with fail
     go_quiet (fail)
     go_wp2_with fail
     go_roundg (ls.length - (k+1))
     case measure=>omega
     case rel=>exact⟨k+1,rfl,by omega,by go_num,upto_succ Hk.out (by rw[Hst.out];simp[He.out]),_,rfl⟩
   ·have hb1:(vx == vy)=false:=by simp[he]
    have He:=hide he
    clear he
    cases nt
    ·go_wp2_with fail
     go_quiet (fail)
     go_wp2_with fail
     go_roundg (ls.length - (k+1))
     case measure=>omega
     case rel=>exact⟨k+1,rfl,by omega,by go_num,upto_succ Hk.out (by rw[Hst.out];simp[He.out]),_,rfl⟩
    ·go_wp2_with fail
     go_quiet (fail)
     go_wp2_with fail
     go_ret
     exact⟨ret_bool (by rw[holdsB,anyB_yes k hlt (by rw[Hst.out];simp[He.out])]),_,World.drewN_drewN _ _ _⟩
  ·go_wp2_with fail
   go_ret
   exact⟨ret_bool (by rw[holdsB,anyB_no (fun t ht=>Hk.out t (by omega))]),_,rfl⟩
end Go.Proofs.YtjebhhoibofmfaaGreat
namespace Go.Proofs.YtjebhhoibofmfaaGreat
open Go.RowKit
def Rg(c:List Int):Prop:=c.length<=9/\(0 < c.length->c.getD 0 0=0)/\∀ i,i < c.length->0<=c.getD i 0/\(1<=i->c.getD i 0<=gr c i+1)
theorem gr_nonneg(c:List Int):∀ i,0<=gr c i
 | 0=>Int.le_refl _
 | i+1=>by have:=gr_nonneg c i;unfold gr;omega
theorem rgs_from{c:List Int}(h:Rg c):∀ d k,k+d=c.length->rgs (if k=0 then 0 else gr c k+1) (c.drop k)=true:=by
 intro d
 induction d with
 | zero=>intro k hk;rw[List.drop_of_length_le (by omega)];rfl
 | succ d ih=>
   intro k hk
   have hlt:k < c.length:=by omega
   obtain⟨h0,h1⟩:=h.2.2 k hlt
   have hz:=h.2.1 (by omega)
   have hr:=ih (k+1) (by omega)
   rw[if_neg (by omega)]at hr
   rw[drop_get hlt,rgs,Bool.and_eq_true]
   have e:gr c (k+1)=max (gr c k) (c.getD k 0):=rfl
   by_cases hk0:k=0
   ·subst hk0
    rw[hz]at e ⊢
    refine⟨by rfl,?_⟩
    have:(if(0:Int)=(if(0:Nat)=0 then 0 else gr c 0+1)then(if(0:Nat)=0 then 0 else gr c 0+1)+1 else if(0:Nat)=0 then 0 else gr c 0+1)=gr c (0+1)+1:=by rw[e];rfl
    rw[this];exact hr
   ·rw[if_neg hk0]
    have hle:=h1 (by omega)
    refine⟨belowB_iff.2 ⟨h0,by omega⟩,?_⟩
    by_cases he:c.getD k 0=gr c k+1
    ·rw[if_pos he]
     rw[show gr c (k+1)=gr c k+1 by omega]at hr
     exact hr
    ·rw[if_neg he]
     rw[show gr c (k+1)=gr c k by omega]at hr
     exact hr
theorem rgs_of{c:List Int}(h:Rg c):rgs 0 c=true:=by simpa using rgs_from h c.length 0 (by omega)
theorem gr_le{c:List Int}(h:Rg c):∀ i,1<=i->i<=c.length->gr c i<=(i:Int) - 1:=by
 intro i
 induction i with
 | zero=>intro h1;omega
 | succ i ih=>
   intro _ h2
   have e:gr c (i+1)=max (gr c i) (c.getD i 0):=rfl
   by_cases hi:i=0
   ·subst hi
    rw[e,h.2.1 (by omega)]
    simp[gr]
   ·have h3:=ih (by omega) (by omega)
    have h4:=(h.2.2 i (by omega)).2 (by omega)
    omega
theorem Rg.le{c:List Int}(h:Rg c){i:Nat}(hi:i < c.length):0<=c.getD i 0/\c.getD i 0<=(i:Int):=by
 refine⟨(h.2.2 i hi).1,?_⟩
 by_cases h0:i=0
 ·subst h0;rw[h.2.1 hi];simp
 ·have h1:=(h.2.2 i hi).2 (by omega)
  have h2:=gr_le h i (by omega) (by omega)
  omega
theorem bump_getD{c:List Int}{i k t:Nat}(ht:t < c.length):(bump c i k).getD t 0=if t < i then c.getD t 0 else if t=i then c.getD i 0+1 else if t < k then 0 else c.getD t 0:=tab_getD _ _ ht
theorem gr_bump{c:List Int}{i k:Nat}(hi:i < c.length):∀ t,t<=i->gr (bump c i k) t=gr c t
 | 0,_=>rfl
 | t+1,h=>by
   unfold gr
   rw[gr_bump hi t (by omega),bump_getD (by omega),if_pos (by omega)]
theorem Rg.bump{c:List Int}{i:Nat}(h:Rg c)(hb:BumpAt c i):Rg (bump c i c.length):=by
 obtain⟨h1,h2,h3,_⟩:=hb
 refine⟨by rw[bump_length];exact h.1,fun h0=>?_,fun t ht=>?_⟩
 ·rw[bump_length]at h0
  rw[bump_getD h0,if_pos h1];exact h.2.1 h0
 ·rw[bump_length]at ht
  rw[bump_getD ht]
  by_cases ha:t < i
  ·rw[if_pos ha,gr_bump h2 t (by omega)];exact h.2.2 t ht
  ·rw[if_neg ha]
   by_cases he:t=i
   ·subst he
    rw[if_pos rfl,gr_bump h2 t (Nat.le_refl _)]
    have:=(h.2.2 t ht).1
    exact⟨by omega,fun _=>by omega⟩
   ·rw[if_neg he,if_pos ht]
    have:=gr_nonneg (Go.Proofs.YtjebhhoibofmfaaGreat.bump c i c.length) t
    exact⟨Int.le_refl _,fun _=>by omega⟩
def zeros(n:Nat):List Int:=tab n (fun _=>0)
theorem zeros_length(n:Nat):(zeros n).length=n:=tab_length _ _
theorem Rg.zeros{n:Nat}(h:n<=9):Rg (zeros n):=by
 refine⟨by rw[zeros_length];exact h,fun h0=>?_,fun t ht=>?_⟩
 ·rw[zeros_length]at h0;exact tab_getD _ _ h0
 ·rw[zeros_length]at ht
  unfold Go.Proofs.YtjebhhoibofmfaaGreat.zeros
  rw[tab_getD _ _ ht]
  have:=gr_nonneg (tab n (fun _=>0)) t
  exact⟨Int.le_refl _,fun _=>by omega⟩
theorem made_zeros(n:Nat):madeCells #[.int .i64 0] n=((zeros n).map (Value.int .i64)).toArray:=by
 unfold madeCells zeros tab
 apply Array.ext
 ·simp
 ·intro i h1 h2
  simp[Nat.mod_one]
def apart(n:Nat):List Int:=tab n (fun t=>(t:Int))
theorem apart_length(n:Nat):(apart n).length=n:=tab_length _ _
theorem gr_apart{n:Nat}:∀ i,i<=n->gr (apart n) (i+1)=i\/n<=i
 | 0,h=>by
   by_cases hn:n=0
   ·exact .inr (by omega)
   ·refine .inl ?_
    unfold gr apart gr
    rw[tab_getD _ _ (by omega)];simp
 | i+1,h=>by
   by_cases hn:n<=i+1
   ·exact .inr hn
   ·refine .inl ?_
    have e:gr (apart n) (i+1+1)=max (gr (apart n) (i+1)) ((apart n).getD (i+1) 0):=rfl
    rw[e]
    rcases gr_apart (n:=n) i (by omega)with h1 | h1
    ·rw[h1];unfold apart;rw[tab_getD _ _ (by omega)];omega
    ·omega
theorem Rg.apart{n:Nat}(h:n<=9):Rg (apart n):=by
 refine⟨by rw[apart_length];exact h,fun h0=>?_,fun t ht=>?_⟩
 ·rw[apart_length]at h0;exact tab_getD _ _ h0
 ·rw[apart_length]at ht
  have e:(Go.Proofs.YtjebhhoibofmfaaGreat.apart n).getD t 0=t:=tab_getD _ _ ht
  rw[e]
  refine⟨by omega,fun h1=>?_⟩
  obtain⟨p,rfl⟩:∃ p,t=p+1:=⟨t - 1,by omega⟩
  rcases gr_apart (n:=n) p (by omega)with h2 | h2
  ·rw[h2];omega
  ·omega
end Go.Proofs.YtjebhhoibofmfaaGreat
namespace Go.Proofs.YtjebhhoibofmfaaGreat
open Go.RowKit
theorem info_int:(Tryz.prog.info? 3).map (fun i=>(i.zero,i.size,i.bytes))=some (some (.int .i64 0),1,8):=by kernel_rfl
theorem trueB_of{ts:List Tm}{cs:List Cl}{c:List Int}(h1:termsB ts=true)(h2:clausesB ts.length cs=true)(h3:Rg c)(h4:c.length=ts.length) :
 trueB ts cs c=(soundB ts c && allHoldB c cs)/\trueE ts cs c=0:=by
 have e1:refuseI ts cs=0:=by simp[refuseI,h1,h2]
 have e2:classesB c ts.length=true:=by simp[classesB,h4,rgs_of h3]
 exact⟨by simp[trueB,e1,e2],by simp[trueE,e1,e2]⟩
def upto(n i:Nat):List Int:=tab n (fun t=>if t < i then(t:Int)else 0)
theorem upto_zero(n:Nat):upto n 0=zeros n:=tab_congr (fun t _=>by rw[if_neg (by omega)])
theorem upto_all(n:Nat):upto n n=apart n:=tab_congr (fun t h=>by rw[if_pos h])
theorem upto_set(n i:Nat):(upto n i).set i (i:Int)=upto n (i+1):=by
 unfold upto
 rw[tab_set]
 refine tab_congr (fun t _=>?_)
 by_cases h:t=i
 ·subst h;rw[if_pos rfl,if_pos (by omega)]
 ·rw[if_neg h]
  by_cases h2:t < i
  ·rw[if_pos h2,if_pos (by omega)]
  ·rw[if_neg h2,if_neg (by omega)]
end Go.Proofs.YtjebhhoibofmfaaGreat
