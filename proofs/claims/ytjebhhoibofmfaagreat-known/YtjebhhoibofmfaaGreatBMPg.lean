import Derived.Test.YtjebhhoibofmfaaGreatBMPf
namespace Go.Proofs.YtjebhhoibofmfaaGreat
open Go.RowKit Go.Maps
def NdRow(w:World)(g:Nat)(bs:List Bool):Prop:=w.heap[g]?=some (.cells (bs.map Value.bool).toArray 4 (0,0))
theorem NdRow.cell{w:World}{g:Nat}{bs:List Bool}(h:NdRow w g bs){k:Nat}(hk:k < bs.length):w.cell? ⟨g,k,none⟩=some (.bool (bs.getD k false)):=by
 rw[cell_of_row _ _ _ _ _ _ h]
 simp[hk]
theorem NdRow.lt{w:World}{g:Nat}{bs:List Bool}(h:NdRow w g bs):g < w.heap.size:=(Array.getElem?_eq_some_iff.1 h).1
theorem NdRow.set{w:World}{g:Nat}{bs:List Bool}(h:NdRow w g bs)(k:Nat)(v:Bool):NdRow (w.setCell ⟨g,k,none⟩ (.bool v)) g (bs.set k v):=by
 unfold NdRow
 rw[heap_setCell_same _ _ _ _ _ _ h]
 simp[List.map_set]
theorem NdRow.up{w w':World}{g:Nat}{bs:List Bool}(h:NdRow w g bs)(hb:Below w.heap.size w w'):NdRow w' g bs:=by
 unfold NdRow
 rw[hb.block g h.lt];exact h
theorem NdRow.drew{w:World}{g:Nat}{bs:List Bool}(h:NdRow w g bs):NdRow w.drew g bs:=h
theorem info_nd:(Tryz.prog.info? 4).map (fun i=>(i.zero,i.size,i.bytes))=some (some (.bool false),1,1):=by kernel_rfl
theorem made_nd(n:Nat):madeCells #[.bool false] n=((List.replicate n false).map Value.bool).toArray:=by
 unfold madeCells
 apply Array.ext
 ·simp
 ·intro i h1 h2
  simp[Nat.mod_one]
theorem make_row_nd{P:Program}(w:World){ops:Array Oper}{rest:List Oper}{o:Oper}{a:Act}{Q:Exit->Act->World->Prop}
 (hg:o.guard=none) (l c:Operand) (t:TypeId) (hop:o.op=Op.makeSlice t l c)
 (e:TypeId) (i:TypeInfo) (z:Value) (ht:P.underlying t=some (.slice e)) (hi:P.info? e=some i) (hz:i.zero=some z) (hsize:i.size=1) (hz1:z.cells=#[z])
 (kl kc:IntKind) (n:Nat) (L:Int) (hL:L=(n:Int)) (hl:a.eval l=.int kl L) (hc:a.eval c=.int kc L) (hbytes:i.bytes*n<=281474976710656) (h63:n<=9223372036854775807)
 (hK:wpList P ops Q rest (a.put o.dst (.slice (some ⟨w.heap.size,0,none⟩) n n)) (w.alloc (.cells (madeCells #[z] n) e))) :
 wpList P ops Q (o :: rest) a w:=by
 subst hL
 exact wpList_make_row w hg l c t hop e i z ht hi hz hsize hz1 kl kc n hl hc hbytes h63 hK
theorem below_put{w W:World}{B g:Nat}(h:Below B w W)(hg:B<=g)(x:Nat)(u:Value):Below B w (W.setCell ⟨g,x,none⟩ u):=h.setCell (p:=⟨g,x,none⟩) hg u
theorem needP_len{sts:List St}:∀ {k:Nat} {nd out:List Bool},needP sts k nd=some out->out.length=nd.length
 | 0,nd,out,h=>by simp[needP]at h;rw[h]
 | k+1,nd,out,h=>by
   unfold needP at h
   split at h
   ·split at h
    ·have:=needP_len h;simpa using this
    ·cases h
   ·exact needP_len h
set_option maxRecDepth 100000 in
set_option maxHeartbeats 2000000 in
theorem needed_any(m:Nat)(F:List Nat)(tv cv:Value)(P:Pf)(k:Nat)(nd:List Bool)(w:World)(hP:PP w m F tv cv P)(hk:k < P.sts.length)(hmax:P.sts.length<=3518437208883)
 (hn:needP P.sts (k+1) ((List.replicate (k+1) false).set k true)=some nd) :
 Calls Tryz.prog 105 #[.pointer (some ⟨m,0,none⟩),.int .i64 k] w fun e w'=>∃ g,e=.returned (.slice (some ⟨g,0,none⟩) (k+1) (k+1))/\NdRow w' g nd/\w.heap.size<=g/\Below w.heap.size w w':=by
 obtain⟨i1,hi1,hy0,hy1,hy2⟩:=info_parts info_nd
 obtain⟨_,la,lc,va,vc,mb,D,hF,hm,hla,hva,hmap,hD⟩:=hP
 have hst:=stepsAt_of_own hla
 have Hm:=hide hm
 have Hst:=hide hst
 have Hn:=hide hn
 clear hF hm hla hva hmap hD hst hn
 generalize hsts:P.sts=sts at *
 clear hsts
 go_enter Tryz.func105,Tryz.ntmps105
 go_upto_region 2 with(at_make;refine make_row_nd _ rfl _ _ 140 rfl 4 i1 (.bool false) Tryz.underlying140 hi1 hy0 hy1 rfl _ _ (k+1) _ (by simp) rfl rfl (by rw[hy2];omega) (by omega) ?_)
 obtain⟨W1,hW1⟩:∃ W1,W1=w.alloc (.cells (madeCells #[.bool false] (k+1)) 4):=⟨_,rfl⟩
 have hb1:Below w.heap.size w W1:=by rw[hW1];exact below_alloc _ _
 have hr1:NdRow W1 w.heap.size (List.replicate (k+1) false):=by rw[hW1];unfold NdRow;rw[<-made_nd];exact heap_at_new _ _ _ rfl
 rw[<-hW1]
 have q1:=hr1.cell (k:=k) (by simp)
 have q2:W1.frozen? ⟨w.heap.size,k,none⟩=false:=frozen_of_row _ _ _ _ _ hr1
 have hr2:=hr1.set k true
 have hb2:Below w.heap.size w (W1.setCell ⟨w.heap.size,k,none⟩ (.bool true)):=hb1.setCell (p:=⟨_,_,none⟩) (Nat.le_refl _) _
 clear hW1 hr1 hb1
 go_wp2_with fail
 go_loopg [6] (k+1) (fun q v wx=>∃(j:Nat) (z:Int) (bs:List Bool),q=0+j/\j<=k+1/\v=.int .i64 z/\Hid (z=(j:Int) - 1)/\Hid (needP sts j bs=some nd)/\bs.length=k+1/\NdRow wx w.heap.size bs/\Below w.heap.size w wx)
 case atStart=>exact⟨k+1,(k:Int),_,by omega,Nat.le_refl _,rfl,(by show(k:Int)=((k+1:Nat):Int) - 1;omega),Hn,by simp,hr2,hb2⟩
 case round=>
  obtain⟨j,z,bs,rfl,hj,rfl,Hz,Hnj,hbl,hr,hb⟩:=hrel
  cases j with
  | zero=>
    have hz:z=-1:=by have:=Hz.out;omega
    subst hz
    have hnd:bs=nd:=by have:=Hnj.out;simp[needP]at this;exact this
    have Hnd:=hide hnd
    clear hnd
    go_wp2_with fail
    go_ret
    rw[<-Hnd.out]
    exact⟨_,rfl,hr,Nat.le_refl _,hb⟩
  | succ i=>
    have hz:z=(i:Int):=by have:=Hz.out;omega
    subst hz
    have hil:i < sts.length:=by omega
    have hmr:=(keeps_below hb).row (by simp) Hm.out
    have c2:wr.cell? ⟨m,2,none⟩=some (.slice la sts.length lc):=by rw[cell_of_row _ _ _ _ _ _ hmr];rfl
    obtain⟨lb,lo,rfl,lcell⟩:=(Hst.out.below hb).get hil
    obtain⟨l0,l1,l2,l3,l4⟩:=lcell i hil
    have hlb:=block_lt l0
    have hlm:=block_lt c2
    have Hnx:=Hnj
    unfold needP at Hnx
    have hq:=hr.cell (k:=i) (by omega)
    obtain⟨W2,hW2⟩:∃ W2,W2=wr.alloc (.cells #[.int .i64 (sts.getD i st0).r,.int .i64 (sts.getD i st0).a,.int .i64 (sts.getD i st0).b,.int .i64 (sts.getD i st0).c,.int .i64 (sts.getD i st0).d] 36):=⟨_,rfl⟩
    have hbA:Below wr.heap.size wr W2:=by rw[hW2];exact below_alloc _ _
    have e0:W2.cell? ⟨wr.heap.size,0,none⟩=some (.int .i64 (sts.getD i st0).r):=by rw[hW2];simp
    have e1:W2.cell? ⟨wr.heap.size,1,none⟩=some (.int .i64 (sts.getD i st0).a):=by rw[hW2];simp
    have e2:W2.cell? ⟨wr.heap.size,2,none⟩=some (.int .i64 (sts.getD i st0).b):=by rw[hW2];simp
    have hr2':=hr.up hbA
    have hqA:=cell_below hbA hq
    have hbB:Below w.heap.size w W2:=hb.trans (hbA.mono hb.size)
    generalize sts.getD i st0=s at *
    have HlA:Hid (wr.heap.size < W2.heap.size):=block_lt e0
    go_upto_region 7 with fail
    rw[<-hW2]
    clear hW2 l0 l1 l2 l3 l4 lcell c2 hq hlb hmr hbA
    generalize hb7:bs.getD i false=b7 at *
    have Hb7:=hide hb7
    clear hb7
    by_cases h4:s.r=4
    ·have e0':=e0
     rw[h4]at e0'
     cases b7
     ·have Hc:Hid (needP sts i bs=some nd):=by
       have:=Hnx.out
       show needP sts i bs=some nd
       simpa using this
      go_wp2_with fail
      go_roundg i
      case measure=>omega
      case rel=>exact⟨i,(i:Int) - 1,bs,by omega,by omega,by go_num,rfl,Hc,hbl,hr2',hbB⟩
     ·have hin:=Hnx.out
      simp only[h4,decide_true,Bool.and_true,if_true]at hin
      split at hin
      ·rename_i hab
       obtain⟨a0,a1,b0,b1⟩:=hab
       obtain⟨x,hx⟩:=Int.eq_ofNat_of_zero_le a0
       obtain⟨y,hy⟩:=Int.eq_ofNat_of_zero_le b0
       rw[hx]at e1 a1 hin
       rw[hy]at e2 b1 hin
       have hxl:x < k+1:=by omega
       have hyl:y < k+1:=by omega
       have Hc:Hid (needP sts i ((bs.set x true).set y true)=some nd):=by show needP sts i _=some nd;simpa using hin
       have z1:=hr2'.cell (k:=x) (by omega)
       have z2:=hr2'.cell (k:=y) (by omega)
       have f1:W2.frozen? ⟨w.heap.size,x,none⟩=false:=frozen_of_row _ _ _ _ _ hr2'
       have f2:W2.frozen? ⟨w.heap.size,y,none⟩=false:=frozen_of_row _ _ _ _ _ hr2'
       have nbx:wr.heap.size≠w.heap.size:=by have:=hr.lt;omega
       generalize bs.getD x false=bx at *
       generalize bs.getD y false=by' at *
       clear hin a0 a1 b0 b1 hx hy
       go_upto_region 8 with fail
       have hcomm:(bs.set x true).set y true=(bs.set y true).set x true:=by
        by_cases hxy:x=y
        ·rw[hxy]
        ·exact List.set_comm _ _ hxy
       have Hcm:=hide hcomm
       clear hcomm
       by_cases hxy:x=y
       ·subst hxy
        go_region
        all_goals
         go_wp2_with fail
         go_roundg i
         case measure=>omega
         case rel=>
          refine⟨i,(i:Int) - 1,(bs.set x true).set x true,by omega,by omega,by go_num,rfl,Hc,by simp[hbl],?_,?_⟩
          ·exact(hr2'.set x true).set x true
          ·(repeat (first | exact hbB | refine Below.drew ?_ | refine below_put ?_ (Nat.le_refl _) _ _))
       ·have hyx:y≠x:=fun e=>hxy e.symm
        go_region
        all_goals
         go_wp2_with fail
         go_roundg i
         case measure=>omega
         case rel=>
          refine⟨i,(i:Int) - 1,(bs.set x true).set y true,by omega,by omega,by go_num,rfl,Hc,by simp[hbl],?_,?_⟩
          ·first
            | exact(hr2'.set x true).set y true
            | (rw[Hcm.out];exact(hr2'.set y true).set x true)
          ·(repeat (first | exact hbB | refine Below.drew ?_ | refine below_put ?_ (Nat.le_refl _) _ _))
      ·cases hin
    ·have hnb:(s.r == 4)=false:=by simp[h4]
     have Hc:Hid (needP sts i bs=some nd):=by
      have:=Hnx.out
      show needP sts i bs=some nd
      simpa[h4] using this
     cases b7
     ·go_wp2_with fail
      go_roundg i
      case measure=>omega
      case rel=>exact⟨i,(i:Int) - 1,bs,by omega,by omega,by go_num,rfl,Hc,hbl,hr2',hbB⟩
     ·go_wp2_with fail
      go_roundg i
      case measure=>omega
      case rel=>exact⟨i,(i:Int) - 1,bs,by omega,by omega,by go_num,rfl,Hc,hbl,hr2',hbB⟩
end Go.Proofs.YtjebhhoibofmfaaGreat
namespace Go.Proofs.YtjebhhoibofmfaaGreat
open Go.RowKit Go.Maps
theorem Row.keep{F:List Nat}{w w':World}{g:Nat}{c:List Int}(h:Row w g c)(hk:Keeps F w w')(hn:g ∉ F):Row w' g c:=hk.row hn h
theorem NdRow.keep{F:List Nat}{w w':World}{g:Nat}{c:List Bool}(h:NdRow w g c)(hk:Keeps F w w')(hn:g ∉ F):NdRow w' g c:=hk.row hn h
theorem movedS_no{pl:List Int}{s:St}(h:s.r≠4):movedS pl s=s:=by unfold movedS;rw[if_neg h]
set_option maxRecDepth 100000 in
set_option maxHeartbeats 4000000 in
theorem upto_any(m:Nat)(F:List Nat)(tv cv:Value)(P:Pf)(k:Nat)(out:List St)(w:World)(hP:PP w m F tv cv P)(hup:upToP P.sts k=some out) :
 Calls Tryz.prog 80 #[.pointer (some ⟨m,0,none⟩),.int .i64 k] w fun e w'=>∃ a c,e=.returned (.slice a out.length c)/\w'.ownsRow w.heap.size 36 5 (.slice a out.length c) out.length (stCells out)/\Below w.heap.size w w':=by
 obtain⟨i1,hi1,hy0,hy1,hy2⟩:=info_parts info_int
 obtain⟨i2,hi2,hx0,hx1,hx2⟩:=info_parts info_step
 unfold upToP at hup
 by_cases hcond:(k < P.sts.length && decide (P.sts.length<=stepsMax))=true
 ·rw[if_pos hcond]at hup
  have hcond':k < P.sts.length/\P.sts.length<=3518437208883:=by
   rw[Bool.and_eq_true]at hcond
   exact⟨of_decide_eq_true hcond.1,of_decide_eq_true hcond.2⟩
  obtain⟨hk,hmax⟩:=hcond'
  clear hcond
  cases hnd:needP P.sts (k+1) ((List.replicate (k+1) false).set k true)with
  | none=>rw[hnd]at hup;cases hup
  | some nd=>
  rw[hnd,Option.bind_some]at hup
  have hndl:=needP_len hnd
  simp at hndl
  have Hneed:=hide (needed_any m F tv cv P k nd w hP hk hmax hnd)
  obtain⟨_,la,lc,va,vc,mb,D,hF,hm,hla,hva,hmap,hD⟩:=hP
  have hst:=stepsAt_of_own hla
  obtain⟨gl,cl,rfl,hcl1,hcl2⟩:∃ gl cl,la=some ⟨gl,0,none⟩/\cl=lc/\P.sts.length<=cl:=by
   rcases hla.2 with⟨hv,_⟩ | ⟨g,cap,cur,hv,hb,hg,h1,h2,h3,h4⟩
   ·injection hv with hv h1 _
    omega
   ·injection hv with hv h7 h8
    exact⟨g,lc,hv,rfl,by rw[h8];exact h1⟩
  subst hcl1
  have Hm:=hide hm
  have Hst:=hide hst
  have Hup:=hide hup
  clear hF hm hla hva hmap hD hst hup hnd
  generalize hsts:P.sts=sts at *
  clear hsts
  go_enter Tryz.func80,Tryz.ntmps80
  go_wp2_with fail
  refine Hneed.out.mono ?_
  rintro e w1 ⟨gn,rfl,hn1,hgn,hb1⟩
  clear Hneed
  go_upto_region 4 with(at_make;refine make_row_nd _ rfl _ _ 29 rfl 3 i1 (.int .i64 0) Tryz.underlying29 hi1 hy0 hy1 rfl _ _ (k+1) _ (by simp) rfl rfl (by rw[hy2];omega) (by omega) ?_)
  obtain⟨W1,hW1⟩:∃ W1,W1=w1.alloc (.cells (madeCells #[.int .i64 0] (k+1)) 3):=⟨_,rfl⟩
  have hbA:Below w1.heap.size w1 W1:=by rw[hW1];exact below_alloc _ _
  have hr1:Row W1 w1.heap.size (zeros (k+1)):=by rw[hW1];unfold Row;rw[<-made_zeros];exact heap_at_new _ _ _ rfl
  rw[<-hW1]
  clear hW1
  have hnA:=hn1.up hbA
  have hbB:Below w.heap.size w W1:=hb1.trans (hbA.mono hb1.size)
  have hgp:w.heap.size<=w1.heap.size:=hb1.size
  have hmr:=(keeps_below hbB).row (by simp) Hm.out
  have c2:W1.cell? ⟨m,2,none⟩=some (.slice (some ⟨gl,0,none⟩) sts.length cl):=by rw[cell_of_row _ _ _ _ _ _ hmr];rfl
  have hown0:W1.ownsRow w.heap.size 36 5 (.slice none 0 0) 0 (stCells []):=⟨rfl,.inl ⟨rfl,rfl⟩⟩
  have hzl:(zeros (k+1)).length=k+1:=tab_length _ _
  have Hz:=hide hzl
  clear hmr hn1 hbA hzl
  generalize w1.heap.size=gp at *
  have htk:Hid ((sts.take (k+1)).length=k+1):=by show _=_;rw[List.length_take];omega
  go_wp2_with fail
  go_loopg [7,24] (k+1) (fun q v s wx=>∃(j:Nat) (va:Option Addr) (vc:Nat) (pl:List Int) (o:List St),q=(k+1) - j/\j<=k+1/\s=.int .i64 j/\v=.slice va o.length vc/\o.length<=j /\
   Hid (upP nd ((sts.take (k+1)).drop j) j pl o=some out)/\pl.length=k+1/\Row wx gp pl/\NdRow wx gn nd/\wx.ownsRow w.heap.size 36 5 (.slice va o.length vc) o.length (stCells o)/\Below w.heap.size w wx)
  case atStart=>exact⟨0,none,0,_,[],rfl,Nat.zero_le _,rfl,rfl,Nat.le_refl _,Hup,Hz.out,hr1,hnA,hown0,hbB⟩
  case round=>
   obtain⟨j,va,vc,pl,o,rfl,hj,rfl,rfl,hol,Hj,hpl,hr,hn,hown,hb⟩:=hrel
   by_cases hlt:j < k+1
   ·have hjl:j < sts.length:=by omega
    obtain⟨lb,lo,hlo,lcell⟩:=(Hst.out.below hb).get hjl
    injection hlo with hlo
    injection hlo with h1 h2 h3
    subst h1
    subst h2
    obtain⟨l0,l1,l2,l3,l4⟩:=lcell j hjl
    rw[Nat.zero_add]at l0 l1 l2 l3 l4
    have Hd:Hid ((sts.take (k+1)).drop j=sts.getD j st0 :: (sts.take (k+1)).drop (j+1)):=by
     show _=_
     rw[take_drop_one (by rw[htk.out];exact hlt)]
     congr 1
     rw[List.getD_eq_getElem?_getD,List.getElem?_take,if_pos hlt,<-List.getD_eq_getElem?_getD]
    have hq:=hn.cell (k:=j) (by omega)
    have hlb:=block_lt l0
    generalize sts.getD j st0=s at *
    obtain⟨W2,hW2⟩:∃ W2,W2=wr.alloc (.cells #[.int .i64 s.r,.int .i64 s.a,.int .i64 s.b,.int .i64 s.c,.int .i64 s.d] 36):=⟨_,rfl⟩
    have hbA:Below wr.heap.size wr W2:=by rw[hW2];exact below_alloc _ _
    have e0:W2.cell? ⟨wr.heap.size,0,none⟩=some (.int .i64 s.r):=by rw[hW2];simp
    have e1:W2.cell? ⟨wr.heap.size,1,none⟩=some (.int .i64 s.a):=by rw[hW2];simp
    have e2:W2.cell? ⟨wr.heap.size,2,none⟩=some (.int .i64 s.b):=by rw[hW2];simp
    have e3:W2.cell? ⟨wr.heap.size,3,none⟩=some (.int .i64 s.c):=by rw[hW2];simp
    have e4:W2.cell? ⟨wr.heap.size,4,none⟩=some (.int .i64 s.d):=by rw[hW2];simp
    have f1:W2.frozen? ⟨wr.heap.size,1,none⟩=false:=by rw[hW2];simp
    have f2:W2.frozen? ⟨wr.heap.size,2,none⟩=false:=by rw[hW2];simp
    have hqA:=cell_below hbA hq
    have hlA:wr.heap.size < W2.heap.size:=block_lt e0
    have HA:=hide (And.intro (hr.below hbA hr.lt) (And.intro (hn.up hbA) (And.intro (own_below hown hbA) (hb.trans (hbA.mono hb.size)))))
    have hgpl:=hr.lt
    have hgnl:=hn.lt
    have hbsz:=hb.size
    have hownl:∀ b∈blkOf va,b < wr.heap.size:=fun b hb7=>(hown.lt b (by cases va with
     | none=>simp[blkOf]at hb7
     | some a=>simp[blkOf]at hb7;simp[Value.ownBlock,hb7])).2
    have Hownl:=hide hownl
    go_upto_region 7 with fail
    rw[<-hW2]
    clear hW2 l0 l1 l2 l3 l4 lcell hq hlb hr hn hown hb hbA hownl h3
    generalize wr.heap.size=bx at *
    generalize hb7:nd.getD j false=b7 at *
    have Hb7:=hide hb7
    clear hb7
    cases b7
    ·have Hnx:Hid (upP nd ((sts.take (k+1)).drop (j+1)) (j+1) pl o=some out):=by
      have:=Hj.out
      rw[Hd.out]at this
      rw[upP,Hb7.out,if_neg (by simp)]at this
      exact this
     obtain⟨x1,x2,x3,x4⟩:=HA.out
     go_wp2_with fail
     go_roundg (k+1 - (j+1))
     case measure=>omega
     case rel=>exact⟨j+1,va,vc,pl,o,rfl,by omega,by go_num,rfl,by omega,Hnx,hpl,x1,x2,x3,x4⟩
    ·have Hnx:Hid (¬ (s.r=4/\¬ (0<=s.a/\s.a < pl.length/\0<=s.b/\s.b < pl.length))/\upP nd ((sts.take (k+1)).drop (j+1)) (j+1) (pl.set j (o.length:Int)) (o++[movedS pl s])=some out):=by
      have:=Hj.out
      rw[Hd.out]at this
      unfold upP at this
      rw[Hb7.out,if_pos rfl]at this
      split at this
      ·cases this
      ·rename_i hno;exact⟨hno,this⟩
     obtain⟨y1,y2,y3,y4⟩:=HA.out
     have Hy:=hide (And.intro y2 (And.intro y3 y4))
     clear y2 y3 y4 HA
     have hsplit:s.r=4\/s.r≠4:=Classical.em _
     have HC:Hid (∀ W3,Keeps [bx] W2 W3->Row W3 gp pl/\NdRow W3 gn nd/\W3.ownsRow w.heap.size 36 5 (.slice va o.length vc) o.length (stCells o)/\Below w.heap.size w W3):=by
      intro W3 hk3
      refine⟨y1.keep hk3 (by simp;omega),Hy.out.1.keep hk3 (by simp;omega),own_keep Hy.out.2.1 hk3 (fun b hb7=>by have:=Hownl.out b hb7;simp;omega),hk3.below Hy.out.2.2 Hy.out.2.2.size (by simp;omega)⟩
     rcases hsplit with h4 | h4
     ·have e0':=e0
      rw[h4]at e0'
      have hab:0<=s.a/\s.a < pl.length/\0<=s.b/\s.b < pl.length:=Classical.byContradiction fun hno=>Hnx.out.1 ⟨h4,hno⟩
      obtain⟨a0,a1,b0,b1⟩:=hab
      obtain⟨x,hx⟩:=Int.eq_ofNat_of_zero_le a0
      obtain⟨y,hy⟩:=Int.eq_ofNat_of_zero_le b0
      have hxl:x < pl.length:=by omega
      have hyl:y < pl.length:=by omega
      have hmv:Hid (movedS pl s=⟨s.r,pl.getD x 0,pl.getD y 0,s.c,s.d⟩):=by
       show movedS pl s=_
       unfold movedS
       rw[if_pos h4,hx,hy]
       rfl
      rw[hx]at e1
      rw[hy]at e2
      have z1:=y1.cell hxl
      have z2:=y1.cell hyl
      rw[hpl]at hxl hyl
      generalize pl.getD x 0=px at *
      generalize pl.getD y 0=py at *
      have nb:gp≠bx:=by omega
      have He0:=hide e0
      clear a0 a1 b0 b1 hx hy e0
      go_upto_region 9 with fail
      go_region
      go_upto_region 10 with fail
      obtain⟨W3,hW3⟩:∃ W3,W3=((W2.setCell ⟨bx,1,none⟩ (.int .i64 px)).setCell ⟨bx,2,none⟩ (.int .i64 py)).drew:=⟨_,rfl⟩
      rw[<-hW3]
      have hk3:Keeps [bx] W2 W3:=by rw[hW3];exact(((Keeps.refl _ _).set (by simp) _).set (by simp) _).drew
      have n0:W3.cell? ⟨bx,0,none⟩=some (.int .i64 s.r):=by rw[hW3];exact drew_old (set_other (.inr (by decide)) (set_other (.inr (by decide)) He0.out))
      have n1:W3.cell? ⟨bx,1,none⟩=some (.int .i64 px):=by rw[hW3];exact drew_old (set_other (.inr (by decide)) (set_same e1))
      have n2:W3.cell? ⟨bx,2,none⟩=some (.int .i64 py):=by rw[hW3];exact drew_old (set_same (set_other (.inr (by decide)) e2))
      have n3:W3.cell? ⟨bx,3,none⟩=some (.int .i64 s.c):=by rw[hW3];exact drew_old (set_other (.inr (by decide)) (set_other (.inr (by decide)) e3))
      have n4:W3.cell? ⟨bx,4,none⟩=some (.int .i64 s.d):=by rw[hW3];exact drew_old (set_other (.inr (by decide)) (set_other (.inr (by decide)) e4))
      clear hW3 e0' e1 e2 e3 e4 z1 z2 f1 f2 He0
      have Hnx2:=hide Hnx.out.2
      obtain⟨r1,r2,r3,r4⟩:=HC.out W3 hk3
      have t1:=r1.cell (k:=j) (by omega)
      have t2:W3.frozen? ⟨gp,j,none⟩=false:=frozen_of_row _ _ _ _ _ r1
      rw[hmv.out]at Hnx2
      obtain⟨s',hs'⟩:∃ s':St,s'=⟨s.r,px,py,s.c,s.d⟩:=⟨_,rfl⟩
      rw[<-hs']at Hnx2
      replace n0:W3.cell? ⟨bx,0,none⟩=some (.int .i64 s'.r):=by rw[hs'];exact n0
      replace n1:W3.cell? ⟨bx,1,none⟩=some (.int .i64 s'.a):=by rw[hs'];exact n1
      replace n2:W3.cell? ⟨bx,2,none⟩=some (.int .i64 s'.b):=by rw[hs'];exact n2
      replace n3:W3.cell? ⟨bx,3,none⟩=some (.int .i64 s'.c):=by rw[hs'];exact n3
      replace n4:W3.cell? ⟨bx,4,none⟩=some (.int .i64 s'.d):=by rw[hs'];exact n4
      clear hs' h4 hmv
      have r1':=r1.set j (o.length:Int)
      obtain⟨W4,hW4⟩:∃ W4,W4=W3.setCell ⟨gp,j,none⟩ (.int .i64 (o.length:Int)):=⟨_,rfl⟩
      have hk4:Keeps [gp] W3 W4:=by rw[hW4];exact(Keeps.refl _ _).set (by simp) _
      rw[<-hW4]at r1'
      have nbg:bx ∉ [gp]:=by simp;omega
      have ngn:gn ∉ [gp]:=by
       intro h7
       simp at h7
       exact apart_ty r2 r1 (by decide) h7
      have r2':=r2.keep hk4 ngn
      have r3':=own_keep r3 hk4 (fun b hb7 h7=>by simp at h7;subst h7;exact own_not r3 r1 (fun cur e=>by injection e with _ e;exact absurd e (by decide)) hb7)
      have r4':=hk4.below r4 r4.size (by simp;omega)
      replace n0:=hk4.cell nbg n0
      replace n1:=hk4.cell nbg n1
      replace n2:=hk4.cell nbg n2
      replace n3:=hk4.cell nbg n3
      replace n4:=hk4.cell nbg n4
      have hlen:o.length<=3518437208882:=by omega
      have hsz4:w.heap.size<=W4.heap.size:=r4'.size
      generalize hpj:pl.getD j 0=pj at *
      clear hpj
      go_upto_region 11 with fail
      rw[<-hW4]
      clear hW4 t1 t2 r1 r2 r3 r4 hk3 hk4
      go_upto_region 12 with(at_builtin;refine wpList_append_own _ rfl (.tmp 54) (.tmp 56) 26 rfl w.heap.size 36 i2 (.agg #[.int .i64 0,.int .i64 0,.int .i64 0,.int .i64 0,.int .i64 0]) 5 40 Tryz.underlying26 hi2 hx0 hx1 hx2 rfl (by decide) (.slice va o.length vc) o.length (stCells o) rfl (r3'.alloc _) ⟨W4.heap.size,0,none⟩ 1 1 (siCells s') rfl rfl (by simpa using new_si W4 s' 36) (siCells_one _) (by unfold maxLen;omega) (by omega) (by simp;omega) ?_)
      intro qv w7 hown7 hgr7 hz7
      clear hz7
      have hkA:=app_keep hgr7
      have r1'':=r1'.keep hkA (own_not r3' r1' (fun cur e=>by injection e with _ e;exact absurd e (by decide)))
      have r2'':=r2'.keep hkA (own_not r3' r2' (fun cur e=>by injection e with _ e;exact absurd e (by decide)))
      have r4'':Below w.heap.size w w7:=hkA.below r4' hsz4 (fun b hb7=>(r3'.lt b (by cases va with
       | none=>simp[blkOf]at hb7
       | some a=>simp[blkOf]at hb7;simp[Value.ownBlock,hb7])).1)
      obtain⟨va',vc',hqv⟩:=own_val hown7
      subst hqv
      clear hgr7 r1' r2' r3' r4' hkA n0 n1 n2 n3 n4
      go_wp2_with fail
      go_roundg (k+1 - (j+1))
      case measure=>omega
      case rel=>exact⟨j+1,va',vc',pl.set j (o.length:Int),o++[s'],rfl,by omega,by go_num,by simp,by simp;omega,Hnx2,by simp[hpl],r1'',r2'',by rw[stCells_snoc];simpa using hown7,r4''⟩
     ·have hnb:(s.r == 4)=false:=by simp[h4]
      have hmv:=hide (movedS_no (pl:=pl) h4)
      go_upto_region 10 with fail
      have hk3:Keeps [bx] W2 W2:=Keeps.refl _ _
      have n0:=e0
      have n1:=e1
      have n2:=e2
      have n3:=e3
      have n4:=e4
      clear e0 e1 e2 e3 e4 f1 f2
      generalize hW3:W2=W3 at *
      clear hW3
      have Hnx2:=hide Hnx.out.2
      obtain⟨r1,r2,r3,r4⟩:=HC.out W3 hk3
      have t1:=r1.cell (k:=j) (by omega)
      have t2:W3.frozen? ⟨gp,j,none⟩=false:=frozen_of_row _ _ _ _ _ r1
      rw[hmv.out]at Hnx2
      obtain⟨s',hs'⟩:∃ s':St,s'=s:=⟨_,rfl⟩
      rw[<-hs']at Hnx2 n0 n1 n2 n3 n4
      clear hs' h4 hnb hmv
      have r1':=r1.set j (o.length:Int)
      obtain⟨W4,hW4⟩:∃ W4,W4=W3.setCell ⟨gp,j,none⟩ (.int .i64 (o.length:Int)):=⟨_,rfl⟩
      have hk4:Keeps [gp] W3 W4:=by rw[hW4];exact(Keeps.refl _ _).set (by simp) _
      rw[<-hW4]at r1'
      have nbg:bx ∉ [gp]:=by simp;omega
      have ngn:gn ∉ [gp]:=by
       intro h7
       simp at h7
       exact apart_ty r2 r1 (by decide) h7
      have r2':=r2.keep hk4 ngn
      have r3':=own_keep r3 hk4 (fun b hb7 h7=>by simp at h7;subst h7;exact own_not r3 r1 (fun cur e=>by injection e with _ e;exact absurd e (by decide)) hb7)
      have r4':=hk4.below r4 r4.size (by simp;omega)
      replace n0:=hk4.cell nbg n0
      replace n1:=hk4.cell nbg n1
      replace n2:=hk4.cell nbg n2
      replace n3:=hk4.cell nbg n3
      replace n4:=hk4.cell nbg n4
      have hlen:o.length<=3518437208882:=by omega
      have hsz4:w.heap.size<=W4.heap.size:=r4'.size
      generalize hpj:pl.getD j 0=pj at *
      clear hpj
      go_upto_region 11 with fail
      rw[<-hW4]
      clear hW4 t1 t2 r1 r2 r3 r4 hk3 hk4
      go_upto_region 12 with(at_builtin;refine wpList_append_own _ rfl (.tmp 54) (.tmp 56) 26 rfl w.heap.size 36 i2 (.agg #[.int .i64 0,.int .i64 0,.int .i64 0,.int .i64 0,.int .i64 0]) 5 40 Tryz.underlying26 hi2 hx0 hx1 hx2 rfl (by decide) (.slice va o.length vc) o.length (stCells o) rfl (r3'.alloc _) ⟨W4.heap.size,0,none⟩ 1 1 (siCells s') rfl rfl (by simpa using new_si W4 s' 36) (siCells_one _) (by unfold maxLen;omega) (by omega) (by simp;omega) ?_)
      intro qv w7 hown7 hgr7 hz7
      clear hz7
      have hkA:=app_keep hgr7
      have r1'':=r1'.keep hkA (own_not r3' r1' (fun cur e=>by injection e with _ e;exact absurd e (by decide)))
      have r2'':=r2'.keep hkA (own_not r3' r2' (fun cur e=>by injection e with _ e;exact absurd e (by decide)))
      have r4'':Below w.heap.size w w7:=hkA.below r4' hsz4 (fun b hb7=>(r3'.lt b (by cases va with
       | none=>simp[blkOf]at hb7
       | some a=>simp[blkOf]at hb7;simp[Value.ownBlock,hb7])).1)
      obtain⟨va',vc',hqv⟩:=own_val hown7
      subst hqv
      clear hgr7 r1' r2' r3' r4' hkA n0 n1 n2 n3 n4
      go_wp2_with fail
      go_roundg (k+1 - (j+1))
      case measure=>omega
      case rel=>exact⟨j+1,va',vc',pl.set j (o.length:Int),o++[s'],rfl,by omega,by go_num,by simp,by simp;omega,Hnx2,by simp[hpl],r1'',r2'',by rw[stCells_snoc];simpa using hown7,r4''⟩
   ·have Hfin:Hid (o=out):=by
     show o=out
     have:=Hj.out
     rw[List.drop_of_length_le (by rw[htk.out];omega)]at this
     simpa[upP] using this
    go_wp2_with fail
    go_ret
    rw[<-Hfin.out]
    exact⟨_,_,rfl,hown,hb⟩
 ·rw[if_neg hcond]at hup;cases hup
end Go.Proofs.YtjebhhoibofmfaaGreat
