import Derived.Test.YtjebhhoibofmfaaGreatBMWi
namespace Go.Proofs.YtjebhhoibofmfaaGreat
open Go.RowKit
def enCells(e:En):List Value:=[.int .i64 e.pair,.int .i64 e.lit.x,.int .i64 e.lit.y,.bool e.lit.n,.int .i64 e.reason]
def esCells(es:List En):List Value:=es.flatMap enCells
def en0:En:=⟨0,lt0,0⟩
theorem esCells_snoc(es:List En)(e:En):esCells (es++[e])=esCells es++enCells e:=by simp[esCells]
theorem esCells_length(es:List En):(esCells es).length=es.length*5:=by
 induction es with
 | nil=>rfl
 | cons t ts ih=>simp only[esCells,List.flatMap_cons,List.length_append,enCells,List.length_cons,List.length_nil]at *; omega
theorem esCells_get(es:List En):∀ i,i < es.length->(esCells es)[i*5]?=some (.int .i64 (es.getD i en0).pair)/\(esCells es)[i*5+1]?=some (.int .i64 (es.getD i en0).lit.x)/\(esCells es)[i*5+2]?=some (.int .i64 (es.getD i en0).lit.y) /\
 (esCells es)[i*5+3]?=some (.bool (es.getD i en0).lit.n)/\(esCells es)[i*5+4]?=some (.int .i64 (es.getD i en0).reason):=by
 induction es with
 | nil=>intro i hi;simp at hi
 | cons t ts ih=>
   intro i hi
   cases i with
   | zero=>exact⟨rfl,rfl,rfl,rfl,rfl⟩
   | succ i=>
     have h:=ih i (by simpa using hi)
     have hc:esCells (t :: ts)=.int .i64 t.pair :: .int .i64 t.lit.x :: .int .i64 t.lit.y :: .bool t.lit.n :: .int .i64 t.reason :: esCells ts:=rfl
     rw[hc,show(i+1)*5=i*5+1+1+1+1+1 by omega]
     simpa using h
theorem info_entry:(Tryz.prog.info? 155).map (fun i=>(i.zero,i.size,i.bytes))=some (some (.agg #[.int .i64 0,.int .i64 0,.int .i64 0,.bool false,.int .i64 0]),5,40):=by kernel_rfl
theorem new_en(w:World)(e:En)(t:TypeId):∀ j u,(enCells e)[j]?=some u->(w.alloc (.cells #[.int .i64 e.pair,.int .i64 e.lit.x,.int .i64 e.lit.y,.bool e.lit.n,.int .i64 e.reason] t)).cell? ((⟨w.heap.size,0,none⟩:Addr).add j)=some u:=by
 intro j u hj
 match j,hj with
 | 0,hj=>simp[enCells]at hj;subst hj;simp[Addr.add]
 | 1,hj=>simp[enCells]at hj;subst hj;simp[Addr.add]
 | 2,hj=>simp[enCells]at hj;subst hj;simp[Addr.add]
 | 3,hj=>simp[enCells]at hj;subst hj;simp[Addr.add]
 | 4,hj=>simp[enCells]at hj;subst hj;simp[Addr.add]
 | j+5,hj=>simp[enCells]at hj
theorem enCells_one(e:En):∀ u∈enCells e,u.oneCell'=true:=by
 intro u hu
 simp[enCells]at hu
 rcases hu with rfl | rfl | rfl | rfl | rfl <;> rfl
theorem own_entries{w:World}{base:Nat}{a:Option Addr}{cap:Nat}{es:List En}(h:w.ownsRow base 155 5 (.slice a es.length cap) es.length (esCells es)){i:Nat}(hi:i < es.length) :
 ∃ g,a=some ⟨g,0,none⟩/\es.length<=cap/\w.cell? ⟨g,i*5,none⟩=some (.int .i64 (es.getD i en0).pair)/\w.cell? ⟨g,i*5+1,none⟩=some (.int .i64 (es.getD i en0).lit.x)/\w.cell? ⟨g,i*5+2,none⟩=some (.int .i64 (es.getD i en0).lit.y) /\
  w.cell? ⟨g,i*5+3,none⟩=some (.bool (es.getD i en0).lit.n)/\w.cell? ⟨g,i*5+4,none⟩=some (.int .i64 (es.getD i en0).reason):=by
 obtain⟨h1,h2 | ⟨g,cap',cur,hv,hb,hg,hn,hm,hc,hx⟩⟩:=h
 ·omega
 ·injection hv with hv h7 h8
  subst hv
  have he:=esCells_get es i hi
  rw[<-hx]at he
  simp only[List.getElem?_take]at he
  rw[if_pos (by omega),if_pos (by omega),if_pos (by omega),if_pos (by omega),if_pos (by omega)]at he
  refine⟨g,rfl,by rw[h8];exact hn,?_,?_,?_,?_,?_⟩
  ·rw[cell_of_row w g _ cur 155 (0,0) hg];simpa using he.1
  ·rw[cell_of_row w g _ cur 155 (0,0) hg];simpa using he.2.1
  ·rw[cell_of_row w g _ cur 155 (0,0) hg];simpa using he.2.2.1
  ·rw[cell_of_row w g _ cur 155 (0,0) hg];simpa using he.2.2.2.1
  ·rw[cell_of_row w g _ cur 155 (0,0) hg];simpa using he.2.2.2.2
structure Sc where
 E:Env
 ts:List Tm
 cs:List Cl
 w0:World
 ta:Option Addr
 sa:Option Addr
 tc:Nat
 sc:Nat
 s:Nat
 m:Nat
 q:Nat
 pa:Option Addr
 pc:Nat
 prs:List Pr
 ka:Option Addr
 kc:Nat
structure Sc.Ok (c:Sc):Prop where
 hX:CutHolds
 hE:EnvAll c.E c.ts c.cs
 hts:termsB c.ts=true
 hcl:clausesB c.ts.length c.cs=true
 ht:TermsAt c.w0 c.ta c.ts
 hcs:ClausesAt c.w0 c.sa c.cs
 hp:∀ i,i < c.prs.length->LowL c.ts.length (litI c.prs i false)
 h45:c.prs.length<=45
def RowOk(c:Sc)(S:Sr):Prop:=S.ws.length=c.prs.length/\(S.tk.1 < 18446744073709551616/\S.tk.2 < 18446744073709551616)/\(∀ e∈S.row,LowL c.ts.length e.lit/\e.pair < c.prs.length)/\S.row.length<=50
def Tags(tag:Nat->Nat)(s:Nat)(FP FQ:List Nat)(ka ra pa:Option Addr):Prop:=
 tag s=0/\(∀ b∈FP,tag b=1)/\(∀ b∈FQ,tag b=2)/\(∀ b∈blkOf ka,tag b=3)/\(∀ b∈blkOf ra,tag b=4)/\(∀ b∈blkOf pa,tag b=5)
def SS(c:Sc)(w:World)(F:List Nat)(S:Sr):Prop:=
 (Below c.w0.heap.size c.w0 w/\(∀ k∈F,c.w0.heap.size<=k)/\RowOk c S) /\
 ∃ FP FQ ra rc tag,F=c.s :: (FP++(FQ++(blkOf c.ka++blkOf ra)))/\Tags tag c.s FP FQ c.ka ra c.pa /\
  w.heap[c.s]?=some (.cells #[.slice c.ta c.ts.length c.tc,.pointer (some ⟨c.m,0,none⟩),.slice c.ka S.kn.length c.kc,.slice c.pa c.prs.length c.pc,.pointer (some ⟨c.q,0,none⟩),.slice ra S.row.length rc,.int .u64 S.tk.1,.int .u64 S.tk.2] 133 (0,0)) /\
  PP w c.m FP (.slice c.ta c.ts.length c.tc) (.slice c.sa c.cs.length c.sc) S.P/\QQ w c.q FQ S.ws S.ns /\
  w.ownsRow 0 3 1 (.slice c.ka S.kn.length c.kc) S.kn.length (intCells (intL S.kn))/\w.ownsRow 0 155 5 (.slice ra S.row.length rc) S.row.length (esCells S.row) /\
  PairsAt w c.pa c.prs/\(∀ b∈blkOf c.pa,b < w.heap.size)
theorem QQ.lt{w:World}{q:Nat}{F ws ns:List Nat}(h:QQ w q F ws ns):∀ b∈F,b < w.heap.size:=by
 obtain⟨hg,gw,gp,va,vc,rfl,⟨⟨h1,h2,h3,h4⟩,h5⟩⟩:=h
 intro b hb
 simp only[List.mem_cons]at hb
 rcases hb with rfl | rfl | rfl | hb
 ·exact(Array.getElem?_eq_some_iff.1 h1).1
 ·exact(Array.getElem?_eq_some_iff.1 h2).1
 ·exact h3.lt
 ·exact(own_lt h4 b hb).2
theorem SS.lt{c:Sc}{w:World}{F:List Nat}{S:Sr}(h:SS c w F S):∀ b∈F,b < w.heap.size:=by
 obtain⟨_,FP,FQ,ra,rc,tag,rfl,ht,hs,hP,hQ,hk,hr,hp,hpl⟩:=h
 intro b hb
 simp only[List.mem_cons,List.mem_append]at hb
 rcases hb with rfl | hb | hb | hb | hb
 ·exact(Array.getElem?_eq_some_iff.1 hs).1
 ·exact hP.lt b hb
 ·exact hQ.lt b hb
 ·exact(own_lt hk b hb).2
 ·exact(own_lt hr b hb).2
theorem SS.up{c:Sc}{w w':World}{F:List Nat}{S:Sr}(h:SS c w F S)(hb:Below w.heap.size w w'):SS c w' F S:=by
 obtain⟨⟨h1,h2,h3⟩,FP,FQ,ra,rc,tag,hF,ht,hs,hP,hQ,hk,hr,hp,hpl⟩:=h
 have hK:=keeps_below hb
 exact⟨⟨h1.trans (hb.mono h1.size),h2,h3⟩,FP,FQ,ra,rc,tag,hF,ht,hK.row (by simp) hs,hP.keep hK (by simp),hQ.keep hK (by simp),own_below hk hb,own_below hr hb,hp.below hb,fun b hb'=>Nat.lt_of_lt_of_le (hpl b hb') hb.size⟩
def tagNew(tag:Nat->Nat)(w:World)(i:Nat):Nat->Nat:=fun b=>if b < w.heap.size then tag b else i
theorem tagNew_old{tag:Nat->Nat}{w:World}{i b:Nat}(h:b < w.heap.size):tagNew tag w i b=tag b:=if_pos h
theorem tagNew_fresh{tag:Nat->Nat}{w:World}{i:Nat}{F F':List Nat}(h:∀ b∈F,tag b=i)(_:∀ b∈F,b < w.heap.size)(hf:Fresh F F' w):∀ b∈F',tagNew tag w i b=i:=by
 intro b hb
 unfold tagNew
 split
 ·rename_i h1
  rcases hf b hb with h2 | h2
  ·exact h b h2
  ·omega
 ·rfl
theorem off_tag{tag:Nat->Nat}{i j:Nat}{A B:List Nat}(hA:∀ b∈A,tag b=i)(hB:∀ b∈B,tag b=j)(hne:i≠j):∀ b∈A,b ∉ B:=fun b h1 h2=>hne ((hA b h1).symm.trans (hB b h2))
theorem SS.withP{c:Sc}{w:World}{F:List Nat}{S:Sr}(h:SS c w F S){P':Pf}{f:FuncId}{args:Array Value}{Post:Ending->Prop}
 (hstep:∀ FP,PP w c.m FP (.slice c.ta c.ts.length c.tc) (.slice c.sa c.cs.length c.sc) S.P->(∀ b∈FP,b∈F)->Calls Tryz.prog f args w fun e w'=>Post e/\∃ FP',PP w' c.m FP' (.slice c.ta c.ts.length c.tc) (.slice c.sa c.cs.length c.sc) P'/\Fresh FP FP' w/\Keeps FP w w') :
 Calls Tryz.prog f args w fun e w'=>Post e/\∃ F',SS c w' F' { S with P:=P' }/\Fresh F F' w/\Keeps F w w':=by
 have hlt:=h.lt
 obtain⟨⟨h1,h2,h3⟩,FP,FQ,ra,rc,tag,hF,ht,hs,hP,hQ,hk,hr,hp,hpl⟩:=h
 refine(hstep FP hP (by intro b hb;rw[hF];simp[hb])).mono ?_
 rintro e w' ⟨hpost,FP',hP',hf,hK⟩
 refine⟨hpost,?_⟩
 obtain⟨t0,t1,t2,t3,t4,t5⟩:=ht
 have hKF:Keeps F w w':=hK.mono (by intro b hb;rw[hF];simp[hb])
 have hfr:Fresh F (c.s :: (FP'++(FQ++(blkOf c.ka++blkOf ra)))) w:=by
  intro b hb
  rw[hF]
  simp only[List.mem_cons,List.mem_append]at hb ⊢
  rcases hb with rfl | hb | hb | hb | hb
  ·simp
  ·rcases hf b hb with h7 | h7
   ·simp[h7]
   ·exact .inr h7
  ·simp[hb]
  ·simp[hb]
  ·simp[hb]
 have hsn:c.s ∉ FP:=fun hx=>by have:=t1 _ hx;omega
 refine⟨c.s :: (FP'++(FQ++(blkOf c.ka++blkOf ra))),⟨⟨hKF.below h1 h1.size h2,?_,h3⟩,FP',FQ,ra,rc,tagNew tag w 1,rfl,⟨?_,?_,?_,?_,?_,?_⟩,hK.row hsn hs,hP',hQ.keep hK (off_tag t2 t1 (by decide)),own_keep hk hK (off_tag t3 t1 (by decide)),own_keep hr hK (off_tag t4 t1 (by decide)),hp.keep hK (off_tag t5 t1 (by decide)),fun b hb=>Nat.lt_of_lt_of_le (hpl b hb) hK.size⟩,hfr,hKF⟩
 ·intro b hb
  rcases hfr b hb with h7 | h7
  ·exact h2 b h7
  ·exact Nat.le_trans h1.size h7
 ·rw[tagNew_old (hlt _ (by rw[hF];simp))];exact t0
 ·exact tagNew_fresh t1 hP.lt hf
 ·intro b hb;rw[tagNew_old (hQ.lt b hb)];exact t2 b hb
 ·intro b hb;rw[tagNew_old (own_lt hk b hb).2];exact t3 b hb
 ·intro b hb;rw[tagNew_old (own_lt hr b hb).2];exact t4 b hb
 ·intro b hb;rw[tagNew_old (hpl b hb)];exact t5 b hb
theorem SS.withQ{c:Sc}{w:World}{F:List Nat}{S:Sr}(h:SS c w F S){ws' ns':List Nat}(hl:ws'.length=S.ws.length){f:FuncId}{args:Array Value}{Post:Ending->Prop}
 (hstep:∀ FQ,QQ w c.q FQ S.ws S.ns->(∀ b∈FQ,b∈F)->Calls Tryz.prog f args w fun e w'=>Post e/\∃ FQ',QQ w' c.q FQ' ws' ns'/\Fresh FQ FQ' w/\Keeps FQ w w') :
 Calls Tryz.prog f args w fun e w'=>Post e/\∃ F',SS c w' F' { S with ws:=ws',ns:=ns' }/\Fresh F F' w/\Keeps F w w':=by
 have hlt:=h.lt
 obtain⟨⟨h1,h2,h3⟩,FP,FQ,ra,rc,tag,hF,ht,hs,hP,hQ,hk,hr,hp,hpl⟩:=h
 refine(hstep FQ hQ (by intro b hb;rw[hF];simp[hb])).mono ?_
 rintro e w' ⟨hpost,FQ',hQ',hf,hK⟩
 refine⟨hpost,?_⟩
 obtain⟨t0,t1,t2,t3,t4,t5⟩:=ht
 have hKF:Keeps F w w':=hK.mono (by intro b hb;rw[hF];simp[hb])
 have hfr:Fresh F (c.s :: (FP++(FQ'++(blkOf c.ka++blkOf ra)))) w:=by
  intro b hb
  rw[hF]
  simp only[List.mem_cons,List.mem_append]at hb ⊢
  rcases hb with rfl | hb | hb | hb | hb
  ·simp
  ·simp[hb]
  ·rcases hf b hb with h7 | h7
   ·simp[h7]
   ·exact .inr h7
  ·simp[hb]
  ·simp[hb]
 have hsn:c.s ∉ FQ:=fun hx=>by have:=t2 _ hx;omega
 refine⟨c.s :: (FP++(FQ'++(blkOf c.ka++blkOf ra))),⟨⟨hKF.below h1 h1.size h2,?_,⟨by show ws'.length=_;rw[hl];exact h3.1,h3.2⟩⟩,FP,FQ',ra,rc,tagNew tag w 2,rfl,⟨?_,?_,?_,?_,?_,?_⟩,hK.row hsn hs,hP.keep hK (off_tag t1 t2 (by decide)),hQ',own_keep hk hK (off_tag t3 t2 (by decide)),own_keep hr hK (off_tag t4 t2 (by decide)),hp.keep hK (off_tag t5 t2 (by decide)),fun b hb=>Nat.lt_of_lt_of_le (hpl b hb) hK.size⟩,hfr,hKF⟩
 ·intro b hb
  rcases hfr b hb with h7 | h7
  ·exact h2 b h7
  ·exact Nat.le_trans h1.size h7
 ·rw[tagNew_old (hlt _ (by rw[hF];simp))];exact t0
 ·intro b hb;rw[tagNew_old (hP.lt b hb)];exact t1 b hb
 ·exact tagNew_fresh t2 hQ.lt hf
 ·intro b hb;rw[tagNew_old (own_lt hk b hb).2];exact t3 b hb
 ·intro b hb;rw[tagNew_old (own_lt hr b hb).2];exact t4 b hb
 ·intro b hb;rw[tagNew_old (hpl b hb)];exact t5 b hb
theorem SS.cells{c:Sc}{w:World}{F:List Nat}{S:Sr}(h:SS c w F S):∃ ka kc ra rc,w.cell? ⟨c.s,0,none⟩=some (.slice c.ta c.ts.length c.tc)/\w.cell? ⟨c.s,1,none⟩=some (.pointer (some ⟨c.m,0,none⟩))/\w.cell? ⟨c.s,2,none⟩=some (.slice ka S.kn.length kc) /\
 w.cell? ⟨c.s,3,none⟩=some (.slice c.pa c.prs.length c.pc)/\w.cell? ⟨c.s,4,none⟩=some (.pointer (some ⟨c.q,0,none⟩))/\w.cell? ⟨c.s,5,none⟩=some (.slice ra S.row.length rc)/\w.cell? ⟨c.s,6,none⟩=some (.int .u64 S.tk.1)/\w.cell? ⟨c.s,7,none⟩=some (.int .u64 S.tk.2) /\
 w.ownsRow 0 3 1 (.slice ka S.kn.length kc) S.kn.length (intCells (intL S.kn))/\w.ownsRow 0 155 5 (.slice ra S.row.length rc) S.row.length (esCells S.row):=by
 obtain⟨_,FP,FQ,ra,rc,tag,hF,ht,hs,hP,hQ,hk,hr,hp,hpl⟩:=h
 refine⟨c.ka,c.kc,ra,rc,?_,?_,?_,?_,?_,?_,?_,?_,hk,hr⟩ <;> (rw[cell_of_row _ _ _ _ _ _ hs];rfl)
theorem SS.known{c:Sc}{w:World}{F:List Nat}{S:Sr}(h:SS c w F S):w.cell? ⟨c.s,2,none⟩=some (.slice c.ka S.kn.length c.kc)/\w.ownsRow 0 3 1 (.slice c.ka S.kn.length c.kc) S.kn.length (intCells (intL S.kn)):=by
 obtain⟨_,FP,FQ,ra,rc,tag,hF,ht,hs,hP,hQ,hk,hr,hp,hpl⟩:=h
 exact⟨by rw[cell_of_row _ _ _ _ _ _ hs];rfl,hk⟩
theorem SS.pairs{c:Sc}{w:World}{F:List Nat}{S:Sr}(h:SS c w F S):PairsAt w c.pa c.prs:=by
 obtain⟨_,FP,FQ,ra,rc,tag,hF,ht,hs,hP,hQ,hk,hr,hp,hpl⟩:=h
 exact hp
theorem SS.frozen{c:Sc}{w:World}{F:List Nat}{S:Sr}(h:SS c w F S)(i:Nat):w.frozen? ⟨c.s,i,none⟩=false:=by
 obtain⟨_,FP,FQ,ra,rc,tag,hF,ht,hs,hP,hQ,hk,hr,hp,hpl⟩:=h
 exact frozen_of_row _ _ _ _ _ hs
end Go.Proofs.YtjebhhoibofmfaaGreat
namespace Go.Proofs.YtjebhhoibofmfaaGreat
open Go.RowKit
set_option maxRecDepth 100000 in
set_option maxHeartbeats 2000000 in
theorem lit_any{c:Sc}{w:World}{F:List Nat}{S:Sr}(h:SS c w F S)(i:Nat)(n:Bool)(hi:i < c.prs.length) :
 Calls Tryz.prog 120 #[.pointer (some ⟨c.s,0,none⟩),.int .i64 i,.bool n] w fun e w'=>e=.returned (.agg #[.int .i64 (litI c.prs i n).x,.int .i64 (litI c.prs i n).y,.bool (litI c.prs i n).n])/\Below w.heap.size w w':=by
 obtain⟨ka,kc,ra,rc,s0,s1,s2,s3,s4,s5,s6,s7,hk,hr⟩:=h.cells
 obtain⟨pb,po,hpa,pcell⟩:=h.pairs.get hi
 obtain⟨p1,p2⟩:=pcell i hi
 rw[hpa]at s3
 have hll:=block_lt s3
 have hlp:=block_lt p1
 unfold litI
 generalize c.prs.getD i pr0=p at *
 obtain⟨x,y⟩:=p
 simp only at p1 p2 ⊢
 generalize c.prs.length=pl at *
 clear pcell hk hr s0 s1 s2 s4 s5 s6 s7 hpa h
 go_enter Tryz.func120,Tryz.ntmps120
 go_upto_region 1 with fail
 go_region
 all_goals
  go_wp2_with fail
  exact bodyPost_ret (v:=.agg #[.int .i64 x,.int .i64 y,.bool n]) (by simp[results,Tryz.results120,go_sem]) rfl ⟨rfl,by(repeat (first | exact below_alloc _ _ | refine Below.drew ?_ | refine below_put ?_ (Nat.le_refl _) _ _))⟩
theorem eqsOf_take{row:List En}{j:Nat}(h:j < row.length):eqsOf (row.take (j+1))=if(row.getD j en0).lit.n then eqsOf (row.take j)else eqsOf (row.take j)++[⟨(row.getD j en0).lit.x,(row.getD j en0).lit.y⟩]:=by
 rw[List.take_succ_eq_append_getElem h,List.getD_eq_getElem?_getD,List.getElem?_eq_getElem h,Option.getD_some]
 unfold eqsOf
 rw[List.filter_append,List.map_append]
 cases hn:row[j].lit.n <;> simp[hn]
set_option maxRecDepth 100000 in
set_option maxHeartbeats 2000000 in
theorem equalPairs_any{c:Sc}{w:World}{F:List Nat}{S:Sr}(h:SS c w F S) :
 Calls Tryz.prog 79 #[.pointer (some ⟨c.s,0,none⟩)] w fun e w'=>∃ a cap,e=.returned (.slice a (eqsOf S.row).length cap)/\w'.ownsRow w.heap.size 58 2 (.slice a (eqsOf S.row).length cap) (eqsOf S.row).length (psCells (eqsOf S.row))/\Below w.heap.size w w':=by
 obtain⟨i1,hi1,hy0,hy1,hy2⟩:=info_parts info_pair
 have h50:=h.1.2.2.2.2.2
 obtain⟨ka,kc,ra,rc,s0,s1,s2,s3,s4,s5,s6,s7,hk,hr⟩:=h.cells
 have Hr:=hide hr
 clear h s0 s1 s2 s3 s4 s6 s7 hk hr
 generalize S.row=row at *
 have hown0:w.ownsRow w.heap.size 58 2 (.slice none 0 0) 0 (psCells []):=⟨rfl,.inl ⟨rfl,rfl⟩⟩
 go_enter Tryz.func79,Tryz.ntmps79
 go_wp2_with fail
 go_loopg [3,11] row.length (fun q v s wx=>∃(j:Nat) (va:Option Addr) (vc:Nat) (o:List Pr),q=row.length - j/\j<=row.length/\s=.int .i64 j/\v=.slice va o.length vc/\o.length<=j/\Hid (eqsOf (row.take j)=o)/\wx.ownsRow w.heap.size 58 2 (.slice va o.length vc) o.length (psCells o)/\Below w.heap.size w wx)
 case atStart=>exact⟨0,none,0,[],rfl,Nat.zero_le _,rfl,rfl,Nat.le_refl _,rfl,hown0,Below.refl _ _⟩
 case round=>
  obtain⟨j,va,vc,o,rfl,hj,rfl,rfl,hol,Ho,hown,hb⟩:=hrel
  by_cases hlt:j < row.length
  ·obtain⟨g,rfl,hcap,e0,e1,e2,e3,e4⟩:=own_entries (own_below Hr.out hb) hlt
   have Hst:=hide (eqsOf_take hlt)
   generalize row.getD j en0=en at *
   obtain⟨ep,⟨ex,ey,en⟩,er⟩:=en
   simp only at e0 e1 e2 e3 e4 Hst
   have hgl:=block_lt e0
   obtain⟨W2,hW2⟩:∃ W2,W2=wr.alloc (.cells #[.int .i64 ep,.int .i64 ex,.int .i64 ey,.bool en,.int .i64 er] 155):=⟨_,rfl⟩
   have hbA:Below wr.heap.size wr W2:=by rw[hW2];exact below_alloc _ _
   have g1:W2.cell? ⟨wr.heap.size,1,none⟩=some (.int .i64 ex):=by rw[hW2];simp
   have g2:W2.cell? ⟨wr.heap.size,2,none⟩=some (.int .i64 ey):=by rw[hW2];simp
   have g3:W2.cell? ⟨wr.heap.size,3,none⟩=some (.bool en):=by rw[hW2];simp
   have hownA:=own_below hown hbA
   have hbB:Below w.heap.size w W2:=hb.trans (hbA.mono hb.size)
   go_upto_region 5 with fail
   rw[<-hW2]
   clear hW2 e0 e1 e2 e3 e4 hgl hown hbA
   cases en
   ·have hsz:w.heap.size<=W2.heap.size:=hbB.size
    go_upto_region 7 with(at_builtin;refine wpList_append_own _ rfl (.tmp 19) (.tmp 27) 46 rfl w.heap.size 58 i1 (.agg #[.int .i64 0,.int .i64 0]) 2 16 Tryz.underlying46 hi1 hy0 hy1 hy2 rfl (by decide) (.slice va o.length vc) o.length (psCells o) rfl (hownA.alloc _) ⟨W2.heap.size,0,none⟩ 1 1 (prCells ⟨ex,ey⟩) rfl rfl (by simpa using new_pr W2 ⟨ex,ey⟩ 58) (prCells_one _) (by unfold maxLen;omega) (by omega) (by simp;omega) ?_)
    intro qv w7 hown7 hgr7 hz7
    clear hz7
    have hkA:=app_keep hgr7
    have hb7:Below w.heap.size w w7:=hkA.below hbB hsz (fun b hb=>(own_lt hownA b hb).1)
    obtain⟨va',vc',hqv⟩:=own_val hown7
    subst hqv
    clear hgr7 hownA hkA g1 g2 g3
    go_wp2_with fail
    go_roundg (row.length - (j+1))
    case measure=>omega
    case rel=>exact⟨j+1,va',vc',o++[⟨ex,ey⟩],rfl,by omega,by go_num,by simp,by simp;omega,(by show _=_;rw[Hst.out,Ho.out];rfl),by rw[psCells_snoc];simpa using hown7,hb7⟩
   ·go_wp2_with fail
    go_roundg (row.length - (j+1))
    case measure=>omega
    case rel=>exact⟨j+1,va,vc,o,rfl,by omega,by go_num,rfl,by omega,(by show _=_;rw[Hst.out,Ho.out];rfl),hownA,hbB⟩
  ·have Hfin:Hid (eqsOf row=o):=by
    have:=Ho.out
    rw[List.take_of_length_le (by omega)]at this
    exact this
   go_wp2_with fail
   go_ret
   rw[Hfin.out]
   exact⟨va,vc,rfl,hown,hb⟩
end Go.Proofs.YtjebhhoibofmfaaGreat
namespace Go.Proofs.YtjebhhoibofmfaaGreat
open Go.RowKit
def SS.Goes(c:Sc)(w:World)(F:List Nat)(S':Sr)(v:Value)(e:Ending)(w':World):Prop:=e=.returned v/\∃ F',SS c w' F' S'/\Fresh F F' w/\Keeps F w w'
theorem Goes.after{c:Sc}{w w1 w':World}{F F1:List Nat}{S':Sr}{v:Value}{e:Ending}(hf:Fresh F F1 w)(hk:Keeps F w w1)(h:SS.Goes c w1 F1 S' v e w'):SS.Goes c w F S' v e w':=by
 obtain⟨h1,F',h2,h3,h4⟩:=h
 exact⟨h1,F',h2,hf.trans h3 hk.size,hk.tran h4 hf⟩
theorem QQ.len{w:World}{q:Nat}{F ws ns:List Nat}(h:QQ w q F ws ns):ns.length<=ws.length:=by
 obtain⟨h1,h2⟩:=h.nodup
 have:=nodup_len (T:=List.range ws.length) h1 (fun x hx=>List.mem_range.2 (h2 x hx))
 simpa using this
theorem SS.leave{c:Sc}{w:World}{F:List Nat}{S:Sr}(hc:c.Ok)(h:SS c w F S)(i:Nat)(hi:i < c.prs.length) :
 Calls Tryz.prog 121 #[.pointer (some ⟨c.q,0,none⟩),.int .i64 i] w (SS.Goes c w F { S with ns:=leaveL S.ws S.ns i } (.tuple #[])):=by
 refine h.withQ (ws':=S.ws) rfl (Post:=fun e=>e=.returned (.tuple #[])) (fun FQ hQ _=>?_)
 have hl:=h.1.2.2.1
 have h45:=hc.h45
 refine(QQ.leave c.q FQ S.ws S.ns i w hQ (by omega) (by have:=hQ.len;omega)).mono ?_
 rintro e w' ⟨rfl,h1,h2⟩
 exact⟨rfl,FQ,h1,Fresh.refl _ _,h2⟩
theorem SS.return{c:Sc}{w:World}{F:List Nat}{S:Sr}(hc:c.Ok)(h:SS c w F S)(i:Nat)(hi:i < c.prs.length) :
 Calls Tryz.prog 115 #[.pointer (some ⟨c.q,0,none⟩),.int .i64 i] w (SS.Goes c w F { S with ns:=returnL S.ws S.ns i } (.tuple #[])):=by
 refine h.withQ (ws':=S.ws) rfl (Post:=fun e=>e=.returned (.tuple #[])) (fun FQ hQ _=>?_)
 have hl:=h.1.2.2.1
 have h45:=hc.h45
 refine(QQ.return c.q FQ S.ws S.ns i w hQ (by omega) (by have:=hQ.len;omega)).mono ?_
 rintro e w' ⟨rfl,F',h1,h2,h3⟩
 exact⟨rfl,F',h1,h2,h3⟩
theorem SS.pushRow{c:Sc}{w W1 w2:World}{F:List Nat}{S:Sr}(h:SS c w F S){e:En}(hlow:LowL c.ts.length e.lit)(hpr:e.pair < c.prs.length)(h50:S.row.length < 50)(hb:Below w.heap.size w W1){ra:Option Addr}{rc:Nat}{v:Value}
 (hcell:w.cell? ⟨c.s,5,none⟩=some (.slice ra S.row.length rc)) (hown:w2.ownsRow 0 155 5 v (S.row.length+1) (esCells S.row++enCells e)) (hgr:W1.grownBy w2 (Value.slice ra S.row.length rc).ownBlock)
 (hat:v.ownBlock=(Value.slice ra S.row.length rc).ownBlock\/v.ownBlock=some W1.heap.size) :
 ∃ F',SS c (w2.setCell ⟨c.s,5,none⟩ v) F' { S with row:=S.row++[e] }/\Fresh F F' w/\Keeps F w (w2.setCell ⟨c.s,5,none⟩ v):=by
 have hlt:=h.lt
 obtain⟨⟨h1,h2,h3⟩,FP,FQ,ra',rc',tag,hF,ht,hs,hP,hQ,hk,hr,hp,hpl⟩:=h
 have e5:w.cell? ⟨c.s,5,none⟩=some (.slice ra' S.row.length rc'):=by rw[cell_of_row _ _ _ _ _ _ hs];rfl
 rw[e5]at hcell
 injection hcell with hcell
 injection hcell with e1 e2 e3
 subst e1
 subst e3
 obtain⟨t0,t1,t2,t3,t4,t5⟩:=ht
 obtain⟨g,gc,rfl,hg⟩:=app_addr' (W:=w) hb.size hown hat
 have hk2:=app_keep' hb hgr
 have hsn:c.s ∉ blkOf ra':=fun hx=>by have:=t4 _ hx;omega
 have hs2:=hk2.row hsn hs
 have hK:Keeps (c.s :: blkOf ra') w (w2.setCell ⟨c.s,5,none⟩ (.slice (some ⟨g,0,none⟩) (S.row.length+1) gc)):=(hk2.mono (fun k hk=>List.mem_cons_of_mem _ hk)).set (by simp) _
 have hKF:Keeps F w (w2.setCell ⟨c.s,5,none⟩ (.slice (some ⟨g,0,none⟩) (S.row.length+1) gc)):=hK.mono (by
  intro b hb
  rw[hF]
  rcases List.mem_cons.1 hb with rfl | hb
  ·simp
  ·simp[hb])
 have hng:g≠c.s:=fun e=>own_not hown hs2 (fun cur e=>by injection e with _ e;exact absurd e (by decide)) (by simp[blkOf,e])
 have hfr:Fresh F (c.s :: (FP++(FQ++(blkOf c.ka++blkOf (some (⟨g,0,none⟩:Addr)))))) w:=by
  intro b hb
  rw[hF]
  simp only[List.mem_cons,List.mem_append]at hb ⊢
  rcases hb with rfl | hb | hb | hb | hb
  ·simp
  ·simp[hb]
  ·simp[hb]
  ·simp[hb]
  ·simp[blkOf]at hb
   subst hb
   rcases hg with h7 | h7
   ·simp[h7]
   ·exact .inr h7
 have ofs:∀ {A:List Nat} {i:Nat},(∀ b∈A,tag b=i)->i≠0->i≠4->∀ b∈A,b ∉ c.s :: blkOf ra':=by
  intro A i hA hi0 hi4 b hb hx
  rcases List.mem_cons.1 hx with rfl | hx
  ·have:=hA _ hb;omega
  ·have h7:=hA _ hb
   have h8:=t4 _ hx
   omega
 have hfra:Fresh (blkOf ra') (blkOf (some (⟨g,0,none⟩:Addr))) w:=by
  intro b hb
  simp[blkOf]at hb
  subst hb
  exact hg
 refine⟨c.s :: (FP++(FQ++(blkOf c.ka++blkOf (some (⟨g,0,none⟩:Addr))))),⟨⟨hKF.below h1 h1.size h2,?_,h3.1,h3.2.1,?_,?_⟩,FP,FQ,some ⟨g,0,none⟩,gc,tagNew tag w 4,rfl,⟨?_,?_,?_,?_,?_,?_⟩,?_,hP.keep hK (ofs t1 (by decide) (by decide)),hQ.keep hK (ofs t2 (by decide) (by decide)),own_keep hk hK (ofs t3 (by decide) (by decide)),?_,hp.keep hK (ofs t5 (by decide) (by decide)),fun b hb=>Nat.lt_of_lt_of_le (hpl b hb) hK.size⟩,hfr,hKF⟩
 ·intro b hb
  rcases hfr b hb with h7 | h7
  ·exact h2 b h7
  ·exact Nat.le_trans h1.size h7
 ·intro x hx
  rcases List.mem_append.1 hx with hx | hx
  ·exact h3.2.2.1 x hx
  ·simp at hx;rw[hx];exact⟨hlow,hpr⟩
 ·simp;omega
 ·rw[tagNew_old (hlt _ (by rw[hF];simp))];exact t0
 ·intro b hb;rw[tagNew_old (hP.lt b hb)];exact t1 b hb
 ·intro b hb;rw[tagNew_old (hQ.lt b hb)];exact t2 b hb
 ·intro b hb;rw[tagNew_old (own_lt hk b hb).2];exact t3 b hb
 ·exact tagNew_fresh t4 (fun b hb=>(own_lt hr b hb).2) hfra
 ·intro b hb;rw[tagNew_old (hpl b hb)];exact t5 b hb
 ·rw[heap_setCell_same _ _ _ _ _ _ hs2]
  simp
 ·show(w2.setCell ⟨c.s,5,none⟩ _).ownsRow 0 155 5 (.slice _ (S.row++[e]).length _) (S.row++[e]).length (esCells (S.row++[e]))
  rw[List.length_append,esCells_snoc]
  exact hown.kept (set_grown w2 c.s 5 _) (.inr (fun e=>hng (by injection e)))
theorem SS.setTk{c:Sc}{w:World}{F:List Nat}{S:Sr}(h:SS c w F S)(e a:Nat)(he:e < 18446744073709551616)(ha:a < 18446744073709551616) :
 SS c ((w.setCell ⟨c.s,6,none⟩ (.int .u64 (e:Int))).setCell ⟨c.s,7,none⟩ (.int .u64 (a:Int))) F { S with tk:=(e,a) }/\Keeps F w ((w.setCell ⟨c.s,6,none⟩ (.int .u64 (e:Int))).setCell ⟨c.s,7,none⟩ (.int .u64 (a:Int))):=by
 obtain⟨⟨h1,h2,h3⟩,FP,FQ,ra,rc,tag,hF,ht,hs,hP,hQ,hk,hr,hp,hpl⟩:=h
 have ht':=ht
 obtain⟨t0,t1,t2,t3,t4,t5⟩:=ht'
 have hK:Keeps [c.s] w ((w.setCell ⟨c.s,6,none⟩ (.int .u64 (e:Int))).setCell ⟨c.s,7,none⟩ (.int .u64 (a:Int))):=((Keeps.refl _ _).set (by simp) _).set (by simp) _
 have hKF:=hK.mono (G:=F) (by intro b hb;simp at hb;rw[hF,hb];simp)
 have ofs:∀ {A:List Nat} {i:Nat},(∀ b∈A,tag b=i)->i≠0->∀ b∈A,b ∉ [c.s]:=by
  intro A i hA hi b hb hx
  simp at hx
  subst hx
  have:=hA _ hb
  omega
 refine⟨⟨⟨hKF.below h1 h1.size h2,h2,h3.1,⟨he,ha⟩,h3.2.2⟩,FP,FQ,ra,rc,tag,hF,ht,?_,hP.keep hK (ofs t1 (by decide)),hQ.keep hK (ofs t2 (by decide)),own_keep hk hK (ofs t3 (by decide)),own_keep hr hK (ofs t4 (by decide)),hp.keep hK (ofs t5 (by decide)),fun b hb=>Nat.lt_of_lt_of_le (hpl b hb) hK.size⟩,hKF⟩
 have e1:(w.setCell ⟨c.s,6,none⟩ (.int .u64 (e:Int))).heap[c.s]?=some (.cells #[.slice c.ta c.ts.length c.tc,.pointer (some ⟨c.m,0,none⟩),.slice c.ka S.kn.length c.kc,.slice c.pa c.prs.length c.pc,.pointer (some ⟨c.q,0,none⟩),.slice ra S.row.length rc,.int .u64 (e:Int),.int .u64 S.tk.2] 133 (0,0)):=(heap_setCell_same _ _ _ _ _ _ hs).trans rfl
 exact(heap_setCell_same _ _ _ _ _ _ e1).trans rfl
end Go.Proofs.YtjebhhoibofmfaaGreat
namespace Go.Proofs.YtjebhhoibofmfaaGreat
open Go.RowKit
theorem low9{c:Sc}(hc:c.Ok){t:Lt}(h:LowL c.ts.length t):LowL 9 t:=by
 have:=(len_of hc.hts).2
 exact⟨h.1,by have:=h.2.1;omega,h.2.2.1,by have:=h.2.2.2;omega⟩
theorem Fresh.up{F F':List Nat}{w w':World}(h:Fresh F F' w')(hs:w.heap.size<=w'.heap.size):Fresh F F' w:=fun k hk=>(h k hk).imp id (fun h=>Nat.le_trans hs h)
set_option maxRecDepth 100000 in
set_option maxHeartbeats 4000000 in
theorem take_any{c:Sc}(hc:c.Ok){w:World}{F:List Nat}{S S':Sr}(h:SS c w F S)(i:Nat)(n:Bool)(r:Int)(ht:takeP c.prs S i n r=some S') :
 Calls Tryz.prog 99 #[.pointer (some ⟨c.s,0,none⟩),.int .i64 i,.bool n,.int .i64 r] w (SS.Goes c w F S' (.tuple #[])):=by
 obtain⟨i1,hi1,hy0,hy1,hy2⟩:=info_parts info_entry
 unfold takeP at ht
 by_cases hcond:(i < c.prs.length && decide (S.row.length < 50))=true
 ·rw[if_pos hcond]at ht
  rw[Bool.and_eq_true]at hcond
  have hi:=of_decide_eq_true hcond.1
  have h50:=of_decide_eq_true hcond.2
  injection ht with ht
  have HS':=hide ht.symm
  have hlow:LowL c.ts.length (litI c.prs i n):=hc.hp i hi
  have Hlit:=hide (lit_any h i n hi)
  have HS:=hide h
  have Hlow:=hide hlow
  clear hcond ht hlow h
  generalize hlt:litI c.prs i n=t at *
  have Hlt:=hide hlt
  clear hlt
  go_enter Tryz.func99,Tryz.ntmps99
  go_wp2_with fail
  refine Hlit.out.mono ?_
  rintro e w1 ⟨rfl,hb1⟩
  clear Hlit
  obtain⟨W1,hW1⟩:∃ W1,W1=w1.alloc (.cells #[.int .i64 t.x,.int .i64 t.y,.bool t.n] 60):=⟨_,rfl⟩
  have hbA:Below w1.heap.size w1 W1:=by rw[hW1];exact below_alloc _ _
  have hb2:Below w.heap.size w W1:=hb1.trans (hbA.mono hb1.size)
  have q0:W1.cell? ⟨w1.heap.size,0,none⟩=some (.int .i64 t.x):=by rw[hW1];simp
  have q1:W1.cell? ⟨w1.heap.size,1,none⟩=some (.int .i64 t.y):=by rw[hW1];simp
  have q2:W1.cell? ⟨w1.heap.size,2,none⟩=some (.bool t.n):=by rw[hW1];simp
  have hS1:=HS.out.up hb2
  obtain⟨ka,kc,ra,rc,s0,s1,s2,s3,s4,s5,s6,s7,hk,hr⟩:=hS1.cells
  have Hl:=hide (hS1.leave hc i hi)
  have hoff1:w1.heap.size ∉ F:=fun hx=>by have:=HS.out.lt _ hx;have:=hb1.size;omega
  have HS1:=hide hS1
  go_upto_region 1 with fail
  rw[<-hW1]
  clear hW1 s0 s1 s2 s3 s5 s6 s7 hk hr hS1 hbA
  have hlt1:w1.heap.size < W1.heap.size:=block_lt q0
  go_wp2_with fail
  refine Hl.out.mono ?_
  rintro e w2 ⟨rfl,F2,hS2,hf2,hk2⟩
  clear Hl s4
  replace q0:=hk2.cell hoff1 q0
  replace q1:=hk2.cell hoff1 q1
  replace q2:=hk2.cell hoff1 q2
  have hoff2:w1.heap.size ∉ F2:=fun hx=>by
   rcases hf2 _ hx with h7 | h7
   ·exact hoff1 h7
   ·omega
  obtain⟨ka2,kc2,ra2,rc2,s0,s1,s2,s3,s4,s5,s6,s7,hk,hr⟩:=hS2.cells
  have hsnw:c.s ∉ []:=by simp
  have HS2:=hide hS2
  have Hr:=hide hr
  have e5:=alloc_old (o:=.cells #[.int .i64 i,.int .i64 t.x,.int .i64 t.y,.bool t.n,.int .i64 r] 155) s5
  have Hs5:=hide s5
  have nbx:=HS2.out.lt
  clear s0 s1 s2 s3 s4 s6 s7 hk hr hS2 ka2 kc2
  have hsr:∀(W' w3:World),Below w2.heap.size w2 W'->W'.grownBy w3 (Value.slice ra2 S.row.length rc2).ownBlock->w3.cell? ⟨c.s,5,none⟩=some (.slice ra2 S.row.length rc2)/\w3.frozen? ⟨c.s,5,none⟩=false:=by
   intro W' w3 hb' hg'
   obtain⟨_,FP,FQ,ra',rc',tag,hF,ht,hs,hP,hQ,hk',hr',hp,hpl⟩:=HS2.out
   have hx:=own_not Hr.out hs (fun cur e=>by injection e with _ e;exact absurd e (by decide))
   have hk3:=app_keep' hb' hg'
   exact⟨hk3.cell hx Hs5.out,frozen_of_row _ _ _ _ _ (hk3.row hx hs)⟩
  have Hsr:=hide hsr
  clear hsr
  go_upto_region 2 with fail
  go_cut [19]from 19 to 31 (fun _ wx=>∃ F3,SS c wx F3 { S with ns:=leaveL S.ws S.ns i,row:=S.row++[⟨i,t,r⟩] }/\Fresh F2 F3 w2/\Keeps F2 w2 wx)
  case first=>
   go_region_law (refine step_append_own_at rfl (.tmp 23) (.tmp 28) 131 rfl 0 155 i1 (.agg #[.int .i64 0,.int .i64 0,.int .i64 0,.bool false,.int .i64 0]) 5 40 Tryz.underlying131 hi1 hy0 hy1 hy2 rfl (by decide) (.slice ra2 S.row.length rc2) S.row.length (esCells S.row) (by simp[Act.eval]) (Hr.out.alloc _) ⟨w2.heap.size,0,none⟩ 1 1 (enCells ⟨i,t,r⟩) (by simp[Act.eval]) rfl (new_en w2 ⟨i,t,r⟩ _) (enCells_one _) (by unfold maxLen;omega) (by omega) (by simp) ?_;intro v3 w3 hown3 hgrow3 hat3;obtain⟨g,gc,rfl,hg⟩:=app_addr' (W:=w2) (by simp) hown3 hat3;obtain⟨y1,y2⟩:=Hsr.out _ _ (below_alloc _ _).drew hgrow3)
   all_goals
    go_wp2_with fail
    go_meet
    exact HS2.out.pushRow (e:=⟨i,t,r⟩) Hlow.out hi h50 (below_alloc _ _).drew Hs5.out hown3 hgrow3 hat3
  case rest=>
  obtain⟨F3,hS3,hf3,hk3⟩:=hcut
  replace q0:=hk3.cell hoff2 q0
  replace q1:=hk3.cell hoff2 q1
  replace q2:=hk3.cell hoff2 q2
  have h64:=hS3.1.2.2.2.1
  simp only at h64
  obtain⟨ka3,kc3,ra3,rc3,s0,s1,s2,s3,s4,s5,s6,s7,hk,hr⟩:=hS3.cells
  simp only at s6 s7
  have hl9:=low9 hc Hlow.out
  have hwE:=withE_lt h64.1 hl9
  have hwA:=withA_lt h64.2 hl9
  have Hw:Hid (∀ W,Calls Tryz.prog 122 #[.agg #[.int .u64 S.tk.1,.int .u64 S.tk.2],.agg #[.int .i64 t.x,.int .i64 t.y,.bool t.n]] W fun e w'=>e=.returned (.agg #[.int .u64 (withE S.tk.1 t:Nat),.int .u64 (withA S.tk.2 t:Nat)])/\Below W.heap.size W w'):=
   fun W=>with_any t.x t.y t.n S.tk.1 S.tk.2 W hl9.1 hl9.2.1 hl9.2.2.1 hl9.2.2.2 h64.1 h64.2
  have HS3:=hide hS3
  have Hf3:=hide hf3
  have Hk3:=hide hk3
  have Hf2:=hide hf2
  have Hk2:=hide hk2
  have Hb2:=hide hb2
  rw[<-Hlt.out]at HS'
  have HT:Hid (S'={ S with ns:=leaveL S.ws S.ns i,row:=S.row++[⟨i,t,r⟩],tk:=(withE S.tk.1 t,withA S.tk.2 t) }):=by
   have:=HS'.out
   rw[Hlt.out]at this
   exact this
  clear s0 s1 s2 s3 s4 s5 hk hr hS3 hf3 hk3 hf2 hk2 hb2 HS' h64 hl9 e5 nbx
  generalize withE S.tk.1 t=e2 at *
  generalize withA S.tk.2 t=a2 at *
  generalize S.tk.1=tk1 at *
  generalize S.tk.2=tk2 at *
  go_upto_region 3 with fail
  go_region_with ((go_at_call 122; refine(Hw.out _).mono ?_;rintro e w5 ⟨rfl,hb5⟩;have hS5:=HS3.out.up (below_drew1 hb5);have f6:=hS5.frozen 6;have f7:=hS5.frozen 7;obtain⟨_,_,_,_,_,_,_,_,_,_,u6,u7,_,_⟩:=hS5.cells))
  all_goals
   go_wp2_with fail
   go_end0
   obtain⟨hS6,hk6⟩:=hS5.setTk e2 a2 hwE hwA
   rw[HT.out]
   exact Goes.after (Fresh.refl _ _) (Keeps.of Hb2.out) (Goes.after Hf2.out Hk2.out (Goes.after Hf3.out Hk3.out ⟨rfl,F3,hS6,Fresh.refl _ _,(Keeps.of (F:=F3) (below_drew1 hb5)).trans hk6 (fun b hb=>.inl hb)⟩))
 ·rw[if_neg hcond]at ht;cases ht
end Go.Proofs.YtjebhhoibofmfaaGreat
namespace Go.Proofs.YtjebhhoibofmfaaGreat
open Go.RowKit
theorem own_pop{w:World}{base size n c:Nat}{e:TypeId}{a:Option Addr}{xs ys:List Value}(h:w.ownsRow base e size (.slice a (n+1) c) (n+1) (xs++ys))(hx:xs.length=n*size):w.ownsRow base e size (.slice a n c) n xs:=by
 obtain⟨h1,h2 | ⟨g,cap,cur,hv,hb,hg,hn,hm,hc,ht⟩⟩:=h
 ·omega
 ·injection hv with hv h7 h8
  subst hv
  subst h8
  refine⟨hx,.inr ⟨g,_,cur,rfl,hb,hg,by omega,hm,hc,?_⟩⟩
  have h9:cur.toList.take (n*size)=(cur.toList.take ((n+1)*size)).take (n*size):=by
   rw[List.take_take,Nat.min_eq_left (Nat.mul_le_mul_right _ (by omega))]
  rw[h9,ht,<-hx]
  exact List.take_left
theorem SS.popRow{c:Sc}{w:World}{F:List Nat}{S:Sr}(h:SS c w F S){R:List En}{e:En}(hR:S.row=R++[e]){ra:Option Addr}{rc:Nat}(hcell:w.cell? ⟨c.s,5,none⟩=some (.slice ra S.row.length rc)) :
 SS c (w.setCell ⟨c.s,5,none⟩ (.slice ra R.length rc)) F { S with row:=R }/\Keeps F w (w.setCell ⟨c.s,5,none⟩ (.slice ra R.length rc)):=by
 obtain⟨⟨h1,h2,h3⟩,FP,FQ,ra',rc',tag,hF,ht,hs,hP,hQ,hk,hr,hp,hpl⟩:=h
 have e5:w.cell? ⟨c.s,5,none⟩=some (.slice ra' S.row.length rc'):=by rw[cell_of_row _ _ _ _ _ _ hs];rfl
 rw[e5]at hcell
 injection hcell with hcell
 injection hcell with e1 e2 e3
 subst e1
 subst e3
 have ht':=ht
 obtain⟨t0,t1,t2,t3,t4,t5⟩:=ht'
 have hK:Keeps [c.s] w (w.setCell ⟨c.s,5,none⟩ (.slice ra' R.length rc')):=(Keeps.refl _ _).set (by simp) _
 have hKF:=hK.mono (G:=F) (by intro b hb;simp at hb;rw[hF,hb];simp)
 have ofs:∀ {A:List Nat} {i:Nat},(∀ b∈A,tag b=i)->i≠0->∀ b∈A,b ∉ [c.s]:=by
  intro A i hA hi b hb hx
  simp at hx
  subst hx
  have:=hA _ hb
  omega
 have hr':w.ownsRow 0 155 5 (.slice ra' R.length rc') R.length (esCells R):=by
  rw[hR,List.length_append,esCells_snoc]at hr
  exact own_pop hr (esCells_length _)
 refine⟨⟨⟨hKF.below h1 h1.size h2,h2,h3.1,h3.2.1,fun x hx=>h3.2.2.1 x (by rw[hR];simp[hx]),by have:=h3.2.2.2;rw[hR]at this;simp at this;show R.length<=50;omega⟩,FP,FQ,ra',rc',tag,hF,ht,?_,hP.keep hK (ofs t1 (by decide)),hQ.keep hK (ofs t2 (by decide)),own_keep hk hK (ofs t3 (by decide)),own_keep hr' hK (ofs t4 (by decide)),hp.keep hK (ofs t5 (by decide)),fun b hb=>Nat.lt_of_lt_of_le (hpl b hb) hK.size⟩,hKF⟩
 exact(heap_setCell_same _ _ _ _ _ _ hs).trans rfl
theorem SS.keepOut{c:Sc}{w w':World}{F G:List Nat}{S:Sr}(h:SS c w F S)(hK:Keeps G w w')(hG:∀ b∈G,b ∉ F/\b ∉ blkOf c.pa/\c.w0.heap.size<=b):SS c w' F S:=by
 obtain⟨⟨h1,h2,h3⟩,FP,FQ,ra,rc,tag,hF,ht,hs,hP,hQ,hk,hr,hp,hpl⟩:=h
 have of:∀ b∈F,b ∉ G:=fun b hb hx=>(hG b hx).1 hb
 rw[hF]at of
 refine⟨⟨hK.below h1 h1.size (fun b hb=>(hG b hb).2.2),h2,h3⟩,FP,FQ,ra,rc,tag,hF,ht,hK.row (of _ (by simp)) hs,hP.keep hK (fun b hb=>of b (by simp[hb])),hQ.keep hK (fun b hb=>of b (by simp[hb])),own_keep hk hK (fun b hb=>of b (by simp[hb])),own_keep hr hK (fun b hb=>of b (by simp[hb])),hp.keep hK (fun b hb hx=>(hG b hx).2.1 hb),fun b hb=>Nat.lt_of_lt_of_le (hpl b hb) hK.size⟩
theorem SS.paLt{c:Sc}{w:World}{F:List Nat}{S:Sr}(h:SS c w F S):∀ b∈blkOf c.pa,b < w.heap.size:=by
 obtain⟨_,FP,FQ,ra,rc,tag,hF,ht,hs,hP,hQ,hk,hr,hp,hpl⟩:=h
 exact hpl
set_option maxRecDepth 100000 in
set_option maxHeartbeats 4000000 in
theorem untake_any{c:Sc}(hc:c.Ok){w:World}{F:List Nat}{S S':Sr}{en:En}(h:SS c w F S)(ht:untakeP S=some (en,S')) :
 Calls Tryz.prog 100 #[.pointer (some ⟨c.s,0,none⟩)] w (SS.Goes c w F S' (.agg #[.int .i64 en.pair,.int .i64 en.lit.x,.int .i64 en.lit.y,.bool en.lit.n,.int .i64 en.reason])):=by
 unfold untakeP at ht
 cases hl:S.row.getLast? with
 | none=>rw[hl]at ht;cases ht
 | some e=>
 rw[hl]at ht
 injection ht with ht
 injection ht with h1 h2
 subst h1
 have hR:S.row=S.row.dropLast++[e]:=by
  obtain⟨h3,h4⟩:=List.getLast?_eq_some_iff.1 hl
  rw[h4];simp
 generalize hdl:S.row.dropLast=R at *
 clear hdl hl
 have hbd:=h.1.2.2.2.2.1 e (by rw[hR];simp)
 have h50:=h.1.2.2.2.2.2
 have hlenR:S.row.length=R.length+1:=by rw[hR];simp
 have h64:=h.1.2.2.2.1
 have hl9:=low9 hc hbd.1
 have hpl:=hbd.2
 obtain⟨W0,hW0⟩:∃ W0,W0=w.alloc (.cells #[.int .i64 0,.int .i64 0,.int .i64 0,.bool false,.int .i64 0] 155):=⟨_,rfl⟩
 have hb0:Below w.heap.size w W0:=by rw[hW0];exact below_alloc _ _
 have hS0:=h.up hb0
 have z0:W0.cell? ⟨w.heap.size,0,none⟩=some (.int .i64 0):=by rw[hW0];simp
 have z1:W0.cell? ⟨w.heap.size,1,none⟩=some (.int .i64 0):=by rw[hW0];simp
 have z2:W0.cell? ⟨w.heap.size,2,none⟩=some (.int .i64 0):=by rw[hW0];simp
 have z3:W0.cell? ⟨w.heap.size,3,none⟩=some (.bool false):=by rw[hW0];simp
 have z4:W0.cell? ⟨w.heap.size,4,none⟩=some (.int .i64 0):=by rw[hW0];simp
 have hrow0:W0.heap[w.heap.size]?=some (.cells #[.int .i64 0,.int .i64 0,.int .i64 0,.bool false,.int .i64 0] 155 (0,0)):=by rw[hW0];exact heap_at_new _ _ _ rfl
 obtain⟨ka,kc,ra,rc,s0,s1,s2,s3,s4,s5,s6,s7,hk,hr⟩:=hS0.cells
 obtain⟨g,rfl,hcap,e0,e1,e2,e3,e4⟩:=own_entries hr (i:=R.length) (by omega)
 have hge:S.row.getD R.length en0=e:=by rw[hR];simp
 rw[hge]at e0 e1 e2 e3 e4
 have hgl:=block_lt e0
 have hoff0:w.heap.size ∉ F:=fun hx=>by have:=h.lt _ hx;omega
 have HT:=hide h2.symm
 have Hs5:=hide s5
 rw[hlenR]at s5
 have Hh:=hide h
 have HS0:=hide hS0
 have Hrow0:=hide hrow0
 have HR:=hide hR
 have Hb0:=hide hb0
 have hcap':R.length+1<=rc:=by omega
 obtain⟨W2,hW2⟩:∃ W2,W2=W0.alloc (.cells #[.int .i64 e.pair,.int .i64 e.lit.x,.int .i64 e.lit.y,.bool e.lit.n,.int .i64 e.reason] 155):=⟨_,rfl⟩
 have hbA:Below W0.heap.size W0 W2:=by rw[hW2];exact below_alloc _ _
 have q0:W2.cell? ⟨W0.heap.size,0,none⟩=some (.int .i64 e.pair):=by rw[hW2];simp
 have q1:W2.cell? ⟨W0.heap.size,1,none⟩=some (.int .i64 e.lit.x):=by rw[hW2];simp
 have q2:W2.cell? ⟨W0.heap.size,2,none⟩=some (.int .i64 e.lit.y):=by rw[hW2];simp
 have q3:W2.cell? ⟨W0.heap.size,3,none⟩=some (.bool e.lit.n):=by rw[hW2];simp
 have q4:W2.cell? ⟨W0.heap.size,4,none⟩=some (.int .i64 e.reason):=by rw[hW2];simp
 have hszz:w.heap.size < W0.heap.size:=block_lt z0
 have hoff1:W0.heap.size ∉ F:=fun hx=>by have:=hS0.lt _ hx;omega
 have hlen9:R.length<=49:=by omega
 clear h h2 hS0 hk hr s0 s1 s2 s3 s4 s6 s7 hge hR hb0 hlenR hrow0 z0 z1 z2 z3 z4
 go_enter Tryz.func100,Tryz.ntmps100
 go_upto_region 1 with fail
 rw[<-hW0]
 clear hW0
 go_upto_region 3 with fail
 rw[<-hW2]
 clear hW2 e0 e1 e2 e3 e4 hgl
 have hS2:=HS0.out.up hbA
 have f5:=hS2.frozen 5
 have s5':=cell_below hbA s5
 obtain⟨hS3,hk3⟩:=hS2.popRow HR.out (cell_below hbA Hs5.out)
 obtain⟨W3,hW3⟩:∃ W3,W3=W2.setCell ⟨c.s,5,none⟩ (.slice (some ⟨g,0,none⟩) R.length rc):=⟨_,rfl⟩
 rw[<-hW3]at hS3 hk3
 have hrow2:=(keeps_below hbA).row (by simp) Hrow0.out
 have hcs:c.s≠W0.heap.size:=fun e=>hoff1 (by rw[<-e];obtain⟨_,FP,FQ,ra',rc',tag,hF,_⟩:=Hh.out;rw[hF];simp)
 have Hrow3:=hide (hk3.row hoff0 hrow2)
 have hlt2:W0.heap.size < W2.heap.size:=block_lt q0
 replace q0:=hk3.cell hoff1 q0
 replace q1:=hk3.cell hoff1 q1
 replace q2:=hk3.cell hoff1 q2
 replace q3:=hk3.cell hoff1 q3
 replace q4:=hk3.cell hoff1 q4
 have hlt3:W0.heap.size < W3.heap.size:=by have:=hk3.size;omega
 have Hk3:Hid (Keeps F w W3):=(Keeps.of (F:=F) (Hb0.out.trans (hbA.mono Hb0.out.size))).trans hk3 (fun b hb=>.inl hb)
 have HS3:=hide hS3
 go_upto_region 4 with fail
 rw[<-hW3]
 clear hW3 s5 s5' f5 hS2 hbA hrow2 hS3 hk3 hcap hcap'
 obtain⟨ka4,kc4,ra4,rc4,s0,s1,s2,s3,s4,s5,s6,s7,hk4,hr4⟩:=HS3.out.cells
 simp only at s6 s7
 have hwl:=wout_lt (t:=e.lit) h64.1 h64.2
 have Hw:Hid (∀ W,Calls Tryz.prog 123 #[.agg #[.int .u64 S.tk.1,.int .u64 S.tk.2],.agg #[.int .i64 e.lit.x,.int .i64 e.lit.y,.bool e.lit.n]] W fun e' w'=>e'=.returned (.agg #[.int .u64 (woutE S.tk.1 e.lit:Nat),.int .u64 (woutA S.tk.2 e.lit:Nat)])/\Below W.heap.size W w'):=
  fun W=>wout_any e.lit.x e.lit.y e.lit.n S.tk.1 S.tk.2 W hl9.1 hl9.2.1 hl9.2.2.1 hl9.2.2.2 h64.1 h64.2
 clear s0 s1 s2 s3 s4 s5 hk4 hr4 h64 hl9
 generalize woutE S.tk.1 e.lit=x2 at *
 generalize woutA S.tk.2 e.lit=a2 at *
 generalize S.tk.1=tk1 at *
 generalize S.tk.2=tk2 at *
 go_cut [27]from 27 to 36 (fun _ wx=>SS c wx F { S with row:=R,tk:=(x2,a2) }/\Keeps F W3 wx)
 case first=>
  go_region_with ((go_at_call 123; refine(Hw.out _).mono ?_;rintro e w5 ⟨rfl,hb5⟩;have hS5:=HS3.out.up (below_drew1 hb5);have f6:=hS5.frozen 6;have f7:=hS5.frozen 7;obtain⟨_,_,_,_,_,_,_,_,_,_,u6,u7,_,_⟩:=hS5.cells))
  all_goals
   go_wp2_with fail
   go_meet
   obtain⟨hS6,hk6⟩:=hS5.setTk x2 a2 hwl.1 hwl.2
   exact⟨hS6,(Keeps.of (F:=F) (below_drew1 hb5)).trans hk6 (fun b hb=>.inl hb)⟩
 case rest=>
 obtain⟨hS4,hk4⟩:=hcut
 replace q0:=hk4.cell hoff1 q0
 replace q1:=hk4.cell hoff1 q1
 replace q2:=hk4.cell hoff1 q2
 replace q3:=hk4.cell hoff1 q3
 replace q4:=hk4.cell hoff1 q4
 have Hrow4:=hide (hk4.row hoff0 Hrow3.out)
 have Hk4:Hid (Keeps F w wc):=Hk3.out.trans hk4 (fun b hb=>.inl hb)
 have hlt4:W0.heap.size < wc.heap.size:=by have:=hk4.size;omega
 have HS4:=hide hS4
 clear hS4 hk4 s6 s7 Hw
 generalize hW4:wc=W4 at *
 clear hW4
 obtain⟨ka5,kc5,ra5,rc5,s0,s1,s2,s3,s4,s5,s6,s7,hk5,hr5⟩:=HS4.out.cells
 clear s0 s1 s2 s3 s5 s6 s7 hk5 hr5
 have Hret:Hid (∀ W',Below W4.heap.size W4 W'->Calls Tryz.prog 115 #[.pointer (some ⟨c.q,0,none⟩),.int .i64 e.pair] W' (SS.Goes c W' F S' (.tuple #[]))):=by
  intro W' hb'
  rw[HT.out]
  exact(HS4.out.up hb').return hc e.pair hpl
 go_upto_region 5 with fail
 go_cut [37]from 37 to 43 (fun _ wx=>∃ F5,SS c wx F5 S'/\Fresh F F5 W4/\Keeps F W4 wx)
 case first=>
  go_region_with ((go_at_call 115; refine(Hret.out _ (Below.refl _ _).drew).mono ?_;rintro e w5 ⟨rfl,F5,hS5,hf5,hk5⟩))
  all_goals
   go_wp2_with fail
   go_meet
   exact⟨F5,hS5,hf5,(Keeps.of (F:=F) (Below.refl _ W4).drew).trans hk5 (fun b hb=>.inl hb)⟩
 case rest=>
 obtain⟨F5,hS5,hf5,hk5⟩:=hcut
 replace q0:=hk5.cell hoff1 q0
 replace q1:=hk5.cell hoff1 q1
 replace q2:=hk5.cell hoff1 q2
 replace q3:=hk5.cell hoff1 q3
 replace q4:=hk5.cell hoff1 q4
 have hrow5:=hk5.row hoff0 Hrow4.out
 have z0:wc.cell? ⟨w.heap.size,0,none⟩=some (.int .i64 0):=by rw[cell_of_row _ _ _ _ _ _ hrow5];rfl
 have z1:wc.cell? ⟨w.heap.size,1,none⟩=some (.int .i64 0):=by rw[cell_of_row _ _ _ _ _ _ hrow5];rfl
 have z2:wc.cell? ⟨w.heap.size,2,none⟩=some (.int .i64 0):=by rw[cell_of_row _ _ _ _ _ _ hrow5];rfl
 have z3:wc.cell? ⟨w.heap.size,3,none⟩=some (.bool false):=by rw[cell_of_row _ _ _ _ _ _ hrow5];rfl
 have z4:wc.cell? ⟨w.heap.size,4,none⟩=some (.int .i64 0):=by rw[cell_of_row _ _ _ _ _ _ hrow5];rfl
 have f0:∀ i,wc.frozen? ⟨w.heap.size,i,none⟩=false:=fun i=>frozen_of_row _ _ _ _ _ hrow5
 have hoff5:w.heap.size ∉ F5:=fun hx=>by
  rcases hf5 _ hx with h7 | h7
  ·exact hoff0 h7
  ·omega
 have hne:W0.heap.size≠w.heap.size:=by omega
 have HS5:=hide hS5
 have Hf5:=hide hf5
 have Hk5:Hid (Keeps F w wc):=Hk4.out.trans hk5 (fun b hb=>.inl hb)
 clear hS5 hf5 hk5 s4 Hret
 have g0:=f0 0
 have g1:=f0 1
 have g2:=f0 2
 have g3:=f0 3
 have g4:=f0 4
 have HK:Hid (∀ v0 v1 v2 v3 v4,Keeps [w.heap.size] wc (((((wc.setCell ⟨w.heap.size,0,none⟩ v0).setCell ⟨w.heap.size,1,none⟩ v1).setCell ⟨w.heap.size,2,none⟩ v2).setCell ⟨w.heap.size,3,none⟩ v3).setCell ⟨w.heap.size,4,none⟩ v4)):=
  fun v0 v1 v2 v3 v4=>(((((Keeps.refl _ _).set (by simp) _).set (by simp) _).set (by simp) _).set (by simp) _).set (by simp) _
 have Hz:=hide (And.intro z0 (And.intro z1 (And.intro z2 (And.intro z3 z4))))
 clear f0
 go_wp2_with fail
 refine bodyPost_ret (v:=.agg #[.int .i64 e.pair,.int .i64 e.lit.x,.int .i64 e.lit.y,.bool e.lit.n,.int .i64 e.reason]) (by simp[results,Tryz.results100,go_sem,set_same,set_other,z0,z1,z2,z3,z4]) rfl ?_
 refine⟨rfl,F5,HS5.out.keepOut (HK.out _ _ _ _ _) ?_,Hf5.out.up Hk4.out.size,Hk5.out.trans (HK.out _ _ _ _ _) (fun b hb=>by simp at hb;exact .inr (by omega))⟩
 intro b hb
 simp at hb
 subst hb
 exact⟨hoff5,fun hx=>by have:=Hh.out.paLt _ hx;omega,Hh.out.1.1.size⟩
end Go.Proofs.YtjebhhoibofmfaaGreat
