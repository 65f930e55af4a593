import Derived.Test.YtjebhhoibofmfaaGreatBXSeM
import Derived.Test.YtjebhhoibofmfaaGreatBMPg
namespace Go.Proofs.YtjebhhoibofmfaaGreat
open Go.RowKit
def SN(c:Sc)(w:World)(F:List Nat)(kn:List Nat)(prs:List Pr)(P:Pf):Prop:=
 (Below c.w0.heap.size c.w0 w/\(∀ k∈F,c.w0.heap.size<=k)) /\
 ∃ FP ka kc pa pc tag,F=c.s :: (FP++(blkOf ka++blkOf pa))/\Tags tag c.s FP [] ka none pa /\
  w.heap[c.s]?=some (.cells #[.slice c.ta c.ts.length c.tc,.pointer (some ⟨c.m,0,none⟩),.slice ka kn.length kc,.slice pa prs.length pc,.pointer none,.slice none 0 0,.int .u64 0,.int .u64 0] 133 (0,0)) /\
  PP w c.m FP (.slice c.ta c.ts.length c.tc) (.slice c.sa c.cs.length c.sc) P /\
  w.ownsRow 0 3 1 (.slice ka kn.length kc) kn.length (intCells (intL kn))/\w.ownsRow 0 58 2 (.slice pa prs.length pc) prs.length (psCells prs)
theorem SN.lt{c:Sc}{w:World}{F kn:List Nat}{prs:List Pr}{P:Pf}(h:SN c w F kn prs P):∀ b∈F,b < w.heap.size:=by
 obtain⟨_,FP,ka,kc,pa,pc,tag,rfl,ht,hs,hP,hk,hp⟩:=h
 intro b hb
 simp only[List.mem_cons,List.mem_append]at hb
 rcases hb with rfl | hb | hb | hb
 ·exact(Array.getElem?_eq_some_iff.1 hs).1
 ·exact hP.lt b hb
 ·exact(own_lt hk b hb).2
 ·exact(own_lt hp b hb).2
theorem SN.keepOut{c:Sc}{w w':World}{F G kn:List Nat}{prs:List Pr}{P:Pf}(h:SN c w F kn prs P)(hK:Keeps G w w')(hG:∀ b∈G,b ∉ F/\c.w0.heap.size<=b):SN c w' F kn prs P:=by
 obtain⟨⟨h1,h2⟩,FP,ka,kc,pa,pc,tag,hF,ht,hs,hP,hk,hp⟩:=h
 have of:∀ b∈F,b ∉ G:=fun b hb hx=>(hG b hx).1 hb
 rw[hF]at of
 exact⟨⟨hK.below h1 h1.size (fun b hb=>(hG b hb).2),h2⟩,FP,ka,kc,pa,pc,tag,hF,ht,hK.row (of _ (by simp)) hs,hP.keep hK (fun b hb=>of b (by simp[hb])),own_keep hk hK (fun b hb=>of b (by simp[hb])),own_keep hp hK (fun b hb=>of b (by simp[hb]))⟩
theorem SN.up{c:Sc}{w w':World}{F kn:List Nat}{prs:List Pr}{P:Pf}(h:SN c w F kn prs P)(hb:Below w.heap.size w w'):SN c w' F kn prs P:=
 h.keepOut (keeps_below hb) (by simp)
theorem SN.cells{c:Sc}{w:World}{F kn:List Nat}{prs:List Pr}{P:Pf}(h:SN c w F kn prs P):∃ ka kc pa pc,w.cell? ⟨c.s,1,none⟩=some (.pointer (some ⟨c.m,0,none⟩))/\w.cell? ⟨c.s,2,none⟩=some (.slice ka kn.length kc)/\w.cell? ⟨c.s,3,none⟩=some (.slice pa prs.length pc)/\w.cell? ⟨c.s,4,none⟩=some (.pointer none) /\
 w.ownsRow 0 3 1 (.slice ka kn.length kc) kn.length (intCells (intL kn))/\w.ownsRow 0 58 2 (.slice pa prs.length pc) prs.length (psCells prs):=by
 obtain⟨_,FP,ka,kc,pa,pc,tag,hF,ht,hs,hP,hk,hp⟩:=h
 refine⟨ka,kc,pa,pc,?_,?_,?_,?_,hk,hp⟩ <;> (rw[cell_of_row _ _ _ _ _ _ hs];rfl)
theorem SN.frozen{c:Sc}{w:World}{F kn:List Nat}{prs:List Pr}{P:Pf}(h:SN c w F kn prs P)(i:Nat):w.frozen? ⟨c.s,i,none⟩=false:=by
 obtain⟨_,FP,ka,kc,pa,pc,tag,hF,ht,hs,hP,hk,hp⟩:=h
 exact frozen_of_row _ _ _ _ _ hs
theorem SN.withP{c:Sc}{w:World}{F kn:List Nat}{prs:List Pr}{P P':Pf}(h:SN c w F kn prs P){f:FuncId}{args:Array Value}{Post:Ending->Prop}
 (hstep:∀ FP,PP w c.m FP (.slice c.ta c.ts.length c.tc) (.slice c.sa c.cs.length c.sc) P->(∀ b∈FP,b∈F)->Calls Tryz.prog f args w fun e w'=>Post e/\∃ FP',PP w' c.m FP' (.slice c.ta c.ts.length c.tc) (.slice c.sa c.cs.length c.sc) P'/\Fresh FP FP' w/\Keeps FP w w') :
 Calls Tryz.prog f args w fun e w'=>Post e/\∃ F',SN c w' F' kn prs P'/\Fresh F F' w/\Keeps F w w':=by
 have hlt:=h.lt
 obtain⟨⟨h1,h2⟩,FP,ka,kc,pa,pc,tag,hF,ht,hs,hP,hk,hp⟩:=h
 refine(hstep FP hP (by intro b hb;rw[hF];simp[hb])).mono ?_
 rintro e w' ⟨hpost,FP',hP',hf,hK⟩
 refine⟨hpost,?_⟩
 obtain⟨t0,t1,t2,t3,t4,t5⟩:=ht
 have hKF:Keeps F w w':=hK.mono (by intro b hb;rw[hF];simp[hb])
 have hfr:Fresh F (c.s :: (FP'++(blkOf ka++blkOf pa))) w:=by
  intro b hb
  rw[hF]
  simp only[List.mem_cons,List.mem_append]at hb ⊢
  rcases hb with rfl | hb | hb | hb
  ·simp
  ·rcases hf b hb with h7 | h7
   ·simp[h7]
   ·exact .inr h7
  ·simp[hb]
  ·simp[hb]
 have hsn:c.s ∉ FP:=fun hx=>by have:=t1 _ hx;omega
 refine⟨c.s :: (FP'++(blkOf ka++blkOf pa)),⟨⟨hKF.below h1 h1.size h2,?_⟩,FP',ka,kc,pa,pc,tagNew tag w 1,rfl,⟨?_,?_,by simp,?_,by simp[blkOf],?_⟩,hK.row hsn hs,hP',own_keep hk hK (off_tag t3 t1 (by decide)),own_keep hp hK (off_tag t5 t1 (by decide))⟩,hfr,hKF⟩
 ·intro b hb
  rcases hfr b hb with h7 | h7
  ·exact h2 b h7
  ·exact Nat.le_trans h1.size h7
 ·rw[tagNew_old (hlt _ (by rw[hF];simp))];exact t0
 ·exact tagNew_fresh t1 hP.lt hf
 ·intro b hb;rw[tagNew_old (own_lt hk b hb).2];exact t3 b hb
 ·intro b hb;rw[tagNew_old (own_lt hp b hb).2];exact t5 b hb
theorem SN.pushKn{c:Sc}{w W1 w2:World}{F kn:List Nat}{prs:List Pr}{P:Pf}(h:SN c w F kn prs P){k:Nat}(hb:Below w.heap.size w W1){v:Value}{ka:Option Addr}{kc:Nat}(hcell:w.cell? ⟨c.s,2,none⟩=some (.slice ka kn.length kc))
 (hown:w2.ownsRow 0 3 1 v (kn.length+1) (intCells (intL kn)++[.int .i64 k])) (hgr:W1.grownBy w2 (Value.slice ka kn.length kc).ownBlock) (hat:v.ownBlock=(Value.slice ka kn.length kc).ownBlock\/v.ownBlock=some W1.heap.size) :
 ∃ F',SN c (w2.setCell ⟨c.s,2,none⟩ v) F' (kn++[k]) prs P/\Fresh F F' w/\Keeps F w (w2.setCell ⟨c.s,2,none⟩ v):=by
 have hlt:=h.lt
 obtain⟨⟨h1,h2⟩,FP,ka',kc',pa,pc,tag,hF,ht,hs,hP,hk,hp⟩:=h
 have e5:w.cell? ⟨c.s,2,none⟩=some (.slice ka' kn.length kc'):=by rw[cell_of_row _ _ _ _ _ _ hs];rfl
 rw[e5]at hcell
 injection hcell with hcell
 injection hcell with e1 e2 e3
 subst e1
 subst e3
 obtain⟨t0,t1,t2,t3,t4,t5⟩:=ht
 obtain⟨g,gc,rfl,hg⟩:=app_addr' (W:=w) hb.size hown hat
 have hk2:=app_keep' hb hgr
 have hsn:c.s ∉ blkOf ka':=fun hx=>by have:=t3 _ hx;omega
 have hs2:=hk2.row hsn hs
 have hK:Keeps (c.s :: blkOf ka') w (w2.setCell ⟨c.s,2,none⟩ (.slice (some ⟨g,0,none⟩) (kn.length+1) gc)):=(hk2.mono (fun k hk=>List.mem_cons_of_mem _ hk)).set (by simp) _
 have hKF:Keeps F w (w2.setCell ⟨c.s,2,none⟩ (.slice (some ⟨g,0,none⟩) (kn.length+1) gc)):=hK.mono (by
  intro b hb
  rw[hF]
  rcases List.mem_cons.1 hb with rfl | hb
  ·simp
  ·simp[hb])
 have hng:g≠c.s:=fun e=>own_not hown hs2 (fun cur e=>by injection e with _ e;exact absurd e (by decide)) (by simp[blkOf,e])
 have hfr:Fresh F (c.s :: (FP++(blkOf (some (⟨g,0,none⟩:Addr))++blkOf pa))) w:=by
  intro b hb
  rw[hF]
  simp only[List.mem_cons,List.mem_append]at hb ⊢
  rcases hb with rfl | hb | hb | hb
  ·simp
  ·simp[hb]
  ·simp[blkOf]at hb
   subst hb
   rcases hg with h7 | h7
   ·simp[h7]
   ·exact .inr h7
  ·simp[hb]
 have ofs:∀ {A:List Nat} {i:Nat},(∀ b∈A,tag b=i)->i≠0->i≠3->∀ b∈A,b ∉ c.s :: blkOf ka':=by
  intro A i hA hi0 hi4 b hb hx
  rcases List.mem_cons.1 hx with rfl | hx
  ·have:=hA _ hb;omega
  ·have h7:=hA _ hb
   have h8:=t3 _ hx
   omega
 have hfra:Fresh (blkOf ka') (blkOf (some (⟨g,0,none⟩:Addr))) w:=by
  intro b hb
  simp[blkOf]at hb
  subst hb
  exact hg
 refine⟨c.s :: (FP++(blkOf (some (⟨g,0,none⟩:Addr))++blkOf pa)),⟨⟨hKF.below h1 h1.size h2,?_⟩,FP,some ⟨g,0,none⟩,gc,pa,pc,tagNew tag w 3,rfl,⟨?_,?_,by simp,?_,by simp[blkOf],?_⟩,?_,hP.keep hK (ofs t1 (by decide) (by decide)),?_,own_keep hp hK (ofs t5 (by decide) (by decide))⟩,hfr,hKF⟩
 ·intro b hb
  rcases hfr b hb with h7 | h7
  ·exact h2 b h7
  ·exact Nat.le_trans h1.size h7
 ·rw[tagNew_old (hlt _ (by rw[hF];simp))];exact t0
 ·intro b hb;rw[tagNew_old (hP.lt b hb)];exact t1 b hb
 ·exact tagNew_fresh t3 (fun b hb=>(own_lt hk b hb).2) hfra
 ·intro b hb;rw[tagNew_old (own_lt hp b hb).2];exact t5 b hb
 ·rw[heap_setCell_same _ _ _ _ _ _ hs2]
  simp
 ·rw[List.length_append,intCells_snoc]
  exact hown.kept (set_grown w2 c.s 2 _) (.inr (fun e=>hng (by injection e)))
theorem SN.pushPr{c:Sc}{w W1 w2:World}{F kn:List Nat}{prs:List Pr}{P:Pf}(h:SN c w F kn prs P){p:Pr}(hb:Below w.heap.size w W1){v:Value}{pa:Option Addr}{pc:Nat}(hcell:w.cell? ⟨c.s,3,none⟩=some (.slice pa prs.length pc))
 (hown:w2.ownsRow 0 58 2 v (prs.length+1) (psCells prs++prCells p)) (hgr:W1.grownBy w2 (Value.slice pa prs.length pc).ownBlock) (hat:v.ownBlock=(Value.slice pa prs.length pc).ownBlock\/v.ownBlock=some W1.heap.size) :
 ∃ F',SN c (w2.setCell ⟨c.s,3,none⟩ v) F' kn (prs++[p]) P/\Fresh F F' w/\Keeps F w (w2.setCell ⟨c.s,3,none⟩ v):=by
 have hlt:=h.lt
 obtain⟨⟨h1,h2⟩,FP,ka,kc,pa',pc',tag,hF,ht,hs,hP,hk,hp⟩:=h
 have e5:w.cell? ⟨c.s,3,none⟩=some (.slice pa' prs.length pc'):=by rw[cell_of_row _ _ _ _ _ _ hs];rfl
 rw[e5]at hcell
 injection hcell with hcell
 injection hcell with e1 e2 e3
 subst e1
 subst e3
 obtain⟨t0,t1,t2,t3,t4,t5⟩:=ht
 obtain⟨g,gc,rfl,hg⟩:=app_addr' (W:=w) hb.size hown hat
 have hk2:=app_keep' hb hgr
 have hsn:c.s ∉ blkOf pa':=fun hx=>by have:=t5 _ hx;omega
 have hs2:=hk2.row hsn hs
 have hK:Keeps (c.s :: blkOf pa') w (w2.setCell ⟨c.s,3,none⟩ (.slice (some ⟨g,0,none⟩) (prs.length+1) gc)):=(hk2.mono (fun k hk=>List.mem_cons_of_mem _ hk)).set (by simp) _
 have hKF:Keeps F w (w2.setCell ⟨c.s,3,none⟩ (.slice (some ⟨g,0,none⟩) (prs.length+1) gc)):=hK.mono (by
  intro b hb
  rw[hF]
  rcases List.mem_cons.1 hb with rfl | hb
  ·simp
  ·simp[hb])
 have hng:g≠c.s:=fun e=>own_not hown hs2 (fun cur e=>by injection e with _ e;exact absurd e (by decide)) (by simp[blkOf,e])
 have hfr:Fresh F (c.s :: (FP++(blkOf ka++blkOf (some (⟨g,0,none⟩:Addr))))) w:=by
  intro b hb
  rw[hF]
  simp only[List.mem_cons,List.mem_append]at hb ⊢
  rcases hb with rfl | hb | hb | hb
  ·simp
  ·simp[hb]
  ·simp[hb]
  ·simp[blkOf]at hb
   subst hb
   rcases hg with h7 | h7
   ·simp[h7]
   ·exact .inr h7
 have ofs:∀ {A:List Nat} {i:Nat},(∀ b∈A,tag b=i)->i≠0->i≠5->∀ b∈A,b ∉ c.s :: blkOf pa':=by
  intro A i hA hi0 hi4 b hb hx
  rcases List.mem_cons.1 hx with rfl | hx
  ·have:=hA _ hb;omega
  ·have h7:=hA _ hb
   have h8:=t5 _ hx
   omega
 have hfra:Fresh (blkOf pa') (blkOf (some (⟨g,0,none⟩:Addr))) w:=by
  intro b hb
  simp[blkOf]at hb
  subst hb
  exact hg
 refine⟨c.s :: (FP++(blkOf ka++blkOf (some (⟨g,0,none⟩:Addr)))),⟨⟨hKF.below h1 h1.size h2,?_⟩,FP,ka,kc,some ⟨g,0,none⟩,gc,tagNew tag w 5,rfl,⟨?_,?_,by simp,?_,by simp[blkOf],?_⟩,?_,hP.keep hK (ofs t1 (by decide) (by decide)),own_keep hk hK (ofs t3 (by decide) (by decide)),?_⟩,hfr,hKF⟩
 ·intro b hb
  rcases hfr b hb with h7 | h7
  ·exact h2 b h7
  ·exact Nat.le_trans h1.size h7
 ·rw[tagNew_old (hlt _ (by rw[hF];simp))];exact t0
 ·intro b hb;rw[tagNew_old (hP.lt b hb)];exact t1 b hb
 ·intro b hb;rw[tagNew_old (own_lt hk b hb).2];exact t3 b hb
 ·exact tagNew_fresh t5 (fun b hb=>(own_lt hp b hb).2) hfra
 ·rw[heap_setCell_same _ _ _ _ _ _ hs2]
  simp
 ·rw[List.length_append,psCells_snoc]
  exact hown.kept (set_grown w2 c.s 3 _) (.inr (fun e=>hng (by injection e)))
theorem SN.done{c:Sc}{w w1:World}{F kn:List Nat}{prs:List Pr}{P:Pf}{q:Nat}{FQ:List Nat}(h:SN c w F kn prs P)(hb:Below w.heap.size w w1)(hQ:QQ w1 q FQ (List.replicate prs.length 0) (List.range prs.length))(hFQ:∀ k∈FQ,w.heap.size<=k) :
 ∃ c' F',c'.E=c.E/\c'.ts=c.ts/\c'.cs=c.cs/\c'.w0=c.w0/\c'.ta=c.ta/\c'.sa=c.sa/\c'.tc=c.tc/\c'.sc=c.sc/\c'.s=c.s/\c'.m=c.m/\c'.prs=prs/\SS c' (w1.setCell ⟨c.s,4,none⟩ (.pointer (some ⟨q,0,none⟩))) F' (sr0 kn prs P)/\Below c.w0.heap.size c.w0 (w1.setCell ⟨c.s,4,none⟩ (.pointer (some ⟨q,0,none⟩))):=by
 have hlt:=h.lt
 obtain⟨⟨h1,h2⟩,FP,ka,kc,pa,pc,tag,hF,ht,hs,hP,hk,hp⟩:=h
 obtain⟨t0,t1,t2,t3,t4,t5⟩:=ht
 have hs1:=(keeps_below hb).row (by simp) hs
 have hK:Keeps [c.s] w1 (w1.setCell ⟨c.s,4,none⟩ (.pointer (some ⟨q,0,none⟩))):=(Keeps.refl _ _).set (by simp) _
 have hsl:c.s < w.heap.size:=hlt _ (by rw[hF];simp)
 have ofs:∀ {A:List Nat} {i:Nat},(∀ b∈A,tag b=i)->i≠0->∀ b∈A,b ∉ [c.s]:=by
  intro A i hA hi b hb hx
  simp at hx
  subst hx
  have:=hA _ hb
  omega
 have hqs:∀ b∈FQ,b ∉ [c.s]:=fun b hb hx=>by
  simp at hx
  have:=hFQ b hb
  omega
 have hbz:Below c.w0.heap.size c.w0 (w1.setCell ⟨c.s,4,none⟩ (.pointer (some ⟨q,0,none⟩))):=(h1.trans (hb.mono h1.size)).setCell (p:=⟨c.s,4,none⟩) (h2 _ (by rw[hF];simp)) _
 refine⟨{ c with q:=q,pa:=pa,pc:=pc,prs:=prs,ka:=ka,kc:=kc },c.s :: (FP++(FQ++(blkOf ka++blkOf none))),rfl,rfl,rfl,rfl,rfl,rfl,rfl,rfl,rfl,rfl,rfl,⟨⟨hbz,?_,by simp[sr0],by simp[sr0],by simp[sr0],by simp[sr0]⟩,FP,FQ,none,0,tagNew tag w 2,rfl,⟨?_,?_,?_,?_,by simp[blkOf],?_⟩,?_,(hP.keep (keeps_below hb) (by simp)).keep hK (ofs t1 (by decide)),hQ.keep hK hqs,own_keep (own_below hk hb) hK (ofs t3 (by decide)),⟨rfl,.inl ⟨rfl,rfl⟩⟩,(pairsAt_of_own (own_below hp hb)).keep hK (ofs t5 (by decide)),?_⟩,hbz⟩
 ·intro b hb'
  simp only[List.mem_cons,List.mem_append]at hb'
  rcases hb' with rfl | hb' | hb' | hb' | hb'
  ·exact h2 _ (by rw[hF];simp)
  ·exact h2 _ (by rw[hF];simp[hb'])
  ·exact Nat.le_trans h1.size (hFQ b hb')
  ·exact h2 _ (by rw[hF];simp[hb'])
  ·simp[blkOf]at hb'
 ·show tagNew tag w 2 c.s=0
  rw[tagNew_old hsl];exact t0
 ·intro b hb'; rw[tagNew_old (hP.lt b hb')];exact t1 b hb'
 ·intro b hb'
  have:=hFQ b hb'
  unfold tagNew
  rw[if_neg (by omega)]
 ·intro b hb'; rw[tagNew_old (own_lt hk b hb').2];exact t3 b hb'
 ·intro b hb'; rw[tagNew_old (own_lt hp b hb').2];exact t5 b hb'
 ·exact(heap_setCell_same _ _ _ _ _ _ hs1).trans rfl
 ·intro b hb'
  have:=(own_lt hp b hb').2
  have:=hb.size
  show b < (w1.setCell _ _).heap.size
  have h7:=hK.size
  omega
end Go.Proofs.YtjebhhoibofmfaaGreat
namespace Go.Proofs.YtjebhhoibofmfaaGreat
open Go.RowKit
def SetBox(w:World)(b:Nat)(p:Nat×Nat):Prop:=w.heap[b]?=some (.cells #[.int .u64 p.1,.int .u64 p.2] 95 (0,0))
theorem SetBox.cells{w:World}{b:Nat}{p:Nat×Nat}(h:SetBox w b p):w.cell? ⟨b,0,none⟩=some (.int .u64 p.1)/\w.cell? ⟨b,1,none⟩=some (.int .u64 p.2):=by
 constructor <;> (rw[cell_of_row _ _ _ _ _ _ h];rfl)
theorem SetBox.set{w:World}{b:Nat}{p:Nat×Nat}(h:SetBox w b p)(x y:Nat):SetBox ((w.setCell ⟨b,0,none⟩ (.int .u64 (x:Int))).setCell ⟨b,1,none⟩ (.int .u64 (y:Int))) b (x,y):=by
 have h0:(w.setCell ⟨b,0,none⟩ (.int .u64 (x:Int))).heap[b]?=some (.cells #[.int .u64 (x:Int),.int .u64 p.2] 95 (0,0)):=(heap_setCell_same _ _ _ _ _ _ h).trans rfl
 exact(heap_setCell_same _ _ _ _ _ _ h0).trans rfl
theorem addP_lt{E:Env}{P P':Pf}{s:St}{k:Nat}(h:addP E P s=some (k,P')):k < P'.ss.length:=by
 rcases addP_inv h with⟨_,⟨h1,h2,h3⟩ | ⟨h1,h2,h3,h4⟩⟩
 ·rw[h2,h3];exact List.idxOf_lt_length_iff.2 h1
 ·rw[h3,h4];simp
theorem or_lt64{x y:Nat}(hx:x < 18446744073709551616)(hy:y < 18446744073709551616):x ||| y < 18446744073709551616:=Nat.or_lt_two_pow (n:=64) hx hy
theorem SN.clause{c:Sc}{w:World}{F kn:List Nat}{prs:List Pr}{P:Pf}(h:SN c w F kn prs P){k:Nat}(hk:k < P.ss.length) :
 (Calls Tryz.prog 94 #[.pointer (some ⟨c.m,0,none⟩),.int .i64 k] w fun e w'=>e=.returned (.agg #[.int .u64 (clOf P k).1,.int .u64 (clOf P k).2])/\Below w.heap.size w w')/\(clOf P k).1 < 18446744073709551616/\(clOf P k).2 < 18446744073709551616:=by
 obtain⟨_,FP,ka,kc,pa,pc,tag,hF,ht,hs,hP,hk',hp⟩:=h
 exact⟨pclause_any c.m FP _ _ P k w hP hk,hP.b64 hk⟩
set_option maxRecDepth 100000 in
set_option maxHeartbeats 8000000 in
theorem start_any(hX:CutHolds){E:Env}{ts:List Tm}{cs:List Cl}(hE:EnvAll E ts cs)(hts:termsB ts=true)(hcl:clausesB ts.length cs=true)(ta sa:Option Addr)(tc sc:Nat)(w:World)(ht:TermsAt w ta ts)(hcs:ClausesAt w sa cs)
 (kn':List Nat) (st':Nat×Nat) (P':Pf) (hst:startP E (List.range cs.length) [] (0,0) pf0=some (kn',st',P')) (h45:(pairsOf st').length<=45) :
 Calls Tryz.prog 77 #[.agg #[.slice ta ts.length tc,.slice sa cs.length sc]] w fun e w'=>∃ c F,e=.returned (.pointer (some ⟨c.s,0,none⟩))/\(c.E=E/\c.ts=ts/\c.cs=cs/\c.w0=w/\c.ta=ta/\c.sa=sa/\c.tc=tc/\c.sc=sc/\c.prs=pairsOf st')/\SS c w' F (sr0 kn' (pairsOf st') P')/\Below w.heap.size w w':=by
 obtain⟨i1,hi1,hy0,hy1,hy2⟩:=info_parts info_int
 obtain⟨i2,hi2,hx0,hx1,hx2⟩:=info_parts info_pair
 have h16:cs.length<=16:=(clausesIn_of hcl).1
 obtain⟨W0,hW0⟩:∃ W0,W0=w.alloc (.cells #[.slice ta ts.length tc,.slice sa cs.length sc] 25):=⟨_,rfl⟩
 have hb0:Below w.heap.size w W0:=by rw[hW0];exact below_alloc _ _
 have p0:W0.cell? ⟨w.heap.size,0,none⟩=some (.slice ta ts.length tc):=by rw[hW0];simp
 have p1:W0.cell? ⟨w.heap.size,1,none⟩=some (.slice sa cs.length sc):=by rw[hW0];simp
 have Hst:=hide hst
 have Ht:=hide (And.intro ht hcs)
 have Hb0:=hide hb0
 clear ht hcs hst hb0
 go_enter Tryz.func77,Tryz.ntmps77
 go_upto_region 1 with fail
 rw[<-hW0]
 clear hW0
 go_cut [3]from 9 to 14 (fun v wx=>∃ s m F,v=.pointer (some ⟨s,0,none⟩)/\SN ⟨E,ts,cs,w,ta,sa,tc,sc,s,m,0,none,0,[],none,0⟩ wx F [] [] pf0/\w.heap.size ∉ F/\Below W0.heap.size W0 wx)
 case first=>
  go_region_with ((go_at_call 91; refine(pnew_any ta sa ts.length tc cs.length sc _).mono ?_;rintro e w1 ⟨m,FP,rfl,hP,hFP,hb⟩;have y0:=cell_below (below_drew1 hb) p0;have y1:=cell_below (below_drew1 hb) p1))
  all_goals
   go_wp2_with fail
   go_meet
   have hb1:=below_drew1 hb
   have hsz:w.heap.size < W0.heap.size:=block_lt p0
   have hbz:=hb1.size
   refine⟨w1.heap.size,m,w1.heap.size :: (FP++(blkOf none++blkOf none)),rfl,⟨⟨(Hb0.out.trans (hb1.mono Hb0.out.size)).trans ((below_alloc w1 _).mono (by omega)),?_⟩,FP,none,0,none,0,fun b=>if b=w1.heap.size then 0 else 1,rfl,⟨by simp,?_,by simp,by simp[blkOf],by simp[blkOf],by simp[blkOf]⟩,?_,hP.keep (keeps_below (below_alloc w1 _)) (by simp),⟨rfl,.inl ⟨rfl,rfl⟩⟩,⟨rfl,.inl ⟨rfl,rfl⟩⟩⟩,?_,hb1.trans ((below_alloc w1 _).mono hb1.size)⟩
   ·intro b hb'
    simp[blkOf]at hb'
    show w.heap.size<=b
    rcases hb' with rfl | hb'
    ·omega
    ·have:=hFP b hb'
     have h7:W0.drew.heap.size=W0.heap.size:=rfl
     omega
   ·intro b hb'
    have:=hP.lt b hb'
    simp
    omega
   ·exact heap_at_new _ _ _ rfl
   ·intro hx
    simp[blkOf]at hx
    rcases hx with hx | hx
    ·omega
    ·have:=hFP _ hx
     have h7:W0.drew.heap.size=W0.heap.size:=rfl
     omega
 case rest=>
 obtain⟨s,m,F,rfl,hSN,hpF,hb1⟩:=hcut
 replace p1:=cell_below hb1 p1
 obtain⟨c,hc⟩:∃ c:Sc,c=⟨E,ts,cs,w,ta,sa,tc,sc,s,m,0,none,0,[],none,0⟩:=⟨_,rfl⟩
 rw[<-hc]at hSN
 have es:c.s=s:=by rw[hc]
 have em:c.m=m:=by rw[hc]
 have Hc:=hide hc
 have Hb1:Hid (Below w.heap.size w wc):=Hb0.out.trans (hb1.mono Hb0.out.size)
 obtain⟨W2,hW2⟩:∃ W2,W2=wc.alloc (.cells #[.int .u64 0,.int .u64 0] 95):=⟨_,rfl⟩
 have hbA:Below wc.heap.size wc W2:=by rw[hW2];exact below_alloc _ _
 have hbox:SetBox W2 wc.heap.size (0,0):=by rw[hW2];exact heap_at_new _ _ _ rfl
 have hSN2:=hSN.up hbA
 have hoff:Off [wc.heap.size] F W2:=fun b hb=>by
  simp at hb
  subst hb
  exact⟨fun hx=>by have:=hSN.lt _ hx;omega,(Array.getElem?_eq_some_iff.1 hbox).1⟩
 have hbs:w.heap.size<=wc.heap.size:=Hb1.out.size
 have p1':=cell_below hbA p1
 have HSN2:=hide hSN2
 have Hoff:=hide hoff
 go_upto_region 3 with fail
 rw[<-hW2]
 clear hW2 hSN hSN2 hbA p0 p1 hoff hb1 hc
 generalize wc.heap.size=bs at *
 go_wp2_with fail
 go_loopg [18] cs.length (fun q v wx=>∃(j:Nat) (kn:List Nat) (st:Nat×Nat) (P:Pf) (G:List Nat),q=cs.length - j/\j<=cs.length/\v=.int .i64 j/\Hid (startP E ((List.range cs.length).drop j) kn st P=some (kn',st',P'))/\Hid (SN c wx G kn [] P)/\Hid (Off [bs] G wx)/\SetBox wx bs st/\(st.1 < 18446744073709551616/\st.2 < 18446744073709551616)/\kn.length<=j)
 case atStart=>exact⟨0,[],(0,0),pf0,F,rfl,Nat.zero_le _,rfl,Hst,HSN2,Hoff,hbox,⟨by simp,by simp⟩,Nat.le_refl _⟩
 case round=>
  obtain⟨j,kn,st,P,G,rfl,hj,rfl,Hj,HSj,Hofj,hbxj,h64,hkl⟩:=hrel
  by_cases hlt:j < cs.length
  ·have Hs:=hide Hj.out
   rw[range_drop hlt]at Hs
   unfold startP at Hs
   cases had:addP E P (givenS j)with
   | none=>have:=Hs.out;rw[had]at this;cases this
   | some r=>
   obtain⟨k,P1⟩:=r
   rw[had,Option.bind_some]at Hs
   simp only at Hs
   obtain⟨ka,kc,pa,pc,s1,s2,s3,s4,ho1,ho2⟩:=HSj.out.cells
   rw[es,em]at s1
   have Hgv:Hid (Calls Tryz.prog 92 #[.pointer (some ⟨m,0,none⟩),.int .i64 j] wr fun e w'=>e=.returned (.int .i64 k)/\∃ F',SN c w' F' kn [] P1/\Fresh G F' wr/\Keeps G wr w'):=by
    rw[<-em]
    refine HSj.out.withP (Post:=fun e=>e=.returned (.int .i64 k)) (fun FP hP hFP=>?_)
    have hb':=HSj.out.1.1
    rw[Hc.out]at hb' hP ⊢
    exact pgiven_any hX hE.toEnvOf m FP ta sa tc sc P P1 j k wr (Ht.out.1.below hb') (Ht.out.2.below hb') hts hcl hP had
   have hk1:=addP_lt had
   clear s2 s3 s4 ho1 ho2 had
   go_wp2_with fail
   refine Hgv.out.mono ?_
   rintro e w2 ⟨rfl,G2,hS2,hf2,hk2⟩
   clear Hgv s1
   have hbx2:SetBox w2 bs st:=hk2.row (Hofj.out bs (by simp)).1 hbxj
   have Hof2:=hide (Hofj.out.step hf2 hk2.size)
   obtain⟨ka,kc,pa,pc,s1,s2,s3,s4,ho1,ho2⟩:=hS2.cells
   have s2k:=s2
   rw[es]at s2
   have HS2:=hide hS2
   have Hsr:Hid (∀ W' w3:World,Below w2.heap.size w2 W'->W'.grownBy w3 (Value.slice ka kn.length kc).ownBlock->w3.cell? ⟨s,2,none⟩=some (.slice ka kn.length kc)/\w3.frozen? ⟨s,2,none⟩=false):=by
    intro W' w3 hb' hg'
    obtain⟨_,FP,ka',kc',pa',pc',tag,hF,ht,hs,hP,hk',hp⟩:=HS2.out
    rw[es]at hs
    have hx:=own_not ho1 hs (fun cur e=>by injection e with _ e;exact absurd e (by decide))
    have hk3:=app_keep' hb' hg'
    exact⟨hk3.cell hx s2,frozen_of_row _ _ _ _ _ (hk3.row hx hs)⟩
   have Hs2k:=hide s2k
   have Ho1:=hide ho1
   clear s1 s3 s4 ho1 ho2 hS2 hf2 hk2 s2k hbxj
   go_upto_region 8 with(at_builtin;refine wpList_append_own_at _ rfl (.tmp 31) (.tmp 33) 29 rfl 0 3 i1 (.int .i64 0) 1 8 Tryz.underlying29 hi1 hy0 hy1 hy2 rfl (by decide) (.slice ka kn.length kc) kn.length (intCells (intL kn)) rfl (Ho1.out.alloc _) ⟨w2.heap.size,0,none⟩ 1 1 [.int .i64 k] rfl rfl (by simpa using new_one w2 (.int .i64 k) 3) (fun u hu=>by simp at hu;subst hu;rfl) (by unfold maxLen;omega) (by omega) (by simp) ?_;intro v3 w3 hown3 hgrow3 hz3 hat3;clear hz3;obtain⟨g,gc,rfl,hg⟩:=app_addr' (W:=w2) (by simp) hown3 hat3;obtain⟨y1,y2⟩:=Hsr.out _ _ (below_alloc _ _) hgrow3)
   obtain⟨G3,hS3,hf3,hk3⟩:=HS2.out.pushKn (k:=k) (below_alloc _ _) Hs2k.out hown3 hgrow3 hat3
   rw[es]at hS3 hk3
   generalize hW3:w3.setCell ⟨s,2,none⟩ (.slice (some ⟨g,0,none⟩) (kn.length+1) gc)=W3 at *
   clear hW3 y1 y2 hown3 hgrow3 hat3 s2 Hsr Ho1 Hs2k
   have hbx3:SetBox W3 bs st:=hk3.row (Hof2.out bs (by simp)).1 hbx2
   have Hof3:=hide (Hof2.out.step hf3 hk3.size)
   obtain⟨hcl3,h64c⟩:=hS3.clause hk1
   obtain⟨ka3,kc3,pa3,pc3,s1,s2,s3,s4,ho1,ho2⟩:=hS3.cells
   rw[es,em]at s1
   have HS3:=hide hS3
   have Hcl3:Hid (∀ W',Below W3.heap.size W3 W'->Calls Tryz.prog 94 #[.pointer (some ⟨m,0,none⟩),.int .i64 k] W' fun e w'=>e=.returned (.agg #[.int .u64 (clOf P1 k).1,.int .u64 (clOf P1 k).2])/\Below W'.heap.size W' w'):=by
    intro W' hb'
    rw[<-em]
    exact((HS3.out.up hb').clause hk1).1
   have Hun:Hid (∀ W,Calls Tryz.prog 93 #[.agg #[.int .u64 st.1,.int .u64 st.2],.agg #[.int .u64 (clOf P1 k).1,.int .u64 (clOf P1 k).2]] W fun e w'=>e=.returned (.agg #[.int .u64 (st.1 ||| (clOf P1 k).1:Nat),.int .u64 (st.2 ||| (clOf P1 k).2:Nat)])/\Below W.heap.size W w'):=
    fun W=>union_any _ _ _ _ W h64.1 h64.2 h64c.1 h64c.2
   have h64n:=And.intro (or_lt64 h64.1 h64c.1) (or_lt64 h64.2 h64c.2)
   obtain⟨z0,z1⟩:=hbx3.cells
   have Hbx3:=hide hbx3
   have hbsl:=(Hof3.out bs (by simp)).2
   clear s2 s3 s4 ho1 ho2 hcl3 hS3 hf3 hk3 hbx2 hbx3 h64c
   generalize st.1 ||| (clOf P1 k).1=n1 at *
   generalize st.2 ||| (clOf P1 k).2=n2 at *
   generalize clOf P1 k=cq at *
   go_region_with (first
    | (go_at_call 94; refine(Hcl3.out _ (Below.refl _ _).drew).mono ?_;rintro e w5 ⟨rfl,hb5⟩;have z0:=cell_below (below_drew1 hb5) z0;have z1:=cell_below (below_drew1 hb5) z1)
    | (go_at_call 93; refine(Hun.out _).mono ?_;rintro e w6 ⟨rfl,hb6⟩;have hb56:=(below_drew1 hb5).trans (hb6.mono (below_drew1 hb5).size);have hbx6:SetBox w6 bs st:=(keeps_below hb56).row (by simp) Hbx3.out;obtain⟨y0,y1⟩:=hbx6.cells;have f0:w6.frozen? ⟨bs,0,none⟩=false:=frozen_of_row _ _ _ _ _ hbx6;have f1:w6.frozen? ⟨bs,1,none⟩=false:=frozen_of_row _ _ _ _ _ hbx6))
   all_goals
    have hS6:=HS3.out.up hb56
    have hK6:Keeps [bs] w6 ((w6.setCell ⟨bs,0,none⟩ (.int .u64 (n1:Int))).setCell ⟨bs,1,none⟩ (.int .u64 (n2:Int))):=((Keeps.refl _ _).set (by simp) _).set (by simp) _
    have HS7:=hide (hS6.keepOut hK6 (fun b hb=>by
     simp at hb
     subst hb
     exact⟨(Hof3.out b (by simp)).1,by rw[Hc.out];exact hbs⟩))
    have Hof7:=hide ((Hof3.out.step (Fresh.refl _ _) hb56.size).step (Fresh.refl _ _) hK6.size)
    have Hbx7:=hide (hbx6.set n1 n2)
    clear hS6 hK6 y0 y1 f0 f1 hbx6 hb56 hb5 hb6 s1 z0 z1
    go_wp2_with fail
    go_roundg (cs.length - (j+1))
    case measure=>omega
    case rel=>exact⟨j+1,kn++[k],(n1,n2),P1,G3,rfl,by omega,by go_num,Hs,HS7,Hof7,Hbx7.out,h64n,by simp;omega⟩
  ·have Hfin:Hid (kn=kn'/\st=st'/\P=P'):=by
    have:=Hj.out
    rw[List.drop_of_length_le (by simp;omega)]at this
    unfold startP at this
    injection this with this
    injection this with e1 e2
    injection e2 with e2 e3
    exact⟨e1,e2,e3⟩
   obtain⟨q1,q2⟩:=st
   have z64:=h64
   simp only at z64
   obtain⟨z0,z1⟩:=hbxj.cells
   simp only at z0 z1
   have Hls:Hid (pairsOf st'=((inOrd (q1 ||| q2) (q2 ||| q1)).filter fun t=>!t.n).map fun t=>⟨t.x,t.y⟩):=by show _=_;rw[<-Hfin.out.2.1];rfl
   have Hu:Hid (∀ W,Calls Tryz.prog 93 #[.agg #[.int .u64 q1,.int .u64 q2],.agg #[.int .u64 q2,.int .u64 q1]] W fun e w'=>e=.returned (.agg #[.int .u64 (q1 ||| q2:Nat),.int .u64 (q2 ||| q1:Nat)])/\Below W.heap.size W w'):=
    fun W=>union_any _ _ _ _ W z64.1 z64.2 z64.2 z64.1
   have hu64:=And.intro (or_lt64 z64.1 z64.2) (or_lt64 z64.2 z64.1)
   have hlen:(inOrd (q1 ||| q2) (q2 ||| q1)).length<=162:=Nat.le_trans (List.length_filter_le _ _) (allL_length 9)
   clear hbxj h64
   generalize q1 ||| q2=o1 at *
   generalize q2 ||| q1=o2 at *
   have hbl:=(Hofj.out bs (by simp)).2
   go_upto_region 10 with fail
   go_region_held3 (fun w'=>w'.cell? ⟨bs,0,none⟩=some (.int .u64 q1)/\w'.cell? ⟨bs,1,none⟩=some (.int .u64 q2))
    (first | exact hS | go_keep)
    (first
      | (go_at_call 95; refine(contraries_any _ _ _).mono ?_;rintro e w5 ⟨rfl,hb5⟩;have hS:=And.intro (cell_below (below_drew1 hb5) z0) (cell_below (below_drew1 hb5) z1))
      | (go_at_call 93; refine(Hu.out _).mono ?_;rintro e w6 ⟨rfl,hb6⟩;have hS1:=hS;have hS:=And.intro (cell_below hb6 hS1.1) (cell_below hb6 hS1.2))
      | (go_at_call 46; refine(inOrder_any o1 o2 _ hu64.1 hu64.2).mono ?_;rintro e w7 ⟨lsa,lsc,rfl,hown7,hb7⟩;have hS1:=hS;have hS:=And.intro (cell_below hb7 hS1.1) (cell_below hb7 hS1.2)))
   have hb56:Below wr.heap.size wr w6:=(below_drew1 hb5).trans (hb6.mono (below_drew1 hb5).size)
   have hb57:Below wr.heap.size wr w7:=hb56.trans (hb7.mono hb56.size)
   have HS7:Hid (SN c w7 G kn' [] P'):=by
    have:=HSj.out.up hb57
    rw[Hfin.out.1,Hfin.out.2.2]at this
    exact this
   have hli:=litsAt_of_own hown7
   have Hof7:Hid (Off (blkOf lsa) G w7):=fun b hb=>by
    have h1:=own_lt hown7 b hb
    exact⟨fun hx=>by have:=HSj.out.lt _ hx;have:=hb56.size;omega,h1.2⟩
   clear hb5 hb6 hb7 hb56 hb57 hown7 z0 z1 Hu
   have hS0:=hS
   clear hS hS1 hS0
   generalize inOrd o1 o2=ls at *
   have Hli:=hide hli
   clear hli
   go_wp2_with fail
   go_loopg [52] ls.length (fun q v wx=>∃(j:Nat) (prs:List Pr) (G:List Nat),q=ls.length - j/\j<=ls.length/\v=.int .i64 j/\prs.length<=j/\Hid (((ls.take j).filter fun t=>!t.n).map (fun t=>(⟨t.x,t.y⟩:Pr))=prs)/\Hid (SN c wx G kn' prs P')/\Hid (Off (blkOf lsa) G wx)/\Hid (LitsAt wx lsa ls))
   case atStart=>exact⟨0,[],G,rfl,Nat.zero_le _,rfl,Nat.le_refl _,rfl,HS7,Hof7,Hli⟩
   case round=>
    obtain⟨j2,prs,G8,rfl,hj2,rfl,hpl,Hpr,HS8,Hof8,Hl8⟩:=hrel
    by_cases hlt2:j2 < ls.length
    ·obtain⟨lb,lo,rfl,lcell⟩:=Hl8.out.get hlt2
     obtain⟨l0,l1,l2⟩:=lcell j2 hlt2
     clear lcell
     have Htk:Hid (((ls.take (j2+1)).filter fun t=>!t.n).map (fun t=>(⟨t.x,t.y⟩:Pr))=if(ls.getD j2 lt0).n then prs else prs++[⟨(ls.getD j2 lt0).x,(ls.getD j2 lt0).y⟩]):=by
      show _=_
      rw[List.take_succ_eq_append_getElem hlt2,List.filter_append,List.map_append,Hpr.out,List.getD_eq_getElem?_getD,List.getElem?_eq_getElem hlt2,Option.getD_some]
      cases hn:ls[j2].n <;> simp[hn]
     generalize ls.getD j2 lt0=t at *
     obtain⟨tx,ty,tn⟩:=t
     simp only at l0 l1 l2 Htk
     have hlb:=block_lt l0
     obtain⟨W9,hW9⟩:∃ W9,W9=wr.alloc (.cells #[.int .i64 tx,.int .i64 ty,.bool tn] 60):=⟨_,rfl⟩
     have hbA:Below wr.heap.size wr W9:=by rw[hW9];exact below_alloc _ _
     have g0:W9.cell? ⟨wr.heap.size,0,none⟩=some (.int .i64 tx):=by rw[hW9];simp
     have g1:W9.cell? ⟨wr.heap.size,1,none⟩=some (.int .i64 ty):=by rw[hW9];simp
     have g2:W9.cell? ⟨wr.heap.size,2,none⟩=some (.bool tn):=by rw[hW9];simp
     have HS9:=hide (HS8.out.up hbA)
     have Hof9:=hide (Hof8.out.step (Fresh.refl _ _) hbA.size)
     have Hl9:=hide (Hl8.out.below hbA)
     have hnF:wr.heap.size ∉ G8:=fun hx=>by have:=HS8.out.lt _ hx;omega
     go_upto_region 13 with fail
     rw[<-hW9]
     clear hW9 l0 l1 l2 hlb hbA
     cases tn
     ·rw[if_neg (by simp)]at Htk
      obtain⟨ka,kc,pa,pc,s1,s2,s3,s4,ho1,ho2⟩:=HS9.out.cells
      have Hs3k:=hide s3
      rw[es]at s3
      have Hsr:Hid (∀ W' w3:World,Below W9.heap.size W9 W'->W'.grownBy w3 (Value.slice pa prs.length pc).ownBlock->w3.cell? ⟨s,3,none⟩=some (.slice pa prs.length pc)/\w3.frozen? ⟨s,3,none⟩=false):=by
       intro W' w3 hb' hg'
       obtain⟨_,FP,ka',kc',pa',pc',tag,hF,ht,hs,hP,hk',hp⟩:=HS9.out
       rw[es]at hs
       have hx:=own_not ho2 hs (fun cur e=>by injection e with _ e;exact absurd e (by decide))
       have hk3:=app_keep' hb' hg'
       exact⟨hk3.cell hx s3,frozen_of_row _ _ _ _ _ (hk3.row hx hs)⟩
      have Ho2:=hide ho2
      have e3:=alloc_old (o:=.cells #[.int .i64 tx,.int .i64 ty] 58) s3
      clear s1 s2 s4 ho1 ho2
      go_upto_region 14 with fail
      go_region_law (refine step_append_own_at rfl (.tmp 63) (.tmp 69) 46 rfl 0 58 i2 (.agg #[.int .i64 0,.int .i64 0]) 2 16 Tryz.underlying46 hi2 hx0 hx1 hx2 rfl (by decide) (.slice pa prs.length pc) prs.length (psCells prs) (by simp[Act.eval]) (Ho2.out.alloc _) ⟨W9.heap.size,0,none⟩ 1 1 (prCells ⟨tx,ty⟩) (by simp[Act.eval]) rfl (new_pr W9 ⟨tx,ty⟩ _) (prCells_one _) (by unfold maxLen;omega) (by omega) (by simp) ?_;intro v3 w3 hown3 hgrow3 hat3;obtain⟨g,gc,rfl,hg⟩:=app_addr' (W:=W9) (by simp) hown3 hat3;obtain⟨y1,y2⟩:=Hsr.out _ _ (below_alloc _ _).drew hgrow3)
      all_goals
       obtain⟨G10,hS10,hf10,hk10⟩:=HS9.out.pushPr (p:=⟨tx,ty⟩) (below_alloc _ _).drew Hs3k.out hown3 hgrow3 hat3
       rw[es]at hS10 hk10
       have HS10:=hide hS10
       have Hof10:=hide (Hof9.out.step hf10 hk10.size)
       have Hl10:=hide (Hl9.out.keep hk10 (fun b hb=>(Hof9.out b hb).1))
       clear hS10 hf10 hk10 hown3 hgrow3 hat3 y1 y2
       go_wp2_with fail
       go_roundg (ls.length - (j2+1))
       case measure=>omega
       case rel=>exact⟨j2+1,prs++[⟨tx,ty⟩],G10,rfl,by omega,by go_num,by simp;omega,Htk,HS10,Hof10,Hl10⟩
     ·rw[if_pos rfl]at Htk
      go_wp2_with fail
      go_roundg (ls.length - (j2+1))
      case measure=>omega
      case rel=>exact⟨j2+1,prs,G8,rfl,by omega,by go_num,by omega,Htk,HS9,Hof9,Hl9⟩
    ·have Hp:Hid (pairsOf st'=prs):=by
      show _=_
      rw[Hls.out,<-Hpr.out,List.take_of_length_le (by omega)]
     obtain⟨ka,kc,pa,pc,s1,s2,s3,s4,ho1,ho2⟩:=HS8.out.cells
     rw[es]at s3 s4
     have hn45:prs.length<=45:=by rw[<-Hp.out];exact h45
     have f4:=HS8.out.frozen 4
     rw[es]at f4
     clear s1 s2 ho1 ho2
     go_wp2_with fail
     refine(qnew_any prs.length wr (by omega)).mono ?_
     rintro e w9 ⟨q,FQ,rfl,hQ,hFQ,hb9⟩
     replace s4:=cell_below hb9 s4
     have f4':=(HS8.out.up hb9).frozen 4
     rw[es]at f4'
     obtain⟨c',F',e1,e2,e3,e4,e5,e6,e7,e8,e9,e10,e11,hSS,hBe⟩:=HS8.out.done hb9 hQ hFQ
     rw[es]at hSS hBe
     have HSS:=hide hSS
     have HBe:=hide hBe
     have He:=hide (And.intro e1 (And.intro e2 (And.intro e3 (And.intro e4 (And.intro e5 (And.intro e6 (And.intro e7 (And.intro e8 (And.intro e9 e11)))))))))
     clear hSS hBe e1 e2 e3 e4 e5 e6 e7 e8 e9 e10 e11 hQ hFQ hb9 s3 f4
     go_wp2_with fail
     go_ret
     obtain⟨e1,e2,e3,e4,e5,e6,e7,e8,e9,e11⟩:=He.out
     rw[Hc.out]at e1 e2 e3 e4 e5 e6 e7 e8 HBe
     refine⟨c',F',by rw[e9,es];rfl,⟨e1,e2,e3,e4,e5,e6,e7,e8,by rw[e11,Hp.out]⟩,by rw[Hp.out];exact HSS.out,HBe.out⟩
end Go.Proofs.YtjebhhoibofmfaaGreat
namespace Go.Proofs.YtjebhhoibofmfaaGreat
open Go.RowKit
theorem own_of_row{w:World}{g base:Nat}{c:List Int}(h:Row w g c)(hb:base<=g)(hl:c.length<=100):w.ownsRow base 3 1 (.slice (some ⟨g,0,none⟩) c.length c.length) c.length (intCells c):=by
 refine⟨by simp[intCells],.inr ⟨g,c.length,_,rfl,hb,h,Nat.le_refl _,by unfold maxLen;omega,by simp,?_⟩⟩
 simp only[Nat.mul_one]
 rw[List.take_of_length_le (by simp)]
 rfl
theorem startP_len{E:Env}:∀ {is kn kn':List Nat} {st st':Nat×Nat} {P P':Pf},startP E is kn st P=some (kn',st',P')->kn'.length=kn.length+is.length
 | [],kn,kn',st,st',P,P',h=>by unfold startP at h;injection h with h;injection h with h _;subst h;simp
 | i :: is,kn,kn',st,st',P,P',h=>by
   unfold startP at h
   cases ha:addP E P (givenS i)with
   | none=>rw[ha]at h;cases h
   | some r=>
     rw[ha,Option.bind_some]at h
     have:=startP_len h
     rw[this]
     simp
     omega
theorem SS.upTo{c:Sc}{w:World}{F:List Nat}{S:Sr}(h:SS c w F S){k:Nat}{sts:List St}(hup:upToP S.P.sts k=some sts) :
 Calls Tryz.prog 80 #[.pointer (some ⟨c.m,0,none⟩),.int .i64 k] w fun e w'=>∃ a cap,e=.returned (.slice a sts.length cap)/\w'.ownsRow w.heap.size 36 5 (.slice a sts.length cap) sts.length (stCells sts)/\Below w.heap.size w w':=by
 obtain⟨_,FP,FQ,ra,rc,tag,hF,ht,hs,hP,hQ,hk,hr,hp,hpl⟩:=h
 exact upto_any c.m FP _ _ S.P k sts w hP hup
set_option maxRecDepth 100000 in
set_option maxHeartbeats 8000000 in
theorem searchSolve_any(hX:CutHolds){E:Env}{ts:List Tm}{cs:List Cl}(hE:EnvAll E ts cs)(hts:termsB ts=true)(hcl:clausesB ts.length cs=true)(ta sa:Option Addr)(tc sc:Nat)(w:World)(ht:TermsAt w ta ts)(hcs:ClausesAt w sa cs)
 {kn':List Nat} {st':Nat×Nat} {P':Pf} {f:Nat} {o:Option Nat} {S':Sr} {sts:List St} (hst:startP E (List.range cs.length) [] (0,0) pf0=some (kn',st',P')) (h45:(pairsOf st').length<=45)
 (hlow:∀ i,i < (pairsOf st').length->LowL ts.length (litI (pairsOf st') i false)) (hrun:runP E (pairsOf st') f none (sr0 kn' (pairsOf st') P')=some (o,S')) (hup:∀ k,o=some k->upToP S'.P.sts k=some sts) (hno:o=none->sts=[]) :
 Calls Tryz.prog 48 #[.agg #[.slice ta ts.length tc,.slice sa cs.length sc]] w fun e w'=>∃ ca cc la lc,e=.returned (.agg #[.bool o.isNone,.slice ca (if o.isNone then E.cl (eqsOf S'.row)else []).length cc,.slice la sts.length lc]) /\
  w'.ownsRow w.heap.size 3 1 (.slice ca (if o.isNone then E.cl (eqsOf S'.row)else []).length cc) (if o.isNone then E.cl (eqsOf S'.row)else []).length (intCells (if o.isNone then E.cl (eqsOf S'.row)else [])) /\
  w'.ownsRow w.heap.size 36 5 (.slice la sts.length lc) sts.length (stCells sts)/\Below w.heap.size w w':=by
 have h9:=(len_of hts).2
 have hin:=argsIn_of hts (Nat.le_refl _)
 obtain⟨W,hW⟩:∃ W,W=(w.alloc (.cells #[.slice ta ts.length tc,.slice sa cs.length sc] 25)).alloc (.cells #[.bool false,.slice none 0 0,.slice none 0 0] 31):=⟨_,rfl⟩
 have hbW:Below w.heap.size w W:=by rw[hW];exact((Below.refl _ _).alloc (Nat.le_refl _) _).alloc (by simp) _
 have p0:W.cell? ⟨w.heap.size,0,none⟩=some (.slice ta ts.length tc):=by rw[hW];simp
 have p1:W.cell? ⟨w.heap.size,1,none⟩=some (.slice sa cs.length sc):=by rw[hW];simp
 have hrow:W.heap[w.heap.size+1]?=some (.cells #[.bool false,.slice none 0 0,.slice none 0 0] 31 (0,0)):=by rw[hW];exact heap_at_new _ _ _ (by simp)
 have Hrow:=hide hrow
 have hsz:w.heap.size+1 < W.heap.size:=(Array.getElem?_eq_some_iff.1 hrow).1
 have Hstart:=hide (start_any hX hE hts hcl ta sa tc sc W (ht.below hbW) (hcs.below hbW) kn' st' P' hst h45)
 have hkn:kn'.length<=3518437208883:=by
  have h1:=startP_len hst
  have h2:cs.length<=16:=(clausesIn_of hcl).1
  simp at h1
  omega
 have Hb:=hide hbW
 have Ht:=hide (And.intro ht hcs)
 clear ht hcs hrow hbW hst
 go_enter Tryz.func48,Tryz.ntmps48
 go_upto_region 1 with fail
 rw[<-hW]
 clear hW
 go_wp2_with fail
 refine Hstart.out.mono ?_
 rintro e w1 ⟨c,F,rfl,⟨e1,e2,e3,e4,e5,e6,e7,e8,e9⟩,hSS,hb1⟩
 clear Hstart
 have hOk:c.Ok:=⟨hX,by rw[e1,e2,e3];exact hE,by rw[e2];exact hts,by rw[e2,e3];exact hcl,by rw[e2,e4,e5];exact Ht.out.1.below Hb.out,by rw[e3,e4,e6];exact Ht.out.2.below Hb.out,by rw[e2,e9];exact hlow,by rw[e9];exact h45⟩
 have hrun':runP c.E c.prs f none (sr0 kn' (pairsOf st') P')=some (o,S'):=by rw[e1,e9];exact hrun
 have hFW:∀ b∈F,W.heap.size<=b:=by have:=hSS.1.2.1;rw[e4]at this;exact this
 have Hrun:=hide (run_any hOk hSS hrun' hkn)
 have HFW:=hide hFW
 have Hb1:=hide hb1
 have HOk:=hide hOk
 have He:=hide (And.intro e1 (And.intro e2 (And.intro e4 (And.intro e5 e7))))
 clear hSS hOk hrun' hFW e1 e2 e3 e4 e5 e6 e7 e8 e9 hrun hlow
 go_wp2_with fail
 refine Hrun.out.mono ?_
 rintro e w2 ⟨rfl,ka,kc,F2,hS2,hf2,hk2⟩
 clear Hrun
 have Hb2:Hid (Below W.heap.size W w2):=hk2.below Hb1.out Hb1.out.size HFW.out
 have HS2:=hide hS2
 have Hbw:Hid (Below w.heap.size w w2):=Hb.out.trans (Hb2.out.mono Hb.out.size)
 replace p0:=cell_below Hb2.out p0
 have hrow2:=(keeps_below Hb2.out).row (by simp) Hrow.out
 have z0:w2.cell? ⟨w.heap.size+1,0,none⟩=some (.bool false):=by rw[cell_of_row _ _ _ _ _ _ hrow2];rfl
 have z1:w2.cell? ⟨w.heap.size+1,1,none⟩=some (.slice none 0 0):=by rw[cell_of_row _ _ _ _ _ _ hrow2];rfl
 have z2:w2.cell? ⟨w.heap.size+1,2,none⟩=some (.slice none 0 0):=by rw[cell_of_row _ _ _ _ _ _ hrow2];rfl
 have hsz2:w.heap.size+1 < w2.heap.size:=block_lt z0
 have Hrow2:=hide hrow2
 clear hS2 hf2 hk2 hrow2 p1
 unfold rv
 cases o with
 | none=>
   simp only[Option.getD_none,Option.isNone_none]
   have hs:=hno rfl
   subst hs
   have Hcall1:Hid (∀ W',Below w2.heap.size w2 W'->Calls Tryz.prog 79 #[.pointer (some ⟨c.s,0,none⟩)] W' fun e w'=>∃ a cap,e=.returned (.slice a (eqsOf S'.row).length cap)/\PairsAt w' a (eqsOf S'.row)/\Below W'.heap.size W' w'):=by
    intro W' hb'
    have h1:Calls Tryz.prog 79 #[.pointer (some ⟨c.s,0,none⟩)] W' fun e w'=>∃ a cap,e=.returned (.slice a (eqsOf S'.row).length cap)/\w'.ownsRow W'.heap.size 58 2 (.slice a (eqsOf S'.row).length cap) (eqsOf S'.row).length (psCells (eqsOf S'.row))/\Below W'.heap.size W' w':=by
     have h0:=equalPairs_any (HS2.out.up hb')
     exact h0
    refine h1.mono ?_
    rintro e w' ⟨a,cap,rfl,ho,hb⟩
    exact⟨a,cap,rfl,pairsAt_of_own ho,hb⟩
   have Hcall2:Hid (∀(w3:World) (a:Option Addr) (cap:Nat),Below w2.heap.size w2 w3->PairsAt w3 a (eqsOf S'.row)->Calls Tryz.prog 43 #[.slice ta ts.length tc,.slice a (eqsOf S'.row).length cap] w3 fun e w'=>∃ g,e=.returned (.slice (some ⟨g,0,none⟩) ts.length ts.length)/\Row w' g (E.cl (eqsOf S'.row))/\w3.heap.size<=g/\Below w3.heap.size w3 w'):=by
    intro w3 a cap hb3 hp3
    have h1:=Hbw.out.trans (hb3.mono Hbw.out.size)
    have hpi:=eqs_in HS2.out.1.2.2
    have hpi':PairsIn (eqsOf S'.row) ts.length:=by
     have:(c.kn ka kc).ts=ts:=He.out.2.1
     rw[this]at hpi
     exact hpi
    refine(eqClose_exact ta a tc cap ts (eqsOf S'.row) w3 (Ht.out.1.below h1) hp3 h9 hin hpi').mono ?_
    rintro e w' ⟨g,cl,rfl,hr,hg,⟨_,hcl⟩,hb⟩
    rw[hE.cl,<-hcl]
    exact⟨g,rfl,hr,hg,hb⟩
   have Hcl:=hide (cl_length hE (eqsOf S'.row))
   obtain⟨cl,hcle⟩:∃ cl,E.cl (eqsOf S'.row)=cl:=⟨_,rfl⟩
   rw[hcle]at Hcl Hcall2
   have Hcle:=hide hcle
   clear hcle
   obtain⟨ps,hps⟩:∃ ps,eqsOf S'.row=ps:=⟨_,rfl⟩
   rw[hps]at Hcall1 Hcall2
   clear hps
   go_upto_region 4 with fail
   go_region_held3 (fun w'=>w'.cell? ⟨w.heap.size,0,none⟩=some (.slice ta ts.length tc))
    (first | exact hS | go_keep)
    (first
      | (go_at_call 79
         refine(Hcall1.out _ (by exact(Below.refl _ _).drew)).mono ?_
         rintro e w3 ⟨pa,pcap,rfl,hp3,hb3⟩
         have hS:=cell_below (below_drew1 hb3) p0)
      | (go_at_call 43
         refine(Hcall2.out w3 pa pcap (below_drew1 hb3) hp3).mono ?_
         rintro e w4 ⟨g,rfl,hrow,hg,hb4⟩
         have hS1:=hS
         have hS:=cell_below hb4 hS1
         have hb34:=(below_drew1 hb3).trans (hb4.mono (below_drew1 hb3).size)
         have hrow4:=(keeps_below hb34).row (by simp) Hrow2.out
         have f0:w4.frozen? ⟨w.heap.size+1,0,none⟩=false:=frozen_of_row _ _ _ _ _ hrow4
         have f1:w4.frozen? ⟨w.heap.size+1,1,none⟩=false:=frozen_of_row _ _ _ _ _ hrow4
         have f2:w4.frozen? ⟨w.heap.size+1,2,none⟩=false:=frozen_of_row _ _ _ _ _ hrow4
         have y0:=cell_below hb34 z0
         have y1:=cell_below hb34 z1
         have y2:=cell_below hb34 z2))
   have hK:Keeps [w.heap.size+1] w4 (((w4.setCell ⟨w.heap.size+1,0,none⟩ (.bool true)).setCell ⟨w.heap.size+1,1,none⟩ (.slice (some ⟨g,0,none⟩) ts.length ts.length)).setCell ⟨w.heap.size+1,2,none⟩ (.slice none 0 0)):=(((Keeps.refl _ _).set (by simp) _).set (by simp) _).set (by simp) _
   have hgs:w2.heap.size<=g:=Nat.le_trans (below_drew1 hb3).size hg
   have HK:=hide hK
   have Hrw:=hide hrow
   have Hb4:Hid (Below w.heap.size w w4):=Hbw.out.trans (hb34.mono Hbw.out.size)
   have Hy:=hide (And.intro y0 (And.intro y1 y2))
   clear hK hrow hb34 hb4 hb3 hS1 hp3 hrow4
   go_wp2_with fail
   refine bodyPost_ret (v:=.agg #[.bool true,.slice (some ⟨g,0,none⟩) ts.length ts.length,.slice none 0 0]) (by simp[results,Tryz.results48,go_sem,set_same,set_other,y0,y1,y2]) rfl ?_
   have hg1:g≠w.heap.size+1:=by omega
   rw[Hcle.out]
   refine⟨some ⟨g,0,none⟩,ts.length,none,0,by rw[Hcl.out],?_,⟨rfl,.inl ⟨rfl,rfl⟩⟩,HK.out.below Hb4.out Hb4.out.size (by simp)⟩
   have h1:=own_of_row (base:=w.heap.size) Hrw.out (by omega) (by rw[Hcl.out];omega)
   rw[Hcl.out]at h1 ⊢
   exact own_keep h1 HK.out (fun b hb=>by simp[blkOf]at hb;subst hb;simpa using hg1)
 | some k=>
   simp only[Option.getD_some,Option.isNone_some]
   have Hup:Hid (Calls Tryz.prog 80 #[.pointer (some ⟨c.m,0,none⟩),.int .i64 k] w2 fun e w'=>∃ a cap,e=.returned (.slice a sts.length cap)/\w'.ownsRow w2.heap.size 36 5 (.slice a sts.length cap) sts.length (stCells sts)/\Below w2.heap.size w2 w'):=HS2.out.upTo (hup k rfl)
   obtain⟨ka5,kc5,ra5,rc5,s0,s1,s2,s3,s4,s5,s6,s7,hk5,hr5⟩:=HS2.out.cells
   have s1':w2.cell? ⟨c.s,1,none⟩=some (.pointer (some ⟨c.m,0,none⟩)):=s1
   clear s0 s1 s2 s3 s4 s5 s6 s7 hk5 hr5 hup hno
   go_wp2_with fail
   refine Hup.out.mono ?_
   rintro e w3 ⟨la,lc,rfl,hown,hb3⟩
   have hrow3:=(keeps_below hb3).row (by simp) Hrow2.out
   have f0:w3.frozen? ⟨w.heap.size+1,0,none⟩=false:=frozen_of_row _ _ _ _ _ hrow3
   have f1:w3.frozen? ⟨w.heap.size+1,1,none⟩=false:=frozen_of_row _ _ _ _ _ hrow3
   have f2:w3.frozen? ⟨w.heap.size+1,2,none⟩=false:=frozen_of_row _ _ _ _ _ hrow3
   replace z0:=cell_below hb3 z0
   replace z1:=cell_below hb3 z1
   replace z2:=cell_below hb3 z2
   have hK:Keeps [w.heap.size+1] w3 (((w3.setCell ⟨w.heap.size+1,0,none⟩ (.bool false)).setCell ⟨w.heap.size+1,1,none⟩ (.slice none 0 0)).setCell ⟨w.heap.size+1,2,none⟩ (.slice la sts.length lc)):=(((Keeps.refl _ _).set (by simp) _).set (by simp) _).set (by simp) _
   have HK:=hide hK
   have Hown:=hide hown
   have Hb4:Hid (Below w.heap.size w w3):=Hbw.out.trans (hb3.mono Hbw.out.size)
   clear hK hown hb3 hrow3 s1'
   go_wp2_with fail
   refine bodyPost_ret (v:=.agg #[.bool false,.slice none 0 0,.slice la sts.length lc]) (by simp[results,Tryz.results48,go_sem,set_same,set_other,z0,z1,z2]) rfl ?_
   refine⟨none,0,la,lc,rfl,⟨rfl,.inl ⟨rfl,rfl⟩⟩,?_,HK.out.below Hb4.out Hb4.out.size (by simp)⟩
   have h1:=own_keep Hown.out HK.out (fun b hb=>by have:=(own_lt Hown.out b hb).1;simp;omega)
   obtain⟨h2,h3⟩:=h1
   refine⟨h2,?_⟩
   rcases h3 with h3 | ⟨g,cap,cur,hv,hb,hr⟩
   ·exact .inl h3
   ·exact .inr ⟨g,cap,cur,hv,by omega,hr⟩
end Go.Proofs.YtjebhhoibofmfaaGreat
namespace Go.Proofs.YtjebhhoibofmfaaGreat
open Go.RowKit
def envOf(ts:List Tm)(cs:List Cl):Env:=⟨ts.length,cs.length,nextB ts cs,nextS ts cs,linksF ts,fun ps=>clsAll (mksOf ts.length (linksF ts ps)),6000⟩
theorem envOf_all(ts:List Tm)(cs:List Cl):EnvAll (envOf ts cs) ts cs:=⟨⟨rfl,rfl,rfl,rfl⟩,fun _=>rfl,fun _=>rfl⟩
def Sol(ts:List Tm)(cs:List Cl)(b:Bool)(cls:List Int)(sts:List St):Prop:=
 ∃ f kn' st' P' o S',startP (envOf ts cs) (List.range cs.length) [] (0,0) pf0=some (kn',st',P')/\(pairsOf st').length<=45/\(∀ i,i < (pairsOf st').length->LowL ts.length (litI (pairsOf st') i false)) /\
  runP (envOf ts cs) (pairsOf st') f none (sr0 kn' (pairsOf st') P')=some (o,S')/\(∀ k,o=some k->upToP S'.P.sts k=some sts)/\(o=none->sts=[])/\b=o.isNone/\cls=if o.isNone then(envOf ts cs).cl (eqsOf S'.row)else []
set_option maxRecDepth 100000 in
set_option maxHeartbeats 4000000 in
theorem solve_any(hX:CutHolds)(ta sa:Option Addr)(tc sc:Nat)(ts:List Tm)(cs:List Cl)(w:World)(ht:TermsAt w ta ts)(hcs:ClausesAt w sa cs)(hr:refuseI ts cs=0){b:Bool}{cls:List Int}{sts:List St}(hS:Sol ts cs b cls sts) :
 Calls Tryz.prog 18 #[.agg #[.slice ta ts.length tc,.slice sa cs.length sc]] w fun e w'=>∃ ca cc la lc,e=.returned (.tuple #[.agg #[.bool b,.slice ca cls.length cc,.slice la sts.length lc],.int .i64 0]) /\
  w'.ownsRow w.heap.size 3 1 (.slice ca cls.length cc) cls.length (intCells cls)/\w'.ownsRow w.heap.size 36 5 (.slice la sts.length lc) sts.length (stCells sts)/\Below w.heap.size w w':=by
 have hb0:termsB ts=true/\clausesB ts.length cs=true:=by
  unfold refuseI at hr
  split at hr
  ·rename_i h1
   split at hr
   ·rename_i h2;exact⟨h1,h2⟩
   ·cases hr
  ·cases hr
 obtain⟨f,kn',st',P',o,S',h1,h2,h3,h4,h5,h6,rfl,hcl⟩:=hS
 obtain⟨W,hW⟩:∃ W,W=(w.alloc (.cells #[.slice ta ts.length tc,.slice sa cs.length sc] 25)).alloc (.cells #[.bool false,.slice none 0 0,.slice none 0 0] 31):=⟨_,rfl⟩
 have hbW:Below w.heap.size w W:=by rw[hW];exact((Below.refl _ _).alloc (Nat.le_refl _) _).alloc (by simp) _
 have p0:W.cell? ⟨w.heap.size,0,none⟩=some (.slice ta ts.length tc):=by rw[hW];simp
 have p1:W.cell? ⟨w.heap.size,1,none⟩=some (.slice sa cs.length sc):=by rw[hW];simp
 have hrow:W.heap[w.heap.size+1]?=some (.cells #[.bool false,.slice none 0 0,.slice none 0 0] 31 (0,0)):=by rw[hW];exact heap_at_new _ _ _ (by simp)
 have Hrow:=hide hrow
 have hsz:w.heap.size+1 < W.heap.size:=(Array.getElem?_eq_some_iff.1 hrow).1
 have Href:=hide (refuse_any ta sa tc sc ts cs W (ht.below hbW) (hcs.below hbW))
 rw[hr]at Href
 have Hsol:Hid (∀ w1,Below W.heap.size W w1->Calls Tryz.prog 48 #[.agg #[.slice ta ts.length tc,.slice sa cs.length sc]] w1 fun e w'=>∃ ca cc la lc,e=.returned (.agg #[.bool o.isNone,.slice ca cls.length cc,.slice la sts.length lc]) /\
  w'.ownsRow w1.heap.size 3 1 (.slice ca cls.length cc) cls.length (intCells cls)/\w'.ownsRow w1.heap.size 36 5 (.slice la sts.length lc) sts.length (stCells sts)/\Below w1.heap.size w1 w'):=by
  intro w1 hb1
  have hb2:=hbW.trans (hb1.mono hbW.size)
  rw[hcl]
  exact searchSolve_any hX (envOf_all ts cs) hb0.1 hb0.2 ta sa tc sc w1 (ht.below hb2) (hcs.below hb2) h1 h2 h3 h4 h5 h6
 have Hb:=hide hbW
 clear ht hcs hrow hbW h1 h2 h3 h4 h5 h6 hcl hb0 hr
 generalize o.isNone=bb at *
 go_enter Tryz.func18,Tryz.ntmps18
 go_upto_region 1 with fail
 rw[<-hW]
 clear hW
 go_wp2_with fail
 refine Href.out.mono ?_
 rintro e w1 ⟨rfl,hb1⟩
 clear Href
 replace p0:=cell_below hb1 p0
 replace p1:=cell_below hb1 p1
 have Hs1:=hide (Hsol.out w1 hb1)
 have hrow1:=(keeps_below hb1).row (by simp) Hrow.out
 have Hrow1:=hide hrow1
 have Hb1:Hid (Below w.heap.size w w1):=Hb.out.trans (hb1.mono Hb.out.size)
 have hsz1:w.heap.size+1 < w1.heap.size:=(Array.getElem?_eq_some_iff.1 hrow1).1
 clear Hsol hb1 hrow1
 go_wp2_with fail
 refine Hs1.out.mono ?_
 rintro e w2 ⟨ca,cc,la,lc,rfl,ho1,ho2,hb2⟩
 have hrow2:=(keeps_below hb2).row (by simp) Hrow1.out
 have z0:w2.cell? ⟨w.heap.size+1,0,none⟩=some (.bool false):=by rw[cell_of_row _ _ _ _ _ _ hrow2];rfl
 have z1:w2.cell? ⟨w.heap.size+1,1,none⟩=some (.slice none 0 0):=by rw[cell_of_row _ _ _ _ _ _ hrow2];rfl
 have z2:w2.cell? ⟨w.heap.size+1,2,none⟩=some (.slice none 0 0):=by rw[cell_of_row _ _ _ _ _ _ hrow2];rfl
 have f0:w2.frozen? ⟨w.heap.size+1,0,none⟩=false:=frozen_of_row _ _ _ _ _ hrow2
 have f1:w2.frozen? ⟨w.heap.size+1,1,none⟩=false:=frozen_of_row _ _ _ _ _ hrow2
 have f2:w2.frozen? ⟨w.heap.size+1,2,none⟩=false:=frozen_of_row _ _ _ _ _ hrow2
 have hK:Keeps [w.heap.size+1] w2 (((w2.setCell ⟨w.heap.size+1,0,none⟩ (.bool bb)).setCell ⟨w.heap.size+1,1,none⟩ (.slice ca cls.length cc)).setCell ⟨w.heap.size+1,2,none⟩ (.slice la sts.length lc)):=(((Keeps.refl _ _).set (by simp) _).set (by simp) _).set (by simp) _
 have HK:=hide hK
 have HO:=hide (And.intro ho1 ho2)
 have Hb2:Hid (Below w.heap.size w w2):=Hb1.out.trans (hb2.mono Hb1.out.size)
 clear hK ho1 ho2 hb2 hrow2 Hs1 p0 p1
 go_wp2_with fail
 refine bodyPost_ret (v:=.tuple #[.agg #[.bool bb,.slice ca cls.length cc,.slice la sts.length lc],.int .i64 0]) (by simp[results,Tryz.results18,go_sem,set_same,set_other,z0,z1,z2]) rfl ?_
 have lower:∀ {e:TypeId} {size n c:Nat} {a:Option Addr} {xs:List Value},w2.ownsRow w1.heap.size e size (.slice a n c) n xs->(((w2.setCell ⟨w.heap.size+1,0,none⟩ (.bool bb)).setCell ⟨w.heap.size+1,1,none⟩ (.slice ca cls.length cc)).setCell ⟨w.heap.size+1,2,none⟩ (.slice la sts.length lc)).ownsRow w.heap.size e size (.slice a n c) n xs:=by
  intro e size n c a xs ho
  obtain⟨h2,h3⟩:=own_keep ho HK.out (fun b hb=>by have:=(own_lt ho b hb).1;simp;omega)
  refine⟨h2,?_⟩
  rcases h3 with h3 | ⟨g,cap,cur,hv,hb,hr⟩
  ·exact .inl h3
  ·exact .inr ⟨g,cap,cur,hv,by omega,hr⟩
 exact⟨ca,cc,la,lc,rfl,lower HO.out.1,lower HO.out.2,HK.out.below Hb2.out Hb2.out.size (by simp)⟩
set_option maxRecDepth 100000 in
set_option maxHeartbeats 4000000 in
theorem solve_bad(ta sa:Option Addr)(tc sc:Nat)(ts:List Tm)(cs:List Cl)(w:World)(ht:TermsAt w ta ts)(hcs:ClausesAt w sa cs)(hr:refuseI ts cs≠0) :
 Calls Tryz.prog 18 #[.agg #[.slice ta ts.length tc,.slice sa cs.length sc]] w fun e w'=>e=.returned (.tuple #[.agg #[.bool false,.slice none 0 0,.slice none 0 0],.int .i64 (refuseI ts cs)])/\Below w.heap.size w w':=by
 obtain⟨W,hW⟩:∃ W,W=(w.alloc (.cells #[.slice ta ts.length tc,.slice sa cs.length sc] 25)).alloc (.cells #[.bool false,.slice none 0 0,.slice none 0 0] 31):=⟨_,rfl⟩
 have hbW:Below w.heap.size w W:=by rw[hW];exact((Below.refl _ _).alloc (Nat.le_refl _) _).alloc (by simp) _
 have p0:W.cell? ⟨w.heap.size,0,none⟩=some (.slice ta ts.length tc):=by rw[hW];simp
 have p1:W.cell? ⟨w.heap.size,1,none⟩=some (.slice sa cs.length sc):=by rw[hW];simp
 have hrow:W.heap[w.heap.size+1]?=some (.cells #[.bool false,.slice none 0 0,.slice none 0 0] 31 (0,0)):=by rw[hW];exact heap_at_new _ _ _ (by simp)
 have Hrow:=hide hrow
 have hsz:w.heap.size+1 < W.heap.size:=(Array.getElem?_eq_some_iff.1 hrow).1
 have Href:=hide (refuse_any ta sa tc sc ts cs W (ht.below hbW) (hcs.below hbW))
 have Hb:=hide hbW
 generalize refuseI ts cs=r at *
 have hnb:(r != 0)=true:=by simp[hr]
 clear ht hcs hrow hbW
 go_enter Tryz.func18,Tryz.ntmps18
 go_upto_region 1 with fail
 rw[<-hW]
 clear hW
 go_wp2_with fail
 refine Href.out.mono ?_
 rintro e w2 ⟨rfl,hb1⟩
 clear Href
 have hrow2:=(keeps_below hb1).row (by simp) Hrow.out
 have z0:w2.cell? ⟨w.heap.size+1,0,none⟩=some (.bool false):=by rw[cell_of_row _ _ _ _ _ _ hrow2];rfl
 have z1:w2.cell? ⟨w.heap.size+1,1,none⟩=some (.slice none 0 0):=by rw[cell_of_row _ _ _ _ _ _ hrow2];rfl
 have z2:w2.cell? ⟨w.heap.size+1,2,none⟩=some (.slice none 0 0):=by rw[cell_of_row _ _ _ _ _ _ hrow2];rfl
 have f0:w2.frozen? ⟨w.heap.size+1,0,none⟩=false:=frozen_of_row _ _ _ _ _ hrow2
 have f1:w2.frozen? ⟨w.heap.size+1,1,none⟩=false:=frozen_of_row _ _ _ _ _ hrow2
 have f2:w2.frozen? ⟨w.heap.size+1,2,none⟩=false:=frozen_of_row _ _ _ _ _ hrow2
 have Hb2:Hid (Below w.heap.size w w2):=Hb.out.trans (hb1.mono Hb.out.size)
 have hK:Keeps [w.heap.size+1] w2 (((w2.setCell ⟨w.heap.size+1,0,none⟩ (.bool false)).setCell ⟨w.heap.size+1,1,none⟩ (.slice none 0 0)).setCell ⟨w.heap.size+1,2,none⟩ (.slice none 0 0)):=(((Keeps.refl _ _).set (by simp) _).set (by simp) _).set (by simp) _
 have HK:=hide hK
 clear hK hrow2 hb1 p0 p1
 go_wp2_with fail
 refine bodyPost_ret (v:=.tuple #[.agg #[.bool false,.slice none 0 0,.slice none 0 0],.int .i64 r]) (by simp[results,Tryz.results18,go_sem,set_same,set_other,z0,z1,z2]) rfl ?_
 exact⟨rfl,HK.out.below Hb2.out Hb2.out.size (by simp)⟩
end Go.Proofs.YtjebhhoibofmfaaGreat
