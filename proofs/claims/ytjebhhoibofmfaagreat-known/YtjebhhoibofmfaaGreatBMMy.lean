import Derived.Test.YtjebhhoibofmfaaGreatBMMx
import Derived.Test.YtjebhhoibofmfaaGreatBMCk
import Derived.Test.YtjebhhoibofmfaaGreatBMLy
import Derived.Test.YtjebhhoibofmfaaGreatBMPf
namespace Go.Proofs.YtjebhhoibofmfaaGreat
theorem left_has(c tk:Nat×Nat)(t:Lt):hasS (leftOf c tk).1 (leftOf c tk).2 t=(hasS c.1 c.2 t && !hasS tk.1 tk.2 (conL t)):=by
 unfold hasS leftOf conL
 cases t.n <;> simp[butN_bit]
theorem left_low{c tk:Nat×Nat}(h:Low45 c):Low45 (leftOf c tk):=by
 intro k hk
 obtain⟨h1,h2⟩:=h k hk
 unfold leftOf
 simp only[butN_bit,h1,h2]
 simp
theorem and_has(E A F B:Nat)(t:Lt):hasS (E &&& F) (A &&& B) t=(hasS E A t && hasS F B t):=by
 unfold hasS
 cases t.n <;> simp
theorem meets_iff{c tk:Nat×Nat}(h:Low45 c):meetsB c.1 c.2 tk.1 tk.2=true↔∃ t∈allL 9,hasS c.1 c.2 t=true/\hasS tk.1 tk.2 t=true:=by
 have hl:Low45 (c.1 &&& tk.1,c.2 &&& tk.2):=by
  intro k hk
  obtain⟨h1,h2⟩:=h k hk
  simp[h1,h2]
 have he:=inOrd_empty hl
 have h2:meetsB c.1 c.2 tk.1 tk.2=!emptyB (c.1 &&& tk.1) (c.2 &&& tk.2):=by unfold meetsB emptyB;simp
 rw[h2,he,Bool.not_eq_true',decide_eq_false_iff_not]
 constructor
 ·intro hn
  obtain⟨t,l,e⟩:=List.exists_cons_of_length_pos (Nat.pos_of_ne_zero hn)
  have hm:t∈inOrd (c.1 &&& tk.1) (c.2 &&& tk.2):=by rw[e];exact List.mem_cons_self
  obtain⟨m1,m2⟩:=inOrd_iff.1 hm
  rw[and_has,Bool.and_eq_true]at m2
  exact⟨t,m1,m2⟩
 ·rintro⟨t,m1,m2⟩ h0
  have hm:t∈inOrd (c.1 &&& tk.1) (c.2 &&& tk.2):=inOrd_iff.2 ⟨m1,by rw[and_has,Bool.and_eq_true];exact m2⟩
  rw[List.eq_nil_of_length_eq_zero h0]at hm
  cases hm
theorem empty_iff{c:Nat×Nat}(h:Low45 c):emptyB c.1 c.2=true↔∀ t∈allL 9,hasS c.1 c.2 t=false:=by
 rw[inOrd_empty h,decide_eq_true_eq,List.length_eq_zero_iff]
 unfold inOrd
 rw[List.filter_eq_nil_iff]
 simp
section
variable {E:Env} {ts:List Tm} {cs:List Cl} {prs:List Pr}
theorem Cx.low45(c:Cx E ts cs prs){P:Pf}(h:PfOk E P):∀ k,k < P.ss.length->Low45 (clOf P k):=by
 intro k
 induction k using Nat.strongRecOn with
 | ind k ih=>
   intro hk
   obtain⟨h1,h2⟩:=h.ok k hk
   unfold clOf
   rw[h2,c.hE.go]
   rw[c.hE.ok]at h1
   refine next_low45 c.hts c.hcl (fun p hp=>?_) h1
   obtain⟨j,hj,e⟩:=List.getElem_of_mem hp
   rw[List.getElem_take]at e
   have hj':j < k:=by rw[List.length_take]at hj;omega
   have:=ih j hj' (by omega)
   unfold clOf at this
   rwa [List.getD_eq_getElem?_getD,List.getElem?_eq_getElem (by omega),Option.getD_some,e]at this
theorem tkLit_none{t:Lt}{k:Nat}:∀(is:List Nat) (S:Sr),(∀ i∈is,¬ ((prs.getD i pr0).x=t.x/\(prs.getD i pr0).y=t.y))->tkLitP prs t k is S=some S
 | [],_,_=>rfl
 | i :: is,S,h=>by
   rw[tkLitP,if_neg (h i List.mem_cons_self)]
   exact tkLit_none is S (fun j hj=>h j (List.mem_cons_of_mem _ hj))
theorem tkLit_one{t:Lt}{k i0:Nat}:∀(is:List Nat) (S:Sr),is.Nodup->i0∈is->(∀ i∈is,((prs.getD i pr0).x=t.x/\(prs.getD i pr0).y=t.y)↔i=i0)->tkLitP prs t k is S=takeP prs S i0 t.n k
 | [],_,_,h,_=>by cases h
 | i :: is,S,hn,hm,h=>by
   obtain⟨h1,h2⟩:=List.nodup_cons.1 hn
   rw[tkLitP]
   by_cases he:i=i0
   ·rw[if_pos ((h i List.mem_cons_self).2 he),he]
    have:∀ S',tkLitP prs t k is S'=some S':=fun S'=>tkLit_none is S' (fun j hj e=>h1 (by rw[he,<-(h j (List.mem_cons_of_mem _ hj)).1 e];exact hj))
    cases hx:takeP prs S i0 t.n k with
    | none=>rfl
    | some S'=>rw[Option.bind_some,this]
   ·rw[if_neg (fun e=>he ((h i List.mem_cons_self).1 e))]
    exact tkLit_one is S h2 ((List.mem_cons.1 hm).resolve_left (fun e=>he e.symm)) (fun j hj=>h j (List.mem_cons_of_mem _ hj))
theorem tkLast_ok(c:Cx E ts cs prs):∀(ks:List Nat) (S:Sr),Inv E ts cs prs S->(∀ k∈ks,k∈S.kn) ->
 ∃ o S',tkLastP prs ks S=some (o,S')/\Inv E ts cs prs S'/\Fwd S S'/\S'.P=S.P/\(∀ k,o=some k->Fails S'.P S'.row k) /\
  (o=none->S'.row.length=S.row.length->∀ k∈ks,(∃ t∈allL 9,hasS (clOf S.P k).1 (clOf S.P k).2 t=true/\∃ e∈S.row,e.lit=t)\/(∃ t∈allL 9,hasS (clOf S.P k).1 (clOf S.P k).2 t=true/\¬ Den S.row t))
 | [],S,h,_=>⟨none,S,rfl,h,Fwd.refl S,rfl,(fun _ e=>by cases e),fun _ _=>by simp⟩
 | k :: ks,S,h,hk=>by
   obtain⟨hk0,hkl⟩:=h.kn.1 k (hk k List.mem_cons_self)
   have hk1:∀ j∈ks,j∈S.kn:=fun j hj=>hk j (List.mem_cons_of_mem _ hj)
   have hlow:=c.low45 h.pf k hk0
   unfold tkLastP
   rw[if_pos hk0]
   have same:∀(X:(∃ t∈allL 9,hasS (clOf S.P k).1 (clOf S.P k).2 t=true/\∃ e∈S.row,e.lit=t)\/(∃ t∈allL 9,hasS (clOf S.P k).1 (clOf S.P k).2 t=true/\¬ Den S.row t)),∃ o S',tkLastP prs ks S=some (o,S')/\Inv E ts cs prs S'/\Fwd S S'/\S'.P=S.P/\(∀ k,o=some k->Fails S'.P S'.row k) /\
    (o=none->S'.row.length=S.row.length->∀ j∈k :: ks,(∃ t∈allL 9,hasS (clOf S.P j).1 (clOf S.P j).2 t=true/\∃ e∈S.row,e.lit=t)\/(∃ t∈allL 9,hasS (clOf S.P j).1 (clOf S.P j).2 t=true/\¬ Den S.row t)):=by
    intro X
    obtain⟨o,S',q1,q2,q3,q4,q5,q6⟩:=tkLast_ok c ks S h hk1
    refine⟨o,S',q1,q2,q3,q4,q5,fun ho hl j hj=>?_⟩
    rcases List.mem_cons.1 hj with rfl | hj
    ·exact X
    ·exact q6 ho hl j hj
   by_cases hm:meetsB (clOf S.P k).1 (clOf S.P k).2 S.tk.1 S.tk.2=true
   ·rw[if_pos hm]
    obtain⟨t,t1,t2,t3⟩:=(meets_iff hlow).1 hm
    exact same (.inl ⟨t,t1,t2,(h.tk t t1).1 t3⟩)
   ·rw[if_neg hm]
    have hden:∀ t∈allL 9,hasS (clOf S.P k).1 (clOf S.P k).2 t=true->hasS (leftOf (clOf S.P k) S.tk).1 (leftOf (clOf S.P k) S.tk).2 t=false->Den S.row t:=by
     intro t ht h1 h2
     rw[left_has,h1,Bool.true_and,Bool.not_eq_false']at h2
     exact(h.tk _ (con_all ht)).1 h2
    by_cases he:emptyB (leftOf (clOf S.P k) S.tk).1 (leftOf (clOf S.P k) S.tk).2=true
    ·rw[if_pos he]
     refine⟨some k,S,rfl,h,Fwd.refl S,rfl,fun j ej=>?_,fun e=>by cases e⟩
     injection ej with ej
     subst ej
     exact⟨hk0,fun t ht hh=>hden t ht hh ((empty_iff (left_low hlow)).1 he t ht)⟩
    ·rw[if_neg he]
     by_cases h1:onesN (leftOf (clOf S.P k) S.tk).1+onesN (leftOf (clOf S.P k) S.tk).2=1
     ·rw[if_pos h1]
      rw[count_len (left_low hlow)]at h1
      obtain⟨t,hto⟩:∃ t,inOrd (leftOf (clOf S.P k) S.tk).1 (leftOf (clOf S.P k) S.tk).2=[t]:=List.length_eq_one_iff.1 h1
      rw[hto]
      dsimp only
      have htm:∀ u,u∈allL 9/\hasS (leftOf (clOf S.P k) S.tk).1 (leftOf (clOf S.P k) S.tk).2 u=true↔u=t:=by
       intro u
       rw[<-inOrd_iff,hto,List.mem_singleton]
      obtain⟨ta,tl⟩:=(htm t).2 rfl
      rw[left_has,Bool.and_eq_true,Bool.not_eq_true']at tl
      obtain⟨i,hi,hti⟩:=hkl t ta tl.1
      have hni:i ∉ S.row.map En.pair:=fun hmm=>by
       obtain⟨e,her,n,hel⟩:=c.row_has h.rw hmm
       by_cases hn:n=t.n
       ·subst hn
        rw[<-hti]at hel
        exact hm ((meets_iff hlow).2 ⟨t,ta,tl.1,(h.tk t ta).2 ⟨e,her,hel⟩⟩)
       ·have:n=!t.n:=by revert hn;generalize t.n=q;cases n <;> cases q <;> simp
        rw[this,<-con_lit,<-hti]at hel
        have:=(h.tk _ (con_all ta)).2 ⟨e,her,hel⟩
        rw[tl.2]at this
        cases this
      obtain⟨S1,t1,t2,t3,t4,t5⟩:=take_ok c h.pf h.rw h.tk h.re h.kn hi hni ⟨h.q.1,fun j _=>h.q.2 j⟩ (n:=t.n) (r:=k) (.inr (.inr ⟨k,rfl,hk0,by rw[<-hti];exact tl.1,fun u hu hh hne=>by
       refine hden u hu hh ?_
       cases hq:hasS (leftOf (clOf S.P k) S.tk).1 (leftOf (clOf S.P k) S.tk).2 u
       ·rfl
       ·exact absurd (((htm u).1 ⟨hu,hq⟩).trans hti) hne⟩))
      have hone:tkLitP prs t k (List.range prs.length) S=takeP prs S i t.n k:=by
       refine tkLit_one _ S List.nodup_range (List.mem_range.2 hi) (fun j hj=>⟨fun e=>?_,fun e=>?_⟩)
       ·refine(c.inj (List.mem_range.1 hj) hi (n:=t.n) (m:=t.n) ?_).1
        rw[<-hti]
        unfold litI
        rw[e.1,e.2]
       ·subst e
        constructor
        ·have:=congrArg Lt.x hti;exact this.symm
        ·have:=congrArg Lt.y hti;exact this.symm
      rw[hone,t1,Option.bind_some]
      obtain⟨o,S',q1,q2,q3,q4,q5,q6⟩:=tkLast_ok c ks S1 t2 (by rw[t5];exact hk1)
      have hF:Fwd S S1:=⟨t5,[_],t3,by intro e he;simp at he;subst he;simp⟩
      refine⟨o,S',q1,q2,hF.trans q3,q4.trans t4,q5,fun ho hl=>?_⟩
      obtain⟨_,ext,hext,_⟩:=q3
      rw[hext,t3,List.length_append,List.length_append,List.length_singleton]at hl
      omega
     ·rw[if_neg h1]
      refine same (.inr ?_)
      have he':emptyB (leftOf (clOf S.P k) S.tk).1 (leftOf (clOf S.P k) S.tk).2=false:=by simpa using he
      rw[inOrd_empty (left_low hlow),decide_eq_false_iff_not]at he'
      obtain⟨t,l,e⟩:=List.exists_cons_of_length_pos (Nat.pos_of_ne_zero he')
      have hmm:t∈inOrd (leftOf (clOf S.P k) S.tk).1 (leftOf (clOf S.P k) S.tk).2:=by rw[e];exact List.mem_cons_self
      obtain⟨m1,m2⟩:=inOrd_iff.1 hmm
      rw[left_has,Bool.and_eq_true,Bool.not_eq_true']at m2
      refine⟨t,m1,m2.1,fun hd=>?_⟩
      have:=(h.tk _ (con_all m1)).2 hd
      rw[m2.2]at this
      cases this
end
end Go.Proofs.YtjebhhoibofmfaaGreat
namespace Go.Proofs.YtjebhhoibofmfaaGreat
section
variable {E:Env} {ts:List Tm} {cs:List Cl} {prs:List Pr}
structure Fix (ts:List Tm) (prs:List Pr) (S:Sr):Prop where
 eq:∀ i,i < prs.length->eqB (clsF ts (eqsOf S.row)) (prs.getD i pr0).x (prs.getD i pr0).y=true->∃ e∈S.row,e.lit=litI prs i false
 kn:∀ k∈S.kn,(∃ t∈allL 9,hasS (clOf S.P k).1 (clOf S.P k).2 t=true/\∃ e∈S.row,e.lit=t)\/(∃ t∈allL 9,hasS (clOf S.P k).1 (clOf S.P k).2 t=true/\¬ Den S.row t)
theorem clsF_same(c:Cx E ts cs prs){row row':List En}(h:RowW prs row)(h':RowW prs row')(hp:pairsHold (clsF ts (eqsOf row)) (eqsOf row')=true){x y:Nat}(hx:x < ts.length)(hy:y < ts.length)(he:eqB (clsF ts (eqsOf row')) x y=true):eqB (clsF ts (eqsOf row)) x y=true:=by
 obtain⟨l1,_,l3,_,_⟩:=clsF_close c.hts (c.eqs_in h)
 obtain⟨_,_,_,_,hf⟩:=clsF_close c.hts (c.eqs_in h')
 exact eq_coarser (fun a b ha hb e=>hf _ l1 l3 hp a b ha hb e) hx hy he
theorem forced_ok(c:Cx E ts cs prs):∀(f:Nat) (S:Sr),Inv E ts cs prs S->S.P.ss.length+243<=stepsMax->prs.length < f+S.row.length ->
 ∃ o S',forcedP E prs f S=some (o,S')/\Inv E ts cs prs S'/\Fwd S S'/\S'.P.ss.length<=S.P.ss.length+243/\(∀ k,o=some k->Fails S'.P S'.row k)/\(o=none->S'.P=S.P/\Fix ts prs S')
 | 0,S,h,_,hl=>by
   have:=h.rw.len
   omega
 | f+1,S,h,hr,hl=>by
   unfold forcedP
   have hcl:E.cl (eqsOf S.row)=clsF ts (eqsOf S.row):=c.hE.cl _
   rw[hcl]
   have hp0:pairsHold (clsF ts (eqsOf S.row)) (eqsOf S.row)=true:=(clsF_close c.hts (c.eqs_in h.rw)).2.2.2.1
   obtain⟨o,S1,q1,q2,q3,q4,q5,q6⟩:=tkEq_ok c h rfl (List.range prs.length) S h hr (fun i hi=>List.mem_range.1 hi) ⟨[],by simp⟩ hp0
   rw[q1,Option.bind_some]
   cases o with
   | some k=>exact⟨some k,S1,rfl,q2,q3,q4,q5,fun e=>by cases e⟩
   | none=>
     obtain⟨r1,r2,r3⟩:=q6 rfl
     obtain⟨o,S2,u1,u2,u3,u4,u5,u6⟩:=tkLast_ok c S1.kn S1 q2 (fun k hk=>hk)
     dsimp only
     rw[u1,Option.bind_some]
     cases o with
     | some k=>exact⟨some k,S2,rfl,u2,q3.trans u3,by rw[u4];exact q4,u5,fun e=>by cases e⟩
     | none=>
       dsimp only
       obtain⟨hkn,ext,hext,hre⟩:=u3
       by_cases hlen:S2.row.length=S1.row.length
       ·rw[if_pos hlen]
        have hrow:S2.row=S1.row:=by
         rw[hext,List.length_append]at hlen
         have:ext=[]:=List.eq_nil_of_length_eq_zero (by omega)
         rw[hext,this,List.append_nil]
        refine⟨none,S2,rfl,u2,q3.trans ⟨hkn,ext,hext,hre⟩,by rw[u4];exact q4,(fun _ e=>by cases e),fun _=>⟨u4.trans r1,⟨fun i hi he=>?_,fun k hk=>?_⟩⟩⟩
        ·rw[hrow]at he ⊢
         refine r3 i (List.mem_range.2 hi) ?_
         obtain⟨x,y,ep,hxy,hy⟩:=c.pr i hi
         rw[ep]at he ⊢
         exact clsF_same c h.rw q2.rw r2 (by omega) hy he
        ·rw[hkn]at hk
         rw[hrow,u4]
         exact u6 rfl hlen k hk
       ·rw[if_neg hlen]
        obtain⟨_,ext1,hext1,_⟩:=q3
        have hl2:S.row.length+1<=S2.row.length:=by
         rw[hext,List.length_append]at hlen
         rw[hext,List.length_append,hext1,List.length_append]
         rw[hext1,List.length_append]at hlen
         omega
        obtain⟨o,S3,v1,v2,v3,v4,v5,v6⟩:=forced_ok c f S2 u2 (by rw[u4,r1];exact hr) (by omega)
        rw[u4,r1]at v4
        refine⟨o,S3,v1,v2,Fwd.trans (Fwd.trans ⟨by assumption,ext1,hext1,by assumption⟩ ⟨hkn,ext,hext,hre⟩) v3,v4,v5,fun ho=>?_⟩
        obtain⟨w1,w2⟩:=v6 ho
        exact⟨w1.trans (u4.trans r1),w2⟩
def psi(ts:List Tm)(N:Nat)(row:List En):Nat:=((List.range row.length).map fun j=>if(row.getD j ⟨0,lt0,0⟩).reason=-1 then bnd (N - j - 1) (rkC ts (eqsOf (row.take j)) - 1)else 0).sum
theorem psi_nil(ts:List Tm)(N:Nat):psi ts N []=0:=rfl
theorem psi_snoc(ts:List Tm)(N:Nat)(row:List En)(e:En):psi ts N (row++[e])=psi ts N row+if e.reason=-1 then bnd (N - row.length - 1) (rkC ts (eqsOf row) - 1)else 0:=by
 unfold psi
 rw[List.length_append,List.length_singleton,List.range_succ,List.map_append,List.sum_append]
 congr 1
 ·refine congrArg List.sum (List.map_congr_left (fun j hj=>?_))
  have hj':=List.mem_range.1 hj
  rw[List.getD_eq_getElem?_getD,List.getElem?_append_left hj',List.take_append_of_le_length (by omega),<-List.getD_eq_getElem?_getD]
 ·simp
theorem psi_ext(ts:List Tm)(N:Nat)(row:List En):∀(ext:List En),(∀ e∈ext,e.reason≠-1)->psi ts N (row++ext)=psi ts N row:=by
 intro ext
 induction ext generalizing row with
 | nil=>intro _;simp
 | cons e ext ih=>
   intro h
   rw[show row++e :: ext=(row++[e])++ext by simp,ih _ (fun x hx=>h x (List.mem_cons_of_mem _ hx)),psi_snoc,if_neg (h e List.mem_cons_self),Nat.add_zero]
def phi(ts:List Tm)(N:Nat)(row:List En):Nat:=bnd (N - row.length) (rkC ts (eqsOf row))+psi ts N row
theorem phi_fwd(c:Cx E ts cs prs){S S':Sr}(hf:Fwd S S')(h:RowW prs S.row)(h':RowW prs S'.row):phi ts prs.length S'.row<=phi ts prs.length S.row/\psi ts prs.length S'.row=psi ts prs.length S.row/\S.row.length<=S'.row.length:=by
 obtain⟨_,ext,hx,hr⟩:=hf
 have h1:=psi_ext ts prs.length S.row ext hr
 rw[<-hx]at h1
 have hl:S.row.length<=S'.row.length:=by rw[hx,List.length_append];omega
 refine⟨?_,h1,hl⟩
 unfold phi
 rw[h1]
 have h2:=rkC_mono c.hts (c.eqs_in h) (c.eqs_in h') (fun p hp=>by rw[hx,eqsOf_append];exact List.mem_append.2 (.inl hp))
 have:=bnd_le (p:=prs.length - S'.row.length) (q:=prs.length - S.row.length) (by omega) h2 (rkC_lt9 c.hts _)
 omega
end
end Go.Proofs.YtjebhhoibofmfaaGreat
namespace Go.Proofs.YtjebhhoibofmfaaGreat
section
variable {E:Env} {ts:List Tm} {cs:List Cl} {prs:List Pr}
theorem rkC_pos{ps:List Pr}{a b:Nat}(ha:a < ts.length)(hb:b < ts.length)(h:eqB (clsF ts ps) a b=false):1<=rkC ts ps:=by
 have h3:(clsF ts ps).getD a 0≠(clsF ts ps).getD b 0:=fun e=>by
  have:eqB (clsF ts ps) a b=true:=eqB_iff.2 (by simpa using e)
  rw[h]at this;cases this
 have h1:=cntF_lt (n:=ts.length) (c:=clsF ts ps) (d:=[]) (fun _ _ _ _ _=>by simp) ha hb h3 (by simp)
 have h2:=cntF_pos (n:=ts.length) (c:=[]) (by omega)
 unfold rkC
 omega
theorem phi_try(hts:termsB ts=true){N:Nat}{row:List En}{e:En}(hl:row.length < N)(he:e.reason=-1)(hn:e.lit.n=true)(hr:1<=rkC ts (eqsOf row)):phi ts N (row++[e])=phi ts N row:=by
 have h1:eqsOf (row++[e])=eqsOf row:=by rw[eqsOf_append];simp[eqsOf,hn]
 unfold phi
 rw[psi_snoc,if_pos he,h1,List.length_append,List.length_singleton]
 have h9:=rkC_lt9 hts (eqsOf row)
 obtain⟨p,hp⟩:∃ p,N - row.length=p+1:=⟨N - row.length - 1,by omega⟩
 obtain⟨r,hr⟩:∃ r,rkC ts (eqsOf row)=r+1:=⟨rkC ts (eqsOf row) - 1,by omega⟩
 rw[hr]at h9 ⊢
 rw[show N - (row.length+1)=p by omega,show N - row.length - 1=p by omega,hp,bnd_step h9,Nat.add_sub_cancel]
 omega
theorem phi_turn(hts:termsB ts=true){N:Nat}{R:List En}{e e':En}(he:e.reason=-1)(he':e'.reason≠-1)(hr:rkC ts (eqsOf (R++[e']))+1<=rkC ts (eqsOf R)):phi ts N (R++[e'])<=psi ts N (R++[e]):=by
 unfold phi
 rw[psi_snoc,psi_snoc,if_pos he,if_neg he',List.length_append,List.length_singleton]
 have h9:=rkC_lt9 hts (eqsOf R)
 have:=bnd_le (p:=N - (R.length+1)) (q:=N - R.length - 1) (r:=rkC ts (eqsOf (R++[e']))) (s:=rkC ts (eqsOf R) - 1) (by omega) (by omega) (by omega)
 omega
theorem den_pop{R:List En}{e:En}{t:Lt}(h:Den (R++[e]) t)(hne:t≠conL e.lit):Den R t:=by
 obtain⟨x,hx,he⟩:=h
 rcases List.mem_append.1 hx with hx | hx
 ·exact⟨x,hx,he⟩
 ·simp at hx
  subst hx
  exact absurd (by rw[he,con_con]) hne
theorem reason_ok(c:Cx E ts cs prs){S:Sr}(h:Inv E ts cs prs S){e:En}(he:e.pair < prs.length/\e.lit=litI prs e.pair e.lit.n)(hno:e.pair ∉ S.row.map En.pair)(hr:Reas ts S.P S.row e)(hne:e.reason≠-1)(hroom:S.P.ss.length+243<=stepsMax) :
 ∃ k S',reasonP E S e=some (k,S')/\Inv E ts cs prs S'/\S'.row=S.row/\S'.kn=S.kn/\(∃ T,Gr T S.P S'.P)/\S'.P.ss.length<=S.P.ss.length+243/\FailBut S'.P S.row k e.lit:=by
 unfold reasonP
 rcases hr with hr | ⟨h1,h2,h3⟩ | ⟨k,h1,h2,h3,h4⟩
 ·exact absurd hr.1 hne
 ·rw[if_pos h1]
  have hl:e.lit=litI prs e.pair false:=by rw[<-h2];exact he.2
  rw[hl]at h3 ⊢
  obtain⟨k,S',q1,q2,q3,q4,q5,q6,q7,q8⟩:=whyEq_ok c h hroom he.1 false (by exact h3) (fun x hx hl=>hno (by rw[<-c.row_is h.rw he.1 hx hl];exact List.mem_map.2 ⟨x,hx,rfl⟩))
  exact⟨k,S',q1,q2,q3,q4,q6,q7,q8⟩
 ·rw[if_neg (by rw[h1];omega),if_pos (by rw[h1];omega)]
  exact⟨k,S,by rw[h1];simp,h,rfl,rfl,⟨[],Gr.refl _ _⟩,by omega,h2,h3,h4⟩
theorem cut_ok(c:Cx E ts cs prs){P:Pf}(hP:PfOk E P){R:List En}{e:En}(hel:LowL ts.length e.lit){i k:Nat}(hi:FailBut P R i e.lit)(hk:Fails P (R++[e]) k)(hh:hasS (clOf P k).1 (clOf P k).2 (conL e.lit)=true)(hroom:P.ss.length < stepsMax) :
 ∃ j P' T,addP E P (cutS i k e.lit)=some (j,P')/\PfOk E P'/\Gr T P P'/\P'.ss.length<=P.ss.length+1/\Fails P' R j:=by
 have hx:0<=e.lit.x/\e.lit.x < ts.length:=⟨hel.1,hel.2.1⟩
 have hy:0<=e.lit.y/\e.lit.y < ts.length:=⟨hel.2.2.1,hel.2.2.2⟩
 have key:∃ p n:Nat,cutS i k e.lit=⟨4,p,n,e.lit.x,e.lit.y⟩/\p < P.ss.length/\n < P.ss.length/\hasS (clOf P p).1 (clOf P p).2 ⟨e.lit.x,e.lit.y,false⟩=true/\hasS (clOf P n).1 (clOf P n).2 ⟨e.lit.x,e.lit.y,true⟩=true /\
  (∀ t∈allL 9,hasS (clOf P p).1 (clOf P p).2 t=true->t≠⟨e.lit.x,e.lit.y,false⟩->Den R t)/\(∀ t∈allL 9,hasS (clOf P n).1 (clOf P n).2 t=true->t≠⟨e.lit.x,e.lit.y,true⟩->Den R t):=by
  cases hn:e.lit.n with
  | true=>
    have e1:e.lit=⟨e.lit.x,e.lit.y,true⟩:=by rw[<-hn]
    have e2:conL e.lit=⟨e.lit.x,e.lit.y,false⟩:=by simp[conL,hn]
    refine⟨k,i,by simp[cutS,hn],hk.1,hi.1,by rw[<-e2];exact hh,by rw[<-e1];exact hi.2.1,fun t ht h1 h2=>den_pop (hk.2 t ht h1) (by rw[e2];exact h2),fun t ht h1 h2=>hi.2.2 t ht h1 (by rw[e1];exact h2)⟩
  | false=>
    have e1:e.lit=⟨e.lit.x,e.lit.y,false⟩:=by rw[<-hn]
    have e2:conL e.lit=⟨e.lit.x,e.lit.y,true⟩:=by simp[conL,hn]
    refine⟨i,k,by simp[cutS,hn],hi.1,hk.1,by rw[<-e1];exact hi.2.1,by rw[<-e2];exact hh,fun t ht h1 h2=>hi.2.2 t ht h1 (by rw[e1];exact h2),fun t ht h1 h2=>den_pop (hk.2 t ht h1) (by rw[e2];exact h2)⟩
 obtain⟨p,n,ec,hp,hn,h1,h2,h3,h4⟩:=key
 rw[ec]
 have hgo:E.go P.ss ⟨4,p,n,e.lit.x,e.lit.y⟩=cutC e.lit (clOf P n) (clOf P p):=by rw[c.hE.go,setX_cut];rfl
 obtain⟨j,P',a1,a2,a3,a4,a5,a6⟩:=addP_ok hP (s:=⟨4,p,n,e.lit.x,e.lit.y⟩) (by rw[c.hE.ok];exact okX_yes hp hn hx hy h1 h2) (fun _=>hroom)
 refine⟨j,P',_,a1,a2,a5,a6,a3,fun t ht hh=>?_⟩
 rw[a4,hgo,cutC_has]at hh
 simp only[Bool.or_eq_true,Bool.and_eq_true,Bool.not_eq_true']at hh
 rcases hh with⟨g1,g2⟩ | ⟨g1,g2⟩
 ·refine h3 t ht g1 (fun e=>?_)
  rw[e,one_refl]at g2
  cases g2
 ·refine h4 t ht g1 (fun e=>?_)
  rw[e,one_refl]at g2
  cases g2
end
end Go.Proofs.YtjebhhoibofmfaaGreat
namespace Go.Proofs.YtjebhhoibofmfaaGreat
section
variable {E:Env} {ts:List Tm} {cs:List Cl} {prs:List Pr}
def RunEnds(E:Env)(ts:List Tm)(cs:List Cl)(prs:List Pr)(o:Option Nat)(S:Sr):Prop:=
 Inv E ts cs prs S/\S.P.ss.length+3<=stepsMax/\(o=none->S.ns=[]/\Fix ts prs S)/\∀ k,o=some k->k < S.P.ss.length/\emptyB (clOf S.P k).1 (clOf S.P k).2=true
def LookAt(ts:List Tm)(N f:Nat)(S:Sr):Prop:=S.P.ss.length+11223*phi ts N S.row+3<=stepsMax/\S.kn.length+phi ts N S.row<=stepsMax/\200*phi ts N S.row+(N - S.row.length)+1<=f
def BackAt(ts:List Tm)(N f:Nat)(S:Sr):Prop:=S.P.ss.length+244*S.row.length+11223*psi ts N S.row+3<=stepsMax/\S.kn.length+1+psi ts N S.row<=stepsMax/\200*psi ts N S.row+S.row.length+60<=f
theorem look_ok(c:Cx E ts cs prs){f:Nat}{S:Sr}(h:Inv E ts cs prs S)(ha:LookAt ts prs.length (f+1) S)
 (hb:∀ k S,Inv E ts cs prs S->Fails S.P S.row k->BackAt ts prs.length f S->∃ o S',runP E prs f (some k) S=some (o,S')/\RunEnds E ts cs prs o S')
 (hl:∀ S,Inv E ts cs prs S->LookAt ts prs.length f S->∃ o S',runP E prs f none S=some (o,S')/\RunEnds E ts cs prs o S') :
 ∃ o S',runP E prs (f+1) none S=some (o,S')/\RunEnds E ts cs prs o S':=by
 obtain⟨a1,a2,a3⟩:=ha
 have h45:=c.h45
 have hpos:1<=bnd (prs.length - S.row.length) (rkC ts (eqsOf S.row)):=bnd_pos (rkC_lt9 c.hts _)
 have hphi:phi ts prs.length S.row=bnd (prs.length - S.row.length) (rkC ts (eqsOf S.row))+psi ts prs.length S.row:=rfl
 have hmax:stepsMax=3518437208883:=rfl
 obtain⟨o,S1,q1,q2,q3,q4,q5,q6⟩:=forced_ok c 100 S h (by omega) (by omega)
 obtain⟨p1,p2,p3⟩:=phi_fwd c q3 h.rw q2.rw
 have hlen:=q2.rw.len
 rw[runP,q1,Option.bind_some]
 cases o with
 | some k=>
   dsimp only
   refine hb k S1 q2 (q5 k rfl) ⟨?_,?_,?_⟩
   ·rw[p2];omega
   ·rw[p2,q3.1];omega
   ·rw[p2];omega
 | none=>
   dsimp only
   obtain⟨r1,r2⟩:=q6 rfl
   by_cases hns:S1.ns=[]
   ·rw[if_pos hns]
    exact⟨none,S1,rfl,q2,by rw[r1];omega,fun _=>⟨hns,r2⟩,fun _ e=>by cases e⟩
   ·rw[if_neg hns]
    obtain⟨m1,m2,m3⟩:=take_mem (popL_perm S1.ws S1.ns hns) q2.q.1 hns
    generalize (popL S1.ws S1.ns).getD (S1.ns.length - 1) 0=x at *
    generalize (popL S1.ws S1.ns).take (S1.ns.length - 1)=nt at *
    obtain⟨x1,x2⟩:=(q2.q.2 x).1 m2
    obtain⟨px,py,ep,hxy,hy⟩:=c.pr x x1
    have hneq:eqB (clsF ts (eqsOf S1.row)) (prs.getD x pr0).x (prs.getD x pr0).y=false:=by
     cases hq:eqB (clsF ts (eqsOf S1.row)) (prs.getD x pr0).x (prs.getD x pr0).y
     ·rfl
     ·obtain⟨e,he,hel⟩:=r2.eq x x1 hq
      exact absurd (List.mem_map.2 ⟨e,he,c.row_is q2.rw x1 he hel⟩) x2
    obtain⟨S2,t1,t2,t3,t4,t5⟩:=take_ok c (S:={ S1 with ns:=nt }) q2.pf q2.rw q2.tk q2.re q2.kn x1 x2 ⟨m1,fun j hj=>(m3 j).trans ⟨fun hh=>(q2.q.2 j).1 hh.1,fun hh=>⟨(q2.q.2 j).2 hh,hj⟩⟩⟩ (n:=true) (r:=-1) (.inl ⟨rfl,rfl,hneq⟩)
    rw[t1,Option.bind_some]
    have hrk:1<=rkC ts (eqsOf S1.row):=by
     rw[ep]at hneq
     exact rkC_pos (by omega) hy hneq
    have t3':S2.row=S1.row++[⟨x,litI prs x true,-1⟩]:=t3
    have t4':S2.P=S1.P:=t4
    have t5':S2.kn=S1.kn:=t5
    have hlt:S1.row.length < prs.length:=by
     have:=t2.rw.len
     rw[t3',List.length_append,List.length_singleton]at this
     omega
    have hp2:phi ts prs.length S2.row=phi ts prs.length S1.row:=by
     rw[t3']
     exact phi_try c.hts hlt rfl rfl hrk
    have hl2:S2.row.length=S1.row.length+1:=by rw[t3',List.length_append,List.length_singleton]
    refine hl S2 t2 ⟨?_,?_,?_⟩
    ·rw[hp2,t4',r1];omega
    ·rw[hp2,t5',q3.1];omega
    ·rw[hp2,hl2];omega
theorem back_ok(c:Cx E ts cs prs){f k:Nat}{S:Sr}(h:Inv E ts cs prs S)(hk:Fails S.P S.row k)(ha:BackAt ts prs.length (f+1) S)
 (hb:∀ k S,Inv E ts cs prs S->Fails S.P S.row k->BackAt ts prs.length f S->∃ o S',runP E prs f (some k) S=some (o,S')/\RunEnds E ts cs prs o S')
 (hl:∀ S,Inv E ts cs prs S->LookAt ts prs.length f S->∃ o S',runP E prs f none S=some (o,S')/\RunEnds E ts cs prs o S') :
 ∃ o S',runP E prs (f+1) (some k) S=some (o,S')/\RunEnds E ts cs prs o S':=by
 obtain⟨a1,a2,a3⟩:=ha
 have h45:=c.h45
 have hmax:stepsMax=3518437208883:=rfl
 have hlen:=h.rw.len
 have hlow:=c.low45 h.pf k hk.1
 rw[runP,if_pos hk.1]
 by_cases he:emptyB (clOf S.P k).1 (clOf S.P k).2=true
 ·rw[if_pos he]
  refine⟨some k,S,rfl,h,by omega,(fun e=>by cases e),fun j ej=>?_⟩
  injection ej with ej
  subst ej
  exact⟨hk.1,he⟩
 ·rw[if_neg he]
  obtain⟨R,e,hR⟩:∃ R e,S.row=R++[e]:=by
   rcases List.eq_nil_or_concat S.row with h0 | ⟨R,e,h0⟩
   ·exfalso
    refine he ((empty_iff hlow).2 (fun t ht=>?_))
    cases hq:hasS (clOf S.P k).1 (clOf S.P k).2 t
    ·rfl
    ·obtain⟨x,hx,_⟩:=hk.2 t ht hq
     rw[h0]at hx
     cases hx
   ·exact⟨R,e,by rw[h0];simp⟩
  obtain⟨S1,u1,u2,u3,u4,u5,u6⟩:=untake_ok c h hR
  rw[u1,Option.bind_some]
  dsimp only
  have hrw:=h.rw
  rw[hR]at hrw
  have hep:=hrw.1 e (by simp)
  have hel:=c.row_lit hrw (e:=e) (by simp)
  have hnd:=hrw.2
  rw[List.map_append,List.nodup_append]at hnd
  have hno:e.pair ∉ S1.row.map En.pair:=by
   rw[u3]
   exact fun hm=>hnd.2.2 _ hm e.pair (by simp) rfl
  have hlr:S.row.length=R.length+1:=by rw[hR,List.length_append,List.length_singleton]
  have hps:psi ts prs.length S.row=psi ts prs.length R+if e.reason=-1 then bnd (prs.length - R.length - 1) (rkC ts (eqsOf R) - 1)else 0:=by rw[hR,psi_snoc]
  have hkR:=hk
  rw[hR]at hkR
  by_cases hc:hasS (clOf S.P k).1 (clOf S.P k).2 (conL e.lit)=true
  ·rw[if_pos hc]
   by_cases hre:e.reason=-1
   ·rw[if_pos hre]
    obtain⟨hn,hneq⟩:e.lit.n=true/\eqB (clsF ts (eqsOf R)) e.lit.x e.lit.y=false:=by
     rcases u6 with hh | hh | ⟨k',hh,_⟩
     ·exact hh.2
     ·rw[hh.1]at hre;cases hre
     ·rw[hh]at hre;omega
    have hlrn:learnP prs S1 k=some { S1 with kn:=S1.kn++[k],ws:=(growL (shareF (metOf prs (clOf S1.P k)).length) (metOf prs (clOf S1.P k)) S1.ws S1.ns).1,ns:=(growL (shareF (metOf prs (clOf S1.P k)).length) (metOf prs (clOf S1.P k)) S1.ws S1.ns).2 }:=by
     unfold learnP
     rw[if_pos (by rw[u4,u5];simp[hk.1];omega)]
    rw[hlrn,Option.bind_some]
    obtain⟨g1,g2⟩:=grow_mem (shareF (metOf prs (clOf S1.P k)).length) (metOf prs (clOf S1.P k)) S1.ws S1.ns u2.q.1
    generalize growL (shareF (metOf prs (clOf S1.P k)).length) (metOf prs (clOf S1.P k)) S1.ws S1.ns=gr at *
    have hcon:litI prs e.pair (!e.lit.n)=conL e.lit:=by
     rw[<-con_lit,<-hep.2]
    have hkn2:KnOk cs prs S1.P (S1.kn++[k]):=by
     refine⟨fun j hj=>?_,fun i hi=>?_⟩
     ·rcases List.mem_append.1 hj with hj | hj
      ·exact u2.kn.1 j hj
      ·simp at hj
       subst hj
       rw[u4]
       refine⟨hk.1,fun t ht hh=>?_⟩
       obtain⟨x,hx,hxl⟩:=hk.2 t ht hh
       obtain⟨x1,x2⟩:=h.rw.1 x hx
       refine⟨x.pair,x1,?_⟩
       have:t=conL x.lit:=by rw[hxl,con_con]
       rw[x2,con_lit]at this
       rw[this]
       rfl
     ·obtain⟨j,hj,hjc⟩:=u2.kn.2 i hi
      exact⟨j,List.mem_append.2 (.inl hj),hjc⟩
    obtain⟨S3,t1,t2,t3,t4,t5⟩:=take_ok c (S:={ S1 with kn:=S1.kn++[k],ws:=gr.1,ns:=gr.2 }) u2.pf u2.rw u2.tk u2.re hkn2 hep.1 hno ⟨g1,fun j _=>(g2 j).trans (u2.q.2 j)⟩ (n:=!e.lit.n) (r:=k) (.inr (.inr ⟨k,rfl,by rw[u4];exact hk.1,by
     show hasS (clOf S1.P k).1 (clOf S1.P k).2 (litI prs e.pair (!e.lit.n))=true
     rw[hcon,u4];exact hc,fun t ht hh hne=>by
     have hh':hasS (clOf S.P k).1 (clOf S.P k).2 t=true:=by rw[<-u4];exact hh
     have hne':t≠litI prs e.pair (!e.lit.n):=hne
     rw[hcon]at hne'
     show Den S1.row t
     rw[u3]
     exact den_pop (hkR.2 t ht hh') hne'⟩))
    rw[t1,Option.bind_some]
    have t3':S3.row=R++[⟨e.pair,litI prs e.pair (!e.lit.n),k⟩]:=by rw[t3];show S1.row++_=_;rw[u3]
    have t4':S3.P=S1.P:=t4
    have t5':S3.kn=S1.kn++[k]:=t5
    obtain⟨lx,ly,le,lxy,lyn,_⟩:=c.lit hep.1 e.lit.n
    rw[<-hep.2]at le
    have hrk:rkC ts (eqsOf S3.row)+1<=rkC ts (eqsOf R):=by
     have hRw:RowW prs R:=by rw[<-u3];exact u2.rw
     have hin3:=c.eqs_in t2.rw
     have hmem:(⟨e.lit.x,e.lit.y⟩:Pr)∈eqsOf S3.row:=by
      rw[eqs_mem]
      refine⟨⟨e.pair,litI prs e.pair (!e.lit.n),k⟩,by rw[t3'];simp,?_,?_⟩
      ·show(!e.lit.n)=false
       rw[hn];rfl
      ·show(⟨e.lit.x,e.lit.y⟩:Pr)=⟨(litI prs e.pair (!e.lit.n)).x,(litI prs e.pair (!e.lit.n)).y⟩
       rw[hcon];rfl
     have heq3:=pairsHold_mem (clsF_close c.hts hin3).2.2.2.1 hmem
     rw[le]at hneq heq3
     exact rkC_lt c.hts (c.eqs_in hRw) hin3 (fun p hp=>by rw[t3',eqsOf_append];exact List.mem_append.2 (.inl hp)) (by omega) lyn hneq heq3
    have hphi:phi ts prs.length S3.row<=psi ts prs.length S.row:=by
     rw[hR,t3']
     rw[t3']at hrk
     exact phi_turn c.hts hre (by show(k:Int)≠-1;omega) hrk
    have hl3:=t2.rw.len
    refine hl S3 t2 ⟨?_,?_,?_⟩
    ·rw[t4',u4];omega
    ·rw[t5',u5,List.length_append,List.length_singleton];omega
    ·omega
   ·rw[if_neg hre]
    rw[if_neg hre,Nat.add_zero]at hps
    obtain⟨i,S2,r1,r2,r3,r4,⟨T,r5⟩,r6,r7⟩:=reason_ok c u2 hep hno (by rw[u3,u4];exact u6) hre (by rw[u4];omega)
    rw[r1,Option.bind_some]
    dsimp only
    rw[u4]at r5 r6
    rw[u3]at r3 r7
    obtain⟨k1,k2⟩:=r5.cl hk.1
    obtain⟨j,P3,T3,c1,c2,c3,c4,c5⟩:=cut_ok c r2.pf hel.2 r7 (k:=k) ⟨k2,by rw[k1];exact hkR.2⟩ (by rw[k1];exact hc) (by omega)
    rw[c1,Option.bind_some]
    refine hb j { S2 with P:=P3 } ⟨c2,r2.rw,r2.tk,r2.q,r2.re.grow c3,r2.kn.grow c3⟩ (by show Fails P3 S2.row j;rw[r3];exact c5) ⟨?_,?_,?_⟩
    ·show P3.ss.length+244*S2.row.length+11223*psi ts prs.length S2.row+3<=stepsMax
     rw[r3];omega
    ·show S2.kn.length+1+psi ts prs.length S2.row<=stepsMax
     rw[r3,r4,u5];omega
    ·show 200*psi ts prs.length S2.row+S2.row.length+60<=f
     rw[r3];omega
  ·rw[if_neg hc]
   refine hb k S1 u2 ⟨by rw[u4];exact hk.1,fun t ht hh=>?_⟩ ⟨?_,?_,?_⟩
   ·rw[u4]at hh
    rw[u3]
    exact den_pop (hkR.2 t ht hh) (fun e=>hc (by rw[<-e];exact hh))
   ·rw[u3,u4];omega
   ·rw[u3,u5];omega
   ·rw[u3];omega
theorem run_ok(c:Cx E ts cs prs):∀(f:Nat),(∀ k S,Inv E ts cs prs S->Fails S.P S.row k->BackAt ts prs.length f S->∃ o S',runP E prs f (some k) S=some (o,S')/\RunEnds E ts cs prs o S') /\
 ∀ S,Inv E ts cs prs S->LookAt ts prs.length f S->∃ o S',runP E prs f none S=some (o,S')/\RunEnds E ts cs prs o S'
 | 0=>⟨fun k S _ _ ha=>absurd ha.2.2 (by omega),fun S _ ha=>absurd ha.2.2 (by omega)⟩
 | f+1=>by
   obtain⟨h1,h2⟩:=run_ok c f
   exact⟨fun k S h hk ha=>back_ok c h hk ha h1 h2,fun S h ha=>look_ok c h ha h1 h2⟩
end
end Go.Proofs.YtjebhhoibofmfaaGreat
namespace Go.Proofs.YtjebhhoibofmfaaGreat
theorem getD_of_mem{α:Type}{l:List α}{x d:α}(h:x∈l):∃ i,i < l.length/\l.getD i d=x:=by
 obtain⟨i,hi,e⟩:=List.getElem_of_mem h
 exact⟨i,hi,by rw[List.getD_eq_getElem?_getD,List.getElem?_eq_getElem hi,Option.getD_some,e]⟩
theorem mem_of_getD{α:Type}{l:List α}{i:Nat}{d:α}(h:i < l.length):l.getD i d∈l:=by
 rw[List.getD_eq_getElem?_getD,List.getElem?_eq_getElem h,Option.getD_some]
 exact List.getElem_mem h
theorem ok_given{ts:List Tm}{cs:List Cl}{ss:List (Nat×Nat)}{i:Nat}(hi:i < cs.length):nextB ts cs ss (givenS i)=true:=by
 have e:nextB ts cs ss (givenS i)=okG (cs.length:Nat) (givenS i):=by simp[nextB,givenS]
 rw[e]
 unfold okG
 rw[Bool.and_eq_true]
 constructor
 ·refine allB_yes (fun j hj=>?_)
  simp at hj
  subst hj
  exact belowB_iff.2 ⟨by simp[givenS],by simpa[givenS] using hi⟩
 ·simp[allNil,allB,givenS,List.range_succ]
section
variable {E:Env} {ts:List Tm} {cs:List Cl}
structure Begun (E:Env) (ts:List Tm) (cs:List Cl) (done:List Nat) (kn:List Nat) (st:Nat×Nat) (P:Pf):Prop where
 pf:PfOk E P
 kno:∀ k∈kn,k < P.ss.length/\∀ t,hasS (clOf P k).1 (clOf P k).2 t=true->hasS st.1 st.2 t=true
 all:∀ i∈done,∃ k∈kn,clOf P k=setG cs (givenS i)
 low:SLow (ts.length:Nat) st
 len:P.ss.length<=done.length
 kl:kn.length=done.length
theorem start_ok(hE:EnvAll E ts cs)(hts:termsB ts=true)(hcl:clausesB ts.length cs=true):∀(is done kn:List Nat) (st:Nat×Nat) (P:Pf),Begun E ts cs done kn st P->(∀ i∈is,i < cs.length)->(done.length+is.length<=16) ->
 ∃ kn' st' P',startP E is kn st P=some (kn',st',P')/\Begun E ts cs (done++is) kn' st' P'
 | [],done,kn,st,P,h,_,_=>⟨kn,st,P,rfl,by rw[List.append_nil];exact h⟩
 | i :: is,done,kn,st,P,h,hi,h16=>by
   have hi0:=hi i List.mem_cons_self
   have hlen:=h.len
   rw[List.length_cons]at h16
   have hmax:stepsMax=3518437208883:=rfl
   obtain⟨k,P',a1,a2,a3,a4,a5,a6⟩:=addP_ok h.pf (s:=givenS i) (by rw[hE.ok];exact ok_given hi0) (fun _=>by omega)
   have hgo:E.go P.ss (givenS i)=setG cs (givenS i):=by rw[hE.go];simp[nextS,givenS]
   rw[hgo]at a4
   unfold startP
   rw[a1,Option.bind_some]
   dsimp only
   have h9:((ts.length:Nat):Int)<=9:=by have:=(len_of hts).2;omega
   have hB:Begun E ts cs (done++[i]) (kn++[k]) (st.1 ||| (clOf P' k).1,st.2 ||| (clOf P' k).2) P':=by
    refine⟨a2,fun j hj=>?_,fun j hj=>?_,fun t ht hh=>?_,?_,?_⟩
    ·rcases List.mem_append.1 hj with hj | hj
     ·obtain⟨h1,h2⟩:=h.kno j hj
      obtain⟨g1,g2⟩:=a5.cl h1
      exact⟨g2,fun t hh=>by rw[g1]at hh;rw[or_has,h2 t hh];rfl⟩
     ·simp at hj
      subst hj
      exact⟨a3,fun t hh=>by rw[or_has,hh,Bool.or_true]⟩
    ·rcases List.mem_append.1 hj with hj | hj
     ·obtain⟨m,h1,h2⟩:=h.all j hj
      exact⟨m,List.mem_append.2 (.inl h1),by rw[(a5.cl (h.kno m h1).1).1];exact h2⟩
     ·simp at hj
      subst hj
      exact⟨k,List.mem_append.2 (.inr (List.mem_singleton.2 rfl)),a4⟩
    ·rw[or_has,Bool.or_eq_true]at hh
     rcases hh with hh | hh
     ·exact h.low t ht hh
     ·rw[a4]at hh
      exact slow_of h9 (litsIn_mem ((clausesIn_of hcl).2 i hi0)) t ht hh
    ·rw[List.length_append,List.length_singleton];omega
    ·rw[List.length_append,List.length_append,h.kl];rfl
   obtain⟨kn',st',P2,q1,q2⟩:=start_ok hE hts hcl is (done++[i]) _ _ P' hB (fun j hj=>hi j (List.mem_cons_of_mem _ hj)) (by rw[List.length_append,List.length_singleton];omega)
   exact⟨kn',st',P2,q1,by rw[List.append_assoc]at q2;exact q2⟩
theorem pairs_mem{st:Nat×Nat}{p:Pr}:p∈pairsOf st↔(⟨p.x,p.y,false⟩:Lt)∈allL 9/\(hasS st.1 st.2 ⟨p.x,p.y,false⟩=true\/hasS st.1 st.2 ⟨p.x,p.y,true⟩=true):=by
 have hb:∀ x y:Int,hasS (st.1 ||| st.2) (st.2 ||| st.1) ⟨x,y,false⟩=(hasS st.1 st.2 ⟨x,y,false⟩ || hasS st.1 st.2 ⟨x,y,true⟩):=by
  intro x y
  simp[hasS]
 unfold pairsOf
 rw[List.mem_map]
 constructor
 ·rintro⟨t,ht,rfl⟩
  obtain⟨h1,h2⟩:=List.mem_filter.1 ht
  obtain⟨h3,h4⟩:=inOrd_iff.1 h1
  have e:(⟨t.x,t.y,false⟩:Lt)=t:=by
   cases t;simp_all
  refine⟨by rw[e];exact h3,?_⟩
  rw[<-Bool.or_eq_true,<-hb,e]
  exact h4
 ·rintro⟨h1,h2⟩
  refine⟨⟨p.x,p.y,false⟩,List.mem_filter.2 ⟨inOrd_iff.2 ⟨h1,?_⟩,rfl⟩,rfl⟩
  rw[hb,Bool.or_eq_true]
  exact h2
theorem pairs_nodup(st:Nat×Nat):(pairsOf st).Nodup:=by
 unfold pairsOf
 have h:=(inOrd_nodup (st.1 ||| st.2) (st.2 ||| st.1)).sublist (List.filter_sublist (p:=fun t:Lt=>!t.n))
 have hn:∀ t∈(inOrd (st.1 ||| st.2) (st.2 ||| st.1)).filter (fun t:Lt=>!t.n),t.n=false:=fun t ht=>by
  have:=(List.mem_filter.1 ht).2
  simpa using this
 generalize (inOrd (st.1 ||| st.2) (st.2 ||| st.1)).filter (fun t:Lt=>!t.n)=l at *
 induction l with
 | nil=>simp
 | cons a l ih=>
   obtain⟨h1,h2⟩:=List.nodup_cons.1 h
   rw[List.map_cons,List.nodup_cons]
   refine⟨fun hm=>?_,ih h2 (fun t ht=>hn t (List.mem_cons_of_mem _ ht))⟩
   obtain⟨b,hb,e⟩:=List.mem_map.1 hm
   have e1:=hn a List.mem_cons_self
   have e2:=hn b (List.mem_cons_of_mem _ hb)
   injection e with e3 e4
   have:a=b:=by cases a;cases b;simp_all
   exact h1 (this ▸ hb)
theorem all_pos:((allL 9).filter fun t:Lt=>!t.n).length=45:=by decide +kernel
theorem pairs_len(st:Nat×Nat):(pairsOf st).length<=45:=by
 unfold pairsOf inOrd
 rw[List.length_map,<-all_pos]
 exact(List.filter_sublist.filter _).length_le
theorem nodup_get{α:Type}{l:List α}(h:l.Nodup){d:α}{i j:Nat}(hi:i < l.length)(hj:j < l.length)(e:l.getD i d=l.getD j d):i=j:=by
 rw[List.getD_eq_getElem?_getD,List.getD_eq_getElem?_getD,List.getElem?_eq_getElem hi,List.getElem?_eq_getElem hj,Option.getD_some,Option.getD_some]at e
 exact(List.getElem_inj h).1 e
theorem begun_cx(hE:EnvAll E ts cs)(hfu:E.fu=6000)(hts:termsB ts=true)(hcl:clausesB ts.length cs=true){done kn:List Nat}{st:Nat×Nat}{P:Pf}(h:Begun E ts cs done kn st P)(hd:∀ i,i < cs.length->i∈done) :
 Cx E ts cs (pairsOf st)/\Inv E ts cs (pairsOf st) (sr0 kn (pairsOf st) P)/\∀ i,i < (pairsOf st).length->LowL ts.length (litI (pairsOf st) i false):=by
 have hlow:∀ i,i < (pairsOf st).length->(⟨((pairsOf st).getD i pr0).x,((pairsOf st).getD i pr0).y,false⟩:Lt)∈allL 9/\LowL ts.length (litI (pairsOf st) i false):=by
  intro i hi
  obtain⟨h1,h2⟩:=pairs_mem.1 (mem_of_getD (d:=pr0) hi)
  refine⟨h1,?_⟩
  have h9:=allL_lowL h1
  rcases h2 with h2 | h2
  ·exact h.low _ h9 h2
  ·exact h.low ⟨_,_,true⟩ h9 h2
 refine⟨⟨hE,hfu,hts,hcl,fun i hi=>?_,fun i j hi hj e=>nodup_get (pairs_nodup st) hi hj e,pairs_len st⟩,⟨h.pf,⟨(by intro e he;cases he),by simp[sr0]⟩,?_,?_,?_,?_⟩,fun i hi=>(hlow i hi).2⟩
 ·obtain⟨h1,h2⟩:=hlow i hi
  obtain⟨g1,g2,g3⟩:=allL_low _ h1
  obtain⟨_,_,_,l4⟩:=h2
  unfold litI at l4
  simp only at g1 g2 g3 l4
  refine⟨((pairsOf st).getD i pr0).x.toNat,((pairsOf st).getD i pr0).y.toNat,?_,by omega,by omega⟩
  cases hp:(pairsOf st).getD i pr0
  rw[hp]at g1 g2 g3 l4
  simp only at g1 g2 g3 l4 ⊢
  congr 1 <;> omega
 ·intro t _
  show hasS 0 0 t=true↔_
  rw[has_zero]
  constructor
  ·intro e;cases e
  ·rintro⟨e,he,_⟩;cases he
 ·refine⟨List.nodup_range,fun i=>?_⟩
  show i∈List.range (pairsOf st).length↔_
  rw[List.mem_range]
  simp[sr0]
 ·intro pre e post he
  have:([]:List En)=pre++e :: post:=he
  simp at this
 ·refine⟨fun k hk=>?_,fun i hi=>?_⟩
  ·obtain⟨h1,h2⟩:=h.kno k hk
   refine⟨h1,fun t ht hh=>?_⟩
   have h3:=h2 t hh
   obtain⟨g1,g2,g3⟩:=allL_low t ht
   have hm:(⟨t.x,t.y⟩:Pr)∈pairsOf st:=by
    refine pairs_mem.2 ⟨allL_mem g1 g2 g3,?_⟩
    cases hn:t.n with
    | false=>exact .inl (by rw[show(⟨t.x,t.y,false⟩:Lt)=t by cases t;simp_all];exact h3)
    | true=>exact .inr (by rw[show(⟨t.x,t.y,true⟩:Lt)=t by cases t;simp_all];exact h3)
   obtain⟨i,hi,e⟩:=getD_of_mem (d:=pr0) hm
   exact⟨i,hi,by unfold litI;rw[e]⟩
  ·exact h.all i (hd i hi)
theorem end_holds{prs:List Pr}(c:Cx E ts cs prs){S:Sr}(h:Inv E ts cs prs S)(hns:S.ns=[])(hf:Fix ts prs S):allHoldB (clsF ts (eqsOf S.row)) cs=true:=by
 refine allB_yes (fun i hi=>?_)
 obtain⟨k,hk,hc⟩:=h.kn.2 i hi
 obtain⟨_,hkl⟩:=h.kn.1 k hk
 have hall:∀ j,j < prs.length->j∈S.row.map En.pair:=by
  intro j hj
  by_cases hm:j∈S.row.map En.pair
  ·exact hm
  ·have:=(h.q.2 j).2 ⟨hj,hm⟩
   rw[hns]at this
   cases this
 have key:∃ t∈allL 9,hasS (clOf S.P k).1 (clOf S.P k).2 t=true/\∃ e∈S.row,e.lit=t:=by
  rcases hf.kn k hk with hh | ⟨t,ht,h1,h2⟩
  ·exact hh
  ·obtain⟨j,hj,e1⟩:=hkl t ht h1
   obtain⟨e,he,n,hl⟩:=c.row_has h.rw (hall j hj)
   by_cases hn:n=t.n
   ·subst hn
    exact⟨t,ht,h1,e,he,by rw[hl,<-e1]⟩
   ·exfalso
    refine h2 ⟨e,he,?_⟩
    have:n=!t.n:=by revert hn;generalize t.n=q;cases n <;> cases q <;> simp
    rw[hl,this,<-con_lit,<-e1]
 obtain⟨t,ht,h1,e,he,hel⟩:=key
 obtain⟨j,hj,e1⟩:=hkl t ht h1
 have hlit:litB (clsF ts (eqsOf S.row)) t=true:=by
  unfold litB
  cases hn:t.n with
  | false=>
    have hm:(⟨t.x,t.y⟩:Pr)∈eqsOf S.row:=eqs_mem.2 ⟨e,he,by rw[hel];exact hn,by rw[hel]⟩
    have:=pairsHold_mem (clsF_close c.hts (c.eqs_in h.rw)).2.2.2.1 hm
    rw[this];rfl
  | true=>
    cases hq:eqB (clsF ts (eqsOf S.row)) t.x t.y
    ·rfl
    ·exfalso
     have e2:t.x=(prs.getD j pr0).x/\t.y=(prs.getD j pr0).y:=⟨congrArg Lt.x e1,congrArg Lt.y e1⟩
     rw[e2.1,e2.2]at hq
     obtain⟨e',he',hl'⟩:=hf.eq j hj hq
     rw[hn]at e1
     have:=c.not_both h.rw hj he (hel.trans e1) he' hl'
     cases this
 rw[hc]at h1
 have h1':hasS (ofL (cs.getD i cl0).ls (0,0)).1 (ofL (cs.getD i cl0).ls (0,0)).2 t=true:=by
  have:setG cs (givenS i)=ofL (cs.getD i cl0).ls (0,0):=by simp[setG,givenS]
  rw[this]at h1;exact h1
 rw[ofL_has,has_zero,Bool.false_or,List.any_eq_true]at h1'
 obtain⟨u,hu,ho⟩:=h1'
 refine holdsB_mem.2 ⟨u,hu,?_⟩
 rw[one_lit _ ((clow_of c.hts c.hcl i hi).2 u hu) (allL_lowL ht) ho]
 exact hlit
end
end Go.Proofs.YtjebhhoibofmfaaGreat
namespace Go.Proofs.YtjebhhoibofmfaaGreat
theorem run_follow_sure{ts:List Tm}{cs:List Cl}(hts:termsB ts=true)(hcl:clausesB ts.length cs=true):∀(sts:List St) (ss:List (Nat×Nat)),(∀ p∈ss,SLow (ts.length:Nat) p) ->
 (∀ c:List Int,soundB ts c=true->allHoldB c cs=true->∀ p∈ss,SHolds (ts.length:Nat) c p) ->
 ∀ p∈followL ts cs sts ss,SLow (ts.length:Nat) p/\∀ c:List Int,soundB ts c=true->allHoldB c cs=true->SHolds (ts.length:Nat) c p
 | [],_,h1,h2=>fun p hp=>⟨h1 p hp,fun c hs hh=>h2 c hs hh p hp⟩
 | s :: l,ss,h1,h2=>by
   unfold followL
   split
   ·rename_i hn
    have hx:=next_sure hts hcl h1 hn
    refine run_follow_sure hts hcl l _ ?_ ?_
    ·intro p hp
     rcases List.mem_append.1 hp with h | h
     ·exact h1 p h
     ·simp at h;rw[h];exact hx.1
    ·intro c hs hh p hp
     rcases List.mem_append.1 hp with h | h
     ·exact h2 c hs hh p h
     ·simp at h;rw[h];exact hx.2 c hs hh (h2 c hs hh)
   ·exact fun p hp=>⟨h1 p hp,fun c hs hh=>h2 c hs hh p hp⟩
theorem run_fol_snoc(ts:List Tm)(cs:List Cl)(s:St):∀(l:List St) (ss:List (Nat×Nat)),(followL ts cs l ss).length=ss.length+l.length ->
 followL ts cs (l++[s]) ss=if nextB ts cs (followL ts cs l ss) s then followL ts cs l ss++[nextS ts cs (followL ts cs l ss) s]else followL ts cs l ss
 | [],ss,_=>rfl
 | t :: l,ss,h=>by
   rw[List.cons_append]
   unfold followL at h ⊢
   split
   ·rename_i hn
    rw[if_pos hn]at h
    have h':(followL ts cs l (ss++[nextS ts cs ss t])).length=(ss++[nextS ts cs ss t]).length+l.length:=by simp at h ⊢; omega
    have:=run_fol_snoc ts cs s l _ h'
    rw[this]
   ·rename_i hn
    rw[if_neg hn]at h
    simp at h
end Go.Proofs.YtjebhhoibofmfaaGreat
namespace Go.Proofs.YtjebhhoibofmfaaGreat
theorem nextX_low{ts:List Tm}{cs:List Cl}{ss:List (Nat×Nat)}{s:St}(h:nextB ts cs ss s=true)(hr:s.r=4):(0<=s.a/\s.a < ss.length)/\0<=s.b/\s.b < ss.length:=by
 have e:nextB ts cs ss s=okX (ts.length:Nat) ss s:=by simp[nextB,hr]
 rw[e]at h
 simp only[okX,Bool.and_eq_true]at h
 have ha:belowB s.a (ss.length:Nat)=true:=allB_iff.1 h.1.1.1 0 (by simp)
 have hb:belowB s.b (ss.length:Nat)=true:=allB_iff.1 h.1.1.1 1 (by simp)
 exact⟨belowB_iff.1 ha,belowB_iff.1 hb⟩
theorem set_true{nd:List Bool}{i j:Nat}:(nd.set i true).getD j false=true↔(i=j/\i < nd.length)\/nd.getD j false=true:=by
 rw[List.getD_eq_getElem?_getD,List.getD_eq_getElem?_getD,List.getElem?_set]
 by_cases h:i=j
 ·subst h
  rw[if_pos rfl]
  by_cases h2:i < nd.length
  ·simp[h2]
  ·rw[if_neg h2,List.getElem?_eq_none (by omega)]
   simp[h2]
 ·rw[if_neg h]
  simp[h]
def CutIn(sts:List St)(nd:List Bool)(j:Nat):Prop:=nd.getD j false=true->(sts.getD j st0).r=4->nd.getD (sts.getD j st0).a.toNat false=true/\nd.getD (sts.getD j st0).b.toNat false=true
def CutLow(sts:List St)(N:Nat):Prop:=∀ j,j < N->(sts.getD j st0).r=4->(0<=(sts.getD j st0).a/\(sts.getD j st0).a < j)/\0<=(sts.getD j st0).b/\(sts.getD j st0).b < j
theorem need_ok{sts:List St}{N:Nat}(hlow:CutLow sts N):∀(m:Nat) (nd:List Bool),m<=N->nd.length=N->(∀ j,m<=j->j < N->CutIn sts nd j) ->
 ∃ nd',needP sts m nd=some nd'/\nd'.length=N/\(∀ j,nd.getD j false=true->nd'.getD j false=true)/\∀ j,j < N->CutIn sts nd' j
 | 0,nd,_,hl,h=>⟨nd,rfl,hl,fun _ h=>h,fun j hj=>h j (by omega) hj⟩
 | m+1,nd,hm,hl,h=>by
   unfold needP
   by_cases hc:(nd.getD m false && decide ((sts.getD m st0).r=4))=true
   ·rw[if_pos hc]
    simp only[Bool.and_eq_true,decide_eq_true_eq]at hc
    obtain⟨⟨a1,a2⟩,b1,b2⟩:=hlow m (by omega) hc.2
    rw[if_pos (by omega)]
    obtain⟨na,hna⟩:=Int.eq_ofNat_of_zero_le a1
    obtain⟨nb,hnb⟩:=Int.eq_ofNat_of_zero_le b1
    have ea:(sts.getD m st0).a.toNat=na:=by rw[hna];simp
    have eb:(sts.getD m st0).b.toNat=nb:=by rw[hnb];simp
    rw[ea,eb]
    have hset:∀ j,((nd.set na true).set nb true).getD j false=true↔j=na\/j=nb\/nd.getD j false=true:=by
     intro j
     rw[set_true,set_true,List.length_set]
     constructor
     ·rintro(⟨e,_⟩ | ⟨e,_⟩ | e)
      ·exact .inr (.inl e.symm)
      ·exact .inl e.symm
      ·exact .inr (.inr e)
     ·rintro(e | e | e)
      ·exact .inr (.inl ⟨e.symm,by omega⟩)
      ·exact .inl ⟨e.symm,by omega⟩
      ·exact .inr (.inr e)
    obtain⟨nd',q1,q2,q3,q4⟩:=need_ok hlow m ((nd.set na true).set nb true) (by omega) (by simp[hl]) (fun j hj hjN=>by
     intro hj1 hj2
     rw[hset]at hj1
     rw[hset,hset]
     by_cases e:j=m
     ·subst e
      rw[ea,eb]
      exact⟨.inl rfl,.inr (.inl rfl)⟩
     ·have hjt:nd.getD j false=true:=by
       rcases hj1 with e1 | e1 | e1
       ·omega
       ·omega
       ·exact e1
      obtain⟨g1,g2⟩:=h j (by omega) hjN hjt hj2
      exact⟨.inr (.inr g1),.inr (.inr g2)⟩)
    exact⟨nd',q1,q2,fun j hj=>q3 j ((hset j).2 (.inr (.inr hj))),q4⟩
   ·rw[if_neg hc]
    exact need_ok hlow m nd (by omega) hl (fun j hj hjN=>by
     by_cases e:j=m
     ·subst e
      intro h1 h2
      exact absurd (by simp only[Bool.and_eq_true,decide_eq_true_eq];exact⟨h1,h2⟩) hc
     ·exact h j (by omega) hjN)
theorem moved_ok{ts:List Tm}{cs:List Cl}{ss oss:List (Nat×Nat)}{pl:List Int}{s:St}(hok:nextB ts cs ss s=true)
 (hm:s.r=4->(∃ q:Nat,pl.getD s.a.toNat 0=q/\q < oss.length/\oss.getD q (0,0)=ss.getD s.a.toNat (0,0))/\∃ q:Nat,pl.getD s.b.toNat 0=q/\q < oss.length/\oss.getD q (0,0)=ss.getD s.b.toNat (0,0)) :
 nextB ts cs oss (movedS pl s)=true/\nextS ts cs oss (movedS pl s)=nextS ts cs ss s:=by
 by_cases hr:s.r=4
 ·obtain⟨⟨p,p1,p2,p3⟩,q,q1,q2,q3⟩:=hm hr
  obtain⟨r,a,b,c,d⟩:=s
  simp only at hr p1 p3 q1 q3
  subst hr
  have e1:nextB ts cs ss ⟨4,a,b,c,d⟩=okX (ts.length:Nat) ss ⟨4,a,b,c,d⟩:=by simp[nextB]
  rw[e1]at hok
  have e2:movedS pl ⟨4,a,b,c,d⟩=⟨4,p,q,c,d⟩:=by
   unfold movedS
   rw[if_pos rfl]
   simp only[p1,q1]
  rw[e2]
  have e3:nextB ts cs oss ⟨4,p,q,c,d⟩=okX (ts.length:Nat) oss ⟨4,p,q,c,d⟩:=by simp[nextB]
  rw[e3]
  unfold okX at hok ⊢
  simp only[Bool.and_eq_true]at hok ⊢
  simp only[Int.toNat_natCast,p3,q3]
  refine⟨⟨⟨⟨?_,hok.1.1.2⟩,hok.1.2⟩,hok.2⟩,?_⟩
  ·refine allB_yes (fun i hi=>?_)
   simp at hi
   have:i=0\/i=1:=by omega
   rcases this with rfl | rfl
   ·exact belowB_iff.2 ⟨by simp,by simpa using p2⟩
   ·exact belowB_iff.2 ⟨by simp,by simpa using q2⟩
  ·have e4:nextS ts cs oss ⟨4,p,q,c,d⟩=setX oss ⟨4,p,q,c,d⟩:=by simp[nextS]
   have e5:nextS ts cs ss ⟨4,a,b,c,d⟩=setX ss ⟨4,a,b,c,d⟩:=by simp[nextS]
   rw[e4,e5]
   unfold setX
   simp only[Int.toNat_natCast,p3,q3]
 ·have e:movedS pl s=s:=by unfold movedS;rw[if_neg hr]
  rw[e]
  unfold nextB at hok ⊢
  unfold nextS
  by_cases h0:s.r=0
  ·simp only[if_pos h0]at hok ⊢
   exact⟨hok,trivial⟩
  ·simp only[if_neg h0]at hok ⊢
   by_cases h1:s.r=1
   ·simp only[if_pos h1]at hok ⊢
    exact⟨hok,trivial⟩
   ·simp only[if_neg h1]at hok ⊢
    by_cases h2:s.r=2
    ·simp only[if_pos h2]at hok ⊢
     exact⟨hok,trivial⟩
    ·simp only[if_neg h2]at hok ⊢
     by_cases h3:s.r=3
     ·simp only[if_pos h3]at hok ⊢
      exact⟨hok,trivial⟩
     ·simp only[if_neg h3,if_neg hr]at hok
      cases hok
structure Mv (ts:List Tm) (cs:List Cl) (ss:List (Nat×Nat)) (nd:List Bool) (i:Nat) (pl:List Int) (out:List St):Prop where
 all:(followL ts cs out []).length=out.length
 le:out.length<=i
 pl:∀ j,j < i->nd.getD j false=true->∃ q:Nat,pl.getD j 0=q/\q < out.length/\(followL ts cs out []).getD q (0,0)=ss.getD j (0,0)
 last:∀ j,i=j+1->nd.getD j false=true->out≠[]/\lastS (followL ts cs out [])=ss.getD j (0,0)
theorem up_ok{ts:List Tm}{cs:List Cl}{ss:List (Nat×Nat)}{sts:List St}{nd:List Bool}{N:Nat}(hl:sts.length=ss.length)(hN:N<=ss.length)(hlow:CutLow sts N)(hcut:∀ j,j < N->CutIn sts nd j)
 (hok:∀ i,i < ss.length->nextB ts cs (ss.take i) (sts.getD i st0)=true/\ss.getD i (0,0)=nextS ts cs (ss.take i) (sts.getD i st0)) :
 ∀(d i:Nat) (pl:List Int) (out:List St),N=i+d->pl.length=N->Mv ts cs ss nd i pl out->∃ out' pl',upP nd ((sts.take N).drop i) i pl out=some out'/\Mv ts cs ss nd N pl' out'
 | 0,i,pl,out,hd,_,h=>by
   have e:(sts.take N).drop i=[]:=List.drop_eq_nil_of_le (by rw[List.length_take];omega)
   rw[e]
   have:i=N:=by omega
   subst this
   exact⟨out,pl,rfl,h⟩
 | d+1,i,pl,out,hd,hp,h=>by
   have hi:i < (sts.take N).length:=by rw[List.length_take];omega
   have e:(sts.take N).drop i=sts.getD i st0 :: (sts.take N).drop (i+1):=by
    rw[List.drop_eq_getElem_cons hi,List.getElem_take,List.getD_eq_getElem?_getD,List.getElem?_eq_getElem (by omega),Option.getD_some]
   rw[e]
   unfold upP
   obtain⟨ok1,ok2⟩:=hok i (by omega)
   have hlen:(ss.take i).length=i:=by rw[List.length_take];omega
   by_cases hn:nd.getD i false=true
   ·rw[if_pos hn,if_neg (fun hc=>hc.2 (by have:=hlow i (by omega) hc.1;omega))]
    have hsub:∀ x:Nat,x < i->(ss.take i).getD x (0,0)=ss.getD x (0,0):=by
     intro x hx
     rw[List.getD_eq_getElem?_getD,List.getD_eq_getElem?_getD,List.getElem?_take,if_pos hx]
    have hmv:=moved_ok (oss:=followL ts cs out []) (pl:=pl) ok1 (fun hr=>by
     obtain⟨⟨a1,a2⟩,b1,b2⟩:=hlow i (by omega) hr
     obtain⟨n1,n2⟩:=hcut i (by omega) hn hr
     obtain⟨p,p1,p2,p3⟩:=h.pl _ (by omega) n1
     obtain⟨q,q1,q2,q3⟩:=h.pl _ (by omega) n2
     rw[hsub _ (by omega),hsub _ (by omega)]
     exact⟨⟨p,p1,by rw[h.all];exact p2,p3⟩,q,q1,by rw[h.all];exact q2,q3⟩)
    have hfs:=run_fol_snoc ts cs (movedS pl (sts.getD i st0)) out [] (by simpa using h.all)
    rw[if_pos hmv.1,hmv.2,<-ok2]at hfs
    have hM:Mv ts cs ss nd (i+1) (pl.set i (out.length:Int)) (out++[movedS pl (sts.getD i st0)]):=by
     refine⟨?_,?_,fun j hj hjn=>?_,fun j hj hjn=>?_⟩
     ·rw[hfs,List.length_append,List.length_append,h.all];rfl
     ·rw[List.length_append,List.length_singleton];have:=h.le;omega
     ·rw[hfs]
      by_cases ej:j=i
      ·subst ej
       refine⟨out.length,?_,by simp,?_⟩
       ·rw[List.getD_eq_getElem?_getD,List.getElem?_set,if_pos rfl,if_pos (by omega)];rfl
       ·rw[<-h.all,List.getD_eq_getElem?_getD,List.getElem?_append_right (Nat.le_refl _)]
        simp
      ·obtain⟨q,q1,q2,q3⟩:=h.pl j (by omega) hjn
       refine⟨q,?_,by rw[List.length_append];omega,?_⟩
       ·rw[List.getD_eq_getElem?_getD,List.getElem?_set,if_neg (fun e=>ej e.symm),<-List.getD_eq_getElem?_getD]
        exact q1
       ·rw[List.getD_eq_getElem?_getD,List.getElem?_append_left (by rw[h.all];exact q2),<-List.getD_eq_getElem?_getD]
        exact q3
     ·have:j=i:=by omega
      subst this
      refine⟨by simp,?_⟩
      rw[hfs,lastS_snoc]
    exact up_ok hl hN hlow hcut hok d (i+1) _ _ (by omega) (by rw[List.length_set];exact hp) hM
   ·rw[if_neg hn]
    have hM:Mv ts cs ss nd (i+1) pl out:=by
     refine⟨h.all,by have:=h.le;omega,fun j hj hjn=>?_,fun j hj hjn=>?_⟩
     ·by_cases ej:j=i
      ·subst ej;exact absurd hjn hn
      ·exact h.pl j (by omega) hjn
     ·have:j=i:=by omega
      subst this
      exact absurd hjn hn
    exact up_ok hl hN hlow hcut hok d (i+1) _ _ (by omega) hp hM
theorem upTo_ok{E:Env}{ts:List Tm}{cs:List Cl}(hE:EnvAll E ts cs){P:Pf}(hP:PfOk E P)(hm:P.ss.length<=stepsMax){k:Nat}(hk:k < P.ss.length) :
 ∃ out,upToP P.sts k=some out/\(followL ts cs out []).length=out.length/\out.length<=k+1/\out≠[]/\lastS (followL ts cs out [])=clOf P k:=by
 have hok:∀ i,i < P.ss.length->nextB ts cs (P.ss.take i) (P.sts.getD i st0)=true/\P.ss.getD i (0,0)=nextS ts cs (P.ss.take i) (P.sts.getD i st0):=by
  intro i hi
  have:=hP.ok i hi
  rw[hE.ok,hE.go]at this
  exact this
 have hlow:CutLow P.sts (k+1):=by
  intro j hj hr
  have h1:=nextX_low (hok j (by omega)).1 hr
  rw[List.length_take,Nat.min_eq_left (by omega)]at h1
  exact h1
 unfold upToP
 rw[if_pos (by rw[hP.len];simp[hk,hm])]
 obtain⟨nd,n1,n2,n3,n4⟩:=need_ok hlow (k+1) ((List.replicate (k+1) false).set k true) (Nat.le_refl _) (by simp) (fun j h1 h2=>absurd h1 (by omega))
 rw[n1,Option.bind_some]
 have hz:(zeros (k+1)).length=k+1:=zeros_length _
 obtain⟨out,pl,u1,u2⟩:=up_ok hP.len (by omega:k+1<=P.ss.length) hlow n4 hok (k+1) 0 (zeros (k+1)) [] (by omega) hz ⟨rfl,by simp,(fun j hj=>absurd hj (by omega)),(fun j hj=>absurd hj (by omega))⟩
 rw[List.drop_zero]at u1
 obtain⟨l1,l2⟩:=u2.last k rfl (n3 k (set_true.2 (.inl ⟨rfl,by simp⟩)))
 exact⟨out,u1,u2.all,u2.le,l1,l2⟩
structure SolOk (ts:List Tm) (cs:List Cl) (b:Bool) (cls:List Int) (sts:List St):Prop where
 yes:b=true->cls.length=ts.length/\Rg cls/\soundB ts cls=true/\allHoldB cls cs=true/\sts=[]
 no:b=false->cls=[]/\sts≠[]/\(followL ts cs sts []).length=sts.length/\emptyB (lastS (followL ts cs sts [])).1 (lastS (followL ts cs sts [])).2=true
 len:sts.length+3<=stepsMax
theorem solve_some{ts:List Tm}{cs:List Cl}(hr:refuseI ts cs=0):∃ b cls sts,Sol ts cs b cls sts/\SolOk ts cs b cls sts:=by
 obtain⟨hts,hcl⟩:=of_refuse hr
 have hE:=envOf_all ts cs
 have h16:=(clausesIn_of hcl).1
 have hmax:stepsMax=3518437208883:=rfl
 have hB0:Begun (envOf ts cs) ts cs [] [] (0,0) pf0:=by
  refine⟨⟨rfl,by simp[pf0],fun i hi=>by simp[pf0]at hi⟩,(fun k hk=>by cases hk),(fun i hi=>by cases hi),fun t _ hh=>?_,by simp[pf0],rfl⟩
  rw[has_zero]at hh
  cases hh
 obtain⟨kn,st,P,s1,s2⟩:=start_ok hE hts hcl (List.range cs.length) [] [] (0,0) pf0 hB0 (fun i hi=>List.mem_range.1 hi) (by simp;exact h16)
 obtain⟨hcx,hinv,hlow⟩:=begun_cx hE rfl hts hcl s2 (fun i hi=>by simpa using hi)
 have hlen:=s2.len
 have hkl:=s2.kl
 rw[List.nil_append,List.length_range]at hlen hkl
 have hphi:phi ts (pairsOf st).length (sr0 kn (pairsOf st) P).row<=270463855:=by
  show phi ts (pairsOf st).length []<=_
  unfold phi
  rw[psi_nil,Nat.add_zero,<-bnd_top]
  exact bnd_le (by have:=pairs_len st;simp;omega) (by have:=rkC_lt9 hts (eqsOf []);omega) (by omega)
 obtain⟨o,S,r1,r2,r3,r4,r5⟩:=(run_ok hcx (200*phi ts (pairsOf st).length (sr0 kn (pairsOf st) P).row+((pairsOf st).length - (sr0 kn (pairsOf st) P).row.length)+1)).2 (sr0 kn (pairsOf st) P) hinv
  ⟨by have e1:(sr0 kn (pairsOf st) P).P=P:=rfl;rw[e1];omega,by have e1:(sr0 kn (pairsOf st) P).kn=kn:=rfl;rw[e1];omega,Nat.le_refl _⟩
 cases o with
 | none=>
   obtain⟨e1,e2⟩:=r4 rfl
   obtain⟨c1,c2,c3,c4,c5⟩:=clsF_close hts (hcx.eqs_in r2.rw)
   exact⟨true,clsF ts (eqsOf S.row),[],⟨_,kn,st,P,none,S,s1,pairs_len st,hlow,r1,(fun _ e=>by cases e),fun _=>rfl,rfl,rfl⟩,
    ⟨fun _=>⟨c1,c2,c3,end_holds hcx r2 e1 e2,rfl⟩,(fun e=>by cases e),by simp[stepsMax]⟩⟩
 | some k=>
   obtain⟨e1,e2⟩:=r5 k rfl
   obtain⟨out,u1,u2,u3,u4,u5⟩:=upTo_ok hE r2.pf (by omega) e1
   refine⟨false,[],out,⟨_,kn,st,P,some k,S,s1,pairs_len st,hlow,r1,(fun j e=>?_),(fun e=>by cases e),rfl,rfl⟩,⟨(fun e=>by cases e),fun _=>⟨rfl,u4,u2,by rw[u5];exact e2⟩,by omega⟩⟩
   injection e with e
   subst e
   exact u1
theorem no_model{ts:List Tm}{cs:List Cl}(hts:termsB ts=true)(hcl:clausesB ts.length cs=true){sts:List St}(h0:sts≠[])(hl:(followL ts cs sts []).length=sts.length)(he:emptyB (lastS (followL ts cs sts [])).1 (lastS (followL ts cs sts [])).2=true)
 (c:List Int):soundB ts c=true->allHoldB c cs=true->False:=by
 intro h1 h2
 have hne:followL ts cs sts []≠[]:=fun e=>by
  rw[e]at hl
  exact h0 (List.eq_nil_of_length_eq_zero hl.symm)
 have hm:lastS (followL ts cs sts [])∈followL ts cs sts []:=by
  rcases lastS_mem (L:=followL ts cs sts [])with h | h
  ·unfold lastS
   rw[List.getLastD_eq_getLast?]
   cases hq:(followL ts cs sts []).getLast? with
   | none=>exact absurd (List.getLast?_eq_none_iff.1 hq) hne
   | some p=>exact List.mem_of_getLast? hq
  ·exact h
 obtain⟨t,_,ht,_⟩:=(run_follow_sure hts hcl sts [] (fun p hp=>by cases hp) (fun _ _ _ p hp=>by cases hp) _ hm).2 c h1 h2
 unfold emptyB at he
 simp only[Bool.and_eq_true,decide_eq_true_eq]at he
 rw[he.1,he.2,has_zero]at ht
 cases ht
end Go.Proofs.YtjebhhoibofmfaaGreat
