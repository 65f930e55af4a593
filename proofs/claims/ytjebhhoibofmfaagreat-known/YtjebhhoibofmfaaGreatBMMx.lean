import Derived.Test.YtjebhhoibofmfaaGreatBMWy
import Derived.Test.YtjebhhoibofmfaaGreatBMWi
import Derived.Test.YtjebhhoibofmfaaGreatBMSw
namespace Go.Proofs.YtjebhhoibofmfaaGreat
theorem link1_ok{ts:List Tm}{ps:List Pr}(hp:PairsIn ps ts.length):∀(d k:Nat) (L:List Pr),d=ps.length - k->k<=ps.length->CI ts ps (mksOf ts.length L) k->JL ts ps (mksOf ts.length L) L ->
 ∃ L',link1 ts.length (ps.drop k) L=L'/\CI ts ps (mksOf ts.length L') ps.length/\JL ts ps (mksOf ts.length L') L'
 | 0,k,L,hd,hk,hc,hj=>by
   have e:k=ps.length:=by omega
   subst e
   rw[List.drop_length]
   exact⟨L,rfl,hc,hj⟩
 | d+1,k,L,hd,hk,hc,hj=>by
   have hlt:k < ps.length:=by omega
   obtain⟨⟨b1,b2⟩,b3,b4⟩:=hp.2 k hlt
   obtain⟨nx,hnx⟩:=Int.eq_ofNat_of_zero_le b1
   obtain⟨ny,hny⟩:=Int.eq_ofNat_of_zero_le b3
   have hdr:ps.drop k=ps.getD k pr0 :: ps.drop (k+1):=by
    rw[List.drop_eq_getElem_cons hlt,List.getD_eq_getElem?_getD,List.getElem?_eq_getElem hlt,Option.getD_some]
   have hpk:ps.getD k pr0=⟨nx,ny⟩:=by
    rw[<-hnx,<-hny]
   rw[hdr,link1]
   by_cases he:(mksOf ts.length L).getD nx 0=(mksOf ts.length L).getD ny 0
   ·rw[if_pos (by rw[hnx,hny];simpa using he)]
    exact link1_ok hp d (k+1) L (by omega) (by omega) (hc.same hnx hny he) hj
   ·rw[if_neg (by rw[hnx,hny];simpa using he)]
    have h1:=hc.pair hp hlt hnx hny
    have h2:=hj.snoc hc (i:=nx) (j:=ny) (by omega) (by omega) he (.inl ⟨k,hlt,hpk⟩)
    have e1:mksOf ts.length (L++[⟨nx,ny⟩])=joinL (mksOf ts.length L) ((mksOf ts.length L).getD nx 0) ((mksOf ts.length L).getD ny 0):=by rw[mksOf_snoc,joinP_nat]
    rw[hpk]
    exact link1_ok hp d (k+1) (L++[⟨nx,ny⟩]) (by omega) (by omega) (by rw[e1];exact h1) (by rw[e1];exact h2)
theorem rowF_some{ts:List Tm}{m:List Int}{i a b:Nat}(h:rowF ts m i=some (a,b)):a=i/\b < i/\forcedB ts m i b=true:=by
 unfold rowF at h
 rw[Option.map_eq_some_iff]at h
 obtain⟨j,hj,e⟩:=h
 injection e with e1 e2
 subst e1
 subst e2
 exact⟨rfl,List.mem_range.1 (List.mem_of_find?_eq_some hj),List.find?_some hj⟩
theorem firstF_is{ts:List Tm}{m:List Int}{i j:Nat}(h:firstF ts m=some (i,j)):j < i/\i < ts.length/\forcedB ts m i j=true:=by
 unfold firstF at h
 obtain⟨x,hx,e⟩:=List.exists_of_findSome?_eq_some h
 obtain⟨rfl,h2,h3⟩:=rowF_some e
 exact⟨h2,List.mem_range.1 hx,h3⟩
theorem firstF_not{ts:List Tm}{m:List Int}(h:firstF ts m=none):soundB ts m=true:=by
 unfold firstF at h
 rw[List.findSome?_eq_none_iff]at h
 refine soundB_yes (fun i j hj hi=>?_)
 have h1:=h i (List.mem_range.2 hi)
 unfold rowF at h1
 rw[Option.map_eq_none_iff,List.find?_eq_none]at h1
 have:=h1 j (List.mem_range.2 hj)
 simpa using this
theorem link2_ok{ts:List Tm}{ps:List Pr}(hin:ArgsIn ts ts.length)(hp:PairsIn ps ts.length):∀(f:Nat) (L:List Pr),marksN ts.length (mksOf ts.length L) < f->CI ts ps (mksOf ts.length L) ps.length->JL ts ps (mksOf ts.length L) L ->
 ∃ L',link2 ts f L=some L'/\CI ts ps (mksOf ts.length L') ps.length/\JL ts ps (mksOf ts.length L') L'/\soundB ts (mksOf ts.length L')=true
 | 0,L,hm,_,_=>absurd hm (by omega)
 | f+1,L,hm,hc,hj=>by
   unfold link2
   cases hf:firstF ts (mksOf ts.length L)with
   | none=>exact⟨L,rfl,hc,hj,firstF_not hf⟩
   | some r=>
     obtain⟨i,j⟩:=r
     obtain⟨h1,h2,h3⟩:=firstF_is hf
     obtain⟨n1,n2⟩:=hc.forced hp (Nat.le_refl _) hin h1 h2 h3
     have h4:=h3
     simp only[forcedB,Bool.and_eq_true,Bool.not_eq_true',decide_eq_false_iff_not]at h4
     have h5:=hj.snoc hc h2 (by omega) h4.1 (.inr ⟨h1,h4.2⟩)
     have e1:mksOf ts.length (L++[⟨i,j⟩])=joinL (mksOf ts.length L) ((mksOf ts.length L).getD i 0) ((mksOf ts.length L).getD j 0):=by rw[mksOf_snoc,joinP_nat]
     exact link2_ok hin hp f (L++[⟨i,j⟩]) (by rw[e1];omega) (by rw[e1];exact n1) (by rw[e1];exact h5)
theorem linksF_ok{ts:List Tm}{ps:List Pr}(hts:termsB ts=true)(hp:PairsIn ps ts.length) :
 LinksOk ts ps (linksF ts ps)/\(linksF ts ps).length<=9/\CI ts ps (mksOf ts.length (linksF ts ps)) ps.length/\soundB ts (mksOf ts.length (linksF ts ps))=true:=by
 have h9:=(len_of hts).2
 have hin:=argsIn_of hts (Nat.le_refl _)
 obtain⟨L1,e1,c1,j1⟩:=link1_ok hp ps.length 0 [] rfl (Nat.zero_le _) (CI.start ts ps) (JL.start ts ps)
 have hm:=marksN_le ts.length (mksOf ts.length L1)
 obtain⟨L2,e2,c2,j2,s2⟩:=link2_ok hin hp 20 L1 (by omega) c1 j1
 have e:linksF ts ps=L2:=by
  unfold linksF
  rw[List.drop_zero]at e1
  rw[e1,e2]
  rfl
 rw[e]
 exact⟨j2.1,by have:=j2.2.2;omega,c2,s2⟩
def clsF(ts:List Tm)(ps:List Pr):List Int:=clsAll (mksOf ts.length (linksF ts ps))
theorem clsF_close{ts:List Tm}{ps:List Pr}(hts:termsB ts=true)(hp:PairsIn ps ts.length):CloseOf ts ps (clsF ts ps):=by
 obtain⟨_,_,hc,hs⟩:=linksF_ok hts hp
 exact closeOf_cls (len_of hts).2 hc.1 (argsIn_of hts (Nat.le_refl _)) hp hs (allB_yes hc.2.2.2) hc.2.2.1
theorem clsF_conn{ts:List Tm}{ps:List Pr}(hts:termsB ts=true)(hp:PairsIn ps ts.length){a b:Nat}(ha:a < ts.length)(hb:b < ts.length):eqB (clsF ts ps) a b=true↔conn (natL (linksF ts ps)) a b=true:=by
 obtain⟨hl,_,hc,hs⟩:=linksF_ok hts hp
 rw[conn_mks _ _ rfl hl.in a b ha hb,eqB_iff]
 have h:=clsAll_coarser (mksOf ts.length (linksF ts ps))
 rw[mksOf_length]at h
 simp only[Int.toNat_natCast]
 exact⟨h.2 a b ha hb,h.1 a b ha hb⟩
theorem why_ok{E:Env}{ts:List Tm}{cs:List Cl}(hE:EnvAll E ts cs)(hfu:E.fu=6000)(hts:termsB ts=true){ps:List Pr}(hp:PairsIn ps ts.length){P:Pf}(hP:PfOk E P)(hroom:P.ss.length+243<=stepsMax){a b:Nat}(ha:a < ts.length)(hb:b < ts.length)
 (hab:eqB (clsF ts ps) a b=true) (hn:hasS (prSet ps).1 (prSet ps).2 ⟨a,b,false⟩=false) :
 ∃ k P' T,whyP E P ps a b=some (k,P')/\PfOk E P'/\Gr T P P'/\P'.ss.length<=P.ss.length+243/\k < P'.ss.length/\Res (prSet ps) a b (clOf P' k):=by
 obtain⟨hl,h9,hc,hs⟩:=linksF_ok hts hp
 have hwz:=hl.wz hts h9
 have hcn:=(clsF_conn hts hp ha hb).1 hab
 have htab:=tabC_length (ts:=ts) (M:=natL (linksF ts ps)) (pr:=prSet ps) (len_of hts).2
 have hm:mea (natL (linksF ts ps)) a b < 6000:=by
  unfold mea
  have h1:=age_le (natL (linksF ts ps)) a b
  have h2:=dist_lt (natL (linksF ts ps)) a b
  have h3:2 ^ (natL (linksF ts ps)).length<=2 ^ 9:=Nat.pow_le_pow_right (by omega) hwz.nine
  have:=hwz.nine
  omega
 obtain⟨k,P',e,hP',hG,hk,hcl⟩:=hwz.eq_some hE.toEnvOf (P0:=P) (by omega) 6000 a b P ha hb hcn hn hm hP (Gr.refl _ _)
 refine⟨k,P',_,?_,hP',hG,?_,hk,?_⟩
 ·unfold whyP
  rw[hE.lk,hfu]
  exact e
 ·have:=hG.bound hP'.nd
  omega
 ·rw[hcl]
  exact hwz.res 6000 a b ha hb hcn hn hm
end Go.Proofs.YtjebhhoibofmfaaGreat
namespace Go.Proofs.YtjebhhoibofmfaaGreat
def nextRow(l:List Nat):List Nat:=1 :: List.zipWith (·+·) l l.tail
def rowB:Nat->List Nat
 | 0=>List.replicate 9 1
 | p+1=>nextRow (rowB p)
def bnd(p r:Nat):Nat:=(rowB p).getD r 0
theorem rowB_length:∀ p,(rowB p).length=9
 | 0=>by simp[rowB]
 | p+1=>by
   have:=rowB_length p
   simp[rowB,nextRow,List.length_zipWith,this]
theorem bnd_zero{r:Nat}(h:r < 9):bnd 0 r=1:=by
 unfold bnd rowB
 rw[List.getD_eq_getElem?_getD,List.getElem?_replicate]
 simp[h]
theorem bnd_p_zero:∀ p,bnd p 0=1
 | 0=>bnd_zero (by omega)
 | p+1=>by simp[bnd,rowB,nextRow]
theorem bnd_step{p r:Nat}(h:r+1 < 9):bnd (p+1) (r+1)=bnd p r+bnd p (r+1):=by
 have hl:=rowB_length p
 unfold bnd
 rw[rowB,nextRow]
 simp only[List.getD_eq_getElem?_getD,List.getElem?_cons_succ,List.getElem?_zipWith,List.getElem?_tail]
 rw[List.getElem?_eq_getElem (by omega:r < (rowB p).length),List.getElem?_eq_getElem (by omega:r+1 < (rowB p).length)]
 simp
theorem bnd_pos:∀ {p r:Nat},r < 9->1<=bnd p r
 | 0,r,h=>by rw[bnd_zero h];exact Nat.le_refl _
 | p+1,0,h=>by rw[bnd_p_zero];exact Nat.le_refl _
 | p+1,r+1,h=>by
   rw[bnd_step h]
   have:=bnd_pos (p:=p) (r:=r) (by omega)
   omega
theorem bnd_mono_p{p r:Nat}(h:r < 9):bnd p r<=bnd (p+1) r:=by
 cases r with
 | zero=>rw[bnd_p_zero,bnd_p_zero];exact Nat.le_refl _
 | succ r=>rw[bnd_step h];omega
theorem bnd_mono_r:∀ {p r:Nat},r+1 < 9->bnd p r<=bnd p (r+1)
 | 0,r,h=>by rw[bnd_zero (by omega),bnd_zero h];exact Nat.le_refl _
 | p+1,0,h=>by rw[bnd_p_zero];exact bnd_pos h
 | p+1,r+1,h=>by
   rw[bnd_step (by omega),bnd_step h]
   have h1:=bnd_mono_r (p:=p) (r:=r) (by omega)
   have h2:=bnd_mono_r (p:=p) (r:=r+1) h
   omega
theorem bnd_le{p q r s:Nat}(hp:p<=q)(hr:r<=s)(hs:s < 9):bnd p r<=bnd q s:=by
 have h1:∀ d,p+d<=q->bnd p r<=bnd (p+d) r:=by
  intro d
  induction d with
  | zero=>intro _;exact Nat.le_refl _
  | succ d ih=>intro hd;exact Nat.le_trans (ih (by omega)) (bnd_mono_p (by omega))
 have h2:∀ d,r+d<=s->bnd q r<=bnd q (r+d):=by
  intro d
  induction d with
  | zero=>intro _;exact Nat.le_refl _
  | succ d ih=>intro hd;exact Nat.le_trans (ih (by omega)) (bnd_mono_r (by omega))
 have h3:=h1 (q - p) (by omega)
 have h4:=h2 (s - r) (by omega)
 rw[show p+(q - p)=q by omega]at h3
 rw[show r+(s - r)=s by omega]at h4
 exact Nat.le_trans h3 h4
theorem bnd_top:bnd 45 8=270463855:=by decide +kernel
def cntF(n:Nat)(c:List Int):Nat:=(List.range n).countP (isFirst c)
theorem cntF_le{n:Nat}{c d:List Int}(h:Coarser n c d):cntF n d<=cntF n c:=by
 refine List.countP_mono_left (fun x hx hd=>?_)
 rw[isFirst_iff]at *
 intro s hs e
 have:=List.mem_range.1 hx
 exact hd s hs (h s x (by omega) this e)
theorem cntF_lt{n:Nat}{c d:List Int}(h:Coarser n c d){a b:Nat}(ha:a < n)(hb:b < n)(hc:c.getD a 0≠c.getD b 0)(hd:d.getD a 0=d.getD b 0):cntF n d < cntF n c:=by
 obtain⟨fa,fa1,fa2,fa3⟩:=firstOf_ex c a
 obtain⟨fb,fb1,fb2,fb3⟩:=firstOf_ex c b
 have hne:fa≠fb:=fun e=>hc (by rw[<-fa2,e,fb2])
 have hdf:d.getD fa 0=d.getD fb 0:=by
  rw[h fa a (by omega) ha fa2,h fb b (by omega) hb fb2,hd]
 have fst:∀ {x f:Nat},f<=x->c.getD f 0=c.getD x 0->(∀ s,s < f->c.getD s 0≠c.getD x 0)->isFirst c f=true:=by
  intro x f _ h2 h3
  rw[isFirst_iff]
  intro s hs e
  exact h3 s hs (e.trans h2)
 have hmono:∀ x∈List.range n,isFirst d x=true->isFirst c x=true:=by
  intro x hx hd'
  rw[isFirst_iff]at *
  intro s hs e
  have:=List.mem_range.1 hx
  exact hd' s hs (h s x (by omega) this e)
 rcases Nat.lt_or_gt_of_ne hne with hlt | hlt
 ·refine countP_lt hmono (y:=fb) (List.mem_range.2 (by omega)) (fst fb1 fb2 fb3) ?_
  cases hq:isFirst d fb
  ·rfl
  ·rw[isFirst_iff]at hq;exact absurd hdf (hq fa hlt)
 ·refine countP_lt hmono (y:=fa) (List.mem_range.2 (by omega)) (fst fa1 fa2 fa3) ?_
  cases hq:isFirst d fa
  ·rfl
  ·rw[isFirst_iff]at hq;exact absurd hdf.symm (hq fb hlt)
theorem cntF_top(n:Nat)(c:List Int):cntF n c<=n:=by
 have:=List.countP_le_length (p:=isFirst c) (l:=List.range n)
 rwa [List.length_range]at this
theorem cntF_pos{n:Nat}{c:List Int}(h:0 < n):1<=cntF n c:=by
 unfold cntF
 refine List.countP_pos_iff.2 ⟨0,List.mem_range.2 h,?_⟩
 rw[isFirst_iff]
 intro s hs
 omega
def rkC(ts:List Tm)(ps:List Pr):Nat:=cntF ts.length (clsF ts ps) - 1
theorem pairsHold_sub{ps qs:List Pr}{d:List Int}(hs:∀ p∈ps,p∈qs)(h:pairsHold d qs=true):pairsHold d ps=true:=by
 unfold pairsHold at *
 refine allB_yes (fun t ht=>?_)
 have hm:ps.getD t pr0∈ps:=by rw[List.getD_eq_getElem?_getD,List.getElem?_eq_getElem ht,Option.getD_some];exact List.getElem_mem ht
 obtain⟨i,hi,e⟩:=List.getElem_of_mem (hs _ hm)
 have:=allB_iff.1 h i hi
 rw[List.getD_eq_getElem?_getD,List.getElem?_eq_getElem hi,Option.getD_some,e]at this
 exact this
theorem pairsHold_mem{ps:List Pr}{d:List Int}(h:pairsHold d ps=true){p:Pr}(hp:p∈ps):eqB d p.x p.y=true:=by
 obtain⟨i,hi,e⟩:=List.getElem_of_mem hp
 have:=allB_iff.1 h i hi
 rw[List.getD_eq_getElem?_getD,List.getElem?_eq_getElem hi,Option.getD_some,e]at this
 exact this
theorem clsF_mono{ts:List Tm}{ps qs:List Pr}(hts:termsB ts=true)(hp:PairsIn ps ts.length)(hq:PairsIn qs ts.length)(hs:∀ p∈ps,p∈qs):Coarser ts.length (clsF ts ps) (clsF ts qs):=by
 obtain⟨_,_,_,_,hf⟩:=clsF_close hts hp
 obtain⟨l1,_,l3,l4,_⟩:=clsF_close hts hq
 exact fun a b ha hb e=>hf _ l1 l3 (pairsHold_sub hs l4) a b ha hb e
theorem rkC_mono{ts:List Tm}{ps qs:List Pr}(hts:termsB ts=true)(hp:PairsIn ps ts.length)(hq:PairsIn qs ts.length)(hs:∀ p∈ps,p∈qs):rkC ts qs<=rkC ts ps:=by
 have:=cntF_le (clsF_mono hts hp hq hs)
 unfold rkC
 omega
theorem rkC_lt{ts:List Tm}{ps qs:List Pr}(hts:termsB ts=true)(hp:PairsIn ps ts.length)(hq:PairsIn qs ts.length)(hs:∀ p∈ps,p∈qs){a b:Nat}(ha:a < ts.length)(hb:b < ts.length)(h1:eqB (clsF ts ps) a b=false)(h2:eqB (clsF ts qs) a b=true):rkC ts qs+1<=rkC ts ps:=by
 have h3:(clsF ts ps).getD a 0≠(clsF ts ps).getD b 0:=fun e=>by
  have:eqB (clsF ts ps) a b=true:=eqB_iff.2 (by simpa using e)
  rw[h1]at this;cases this
 have h4:(clsF ts qs).getD a 0=(clsF ts qs).getD b 0:=by have:=eqB_iff.1 h2;simpa using this
 have h5:=cntF_lt (clsF_mono hts hp hq hs) ha hb h3 h4
 have h6:=cntF_pos (c:=clsF ts qs) (n:=ts.length) (by omega)
 unfold rkC
 omega
theorem rkC_lt9{ts:List Tm}(hts:termsB ts=true)(ps:List Pr):rkC ts ps < 9:=by
 have h1:=cntF_top ts.length (clsF ts ps)
 have h2:=(len_of hts).2
 have h3:=(len_of hts).1
 unfold rkC
 omega
end Go.Proofs.YtjebhhoibofmfaaGreat
namespace Go.Proofs.YtjebhhoibofmfaaGreat
theorem upL_high(ws:List Nat):∀(f:Nat) (ns:List Nat) (j k:Nat),j < k->k < ns.length->(upL ws f ns j).getD k 0=ns.getD k 0
 | 0,ns,_,_,_,_=>rfl
 | f+1,ns,j,k,hj,hk=>by
   rw[upL]
   split
   ·rfl
   ·rw[upL_high ws f _ _ k (by omega) (by rw[swapL_length];exact hk),swapL_get ns (by omega) (by omega) hk,if_neg (by omega),if_neg (by omega)]
theorem downL_high(ws:List Nat):∀(f:Nat) (ns:List Nat) (i n k:Nat),n<=k->i < n->k < ns.length->(downL ws f ns i n).1.getD k 0=ns.getD k 0
 | 0,ns,_,_,_,_,_,_=>rfl
 | f+1,ns,i,n,k,hn,hi,hk=>by
   rw[downL]
   split
   ·rfl
   ·rename_i hc
    have hlt:2*i+1 < n:=by
     have:¬ n<=2*i+1:=fun e=>hc (.inl e)
     omega
    have hch:=childL_lt ws ns i n hlt
    rw[downL_high ws f _ _ n k hn hch.1 (by rw[swapL_length];exact hk),swapL_get ns (by omega) (by omega) hk,if_neg (by omega),if_neg (by omega)]
theorem remL_last(ws ns:List Nat)(i:Nat)(hi:i < ns.length):(remL ws ns i).getD (ns.length - 1) 0=ns.getD i 0:=by
 unfold remL
 split
 ·rename_i e;rw[e]
 ·rename_i hne
  have hs:(swapL ns i (ns.length - 1)).length=ns.length:=swapL_length _ _ _
  have h1:(downL ws (ns.length - 1 - i+1) (swapL ns i (ns.length - 1)) i (ns.length - 1)).1.getD (ns.length - 1) 0=ns.getD i 0:=by
   rw[downL_high ws _ _ _ _ _ (Nat.le_refl _) (by omega) (by omega),swapL_get ns hi (by omega) (by omega),if_pos rfl]
  unfold setL
  split
  ·exact h1
  ·rw[upL_high ws _ _ _ _ (by omega) (by rw[downL_length _ _ _ _ _ (by omega)];omega)]
   exact h1
theorem take_mem{l ns:List Nat}(hp:l.Perm ns)(hn:ns.Nodup)(hne:ns≠[]):(l.take (ns.length - 1)).Nodup/\l.getD (ns.length - 1) 0∈ns/\∀ i,i∈l.take (ns.length - 1)↔i∈ns/\i≠l.getD (ns.length - 1) 0:=by
 have hpos:0 < ns.length:=List.length_pos_iff.2 hne
 have hl:l.length=ns.length - 1+1:=by rw[hp.length_eq];omega
 have hs:=split_last hl
 have hnd:l.Nodup:=hp.nodup_iff.2 hn
 generalize l.getD (ns.length - 1) 0=x at *
 generalize l.take (ns.length - 1)=t at *
 subst hs
 rw[List.nodup_append]at hnd
 refine⟨hnd.1,hp.mem_iff.1 (by simp),fun i=>?_⟩
 rw[<-hp.mem_iff]
 constructor
 ·intro hi
  exact⟨by simp[hi],fun e=>hnd.2.2 i hi x (by simp) e⟩
 ·rintro⟨hi,hx⟩
  simpa[hx] using hi
theorem leave_mem{ws ns:List Nat}(hn:ns.Nodup)(x:Nat):(leaveL ws ns x).Nodup/\∀ i,i∈leaveL ws ns x↔i∈ns/\i≠x:=by
 unfold leaveL
 by_cases hx:x∈ns
 ·rw[if_pos hx]
  have hi:=List.idxOf_lt_length_iff.2 hx
  have hne:ns≠[]:=List.ne_nil_of_mem hx
  obtain⟨h1,_,h3⟩:=take_mem (remL_perm ws ns (ns.idxOf x) hi) hn hne
  have hl:=remL_last ws ns (ns.idxOf x) hi
  have hg:ns.getD (ns.idxOf x) 0=x:=by rw[List.getD_eq_getElem?_getD,List.getElem?_eq_getElem hi,Option.getD_some];exact List.getElem_idxOf hi
  rw[hl,hg]at h3
  exact⟨h1,h3⟩
 ·rw[if_neg hx]
  exact⟨hn,fun i=>⟨fun h=>⟨h,fun e=>hx (e ▸ h)⟩,fun h=>h.1⟩⟩
theorem return_mem{ws ns:List Nat}(hn:ns.Nodup)(x:Nat):(returnL ws ns x).Nodup/\∀ i,i∈returnL ws ns x↔i∈ns\/i=x:=by
 unfold returnL
 by_cases hx:x∈ns
 ·rw[if_pos hx]
  exact⟨hn,fun i=>⟨fun h=>.inl h,fun h=>h.elim id (fun e=>e ▸ hx)⟩⟩
 ·rw[if_neg hx]
  have hp:(pushL ws ns x).Perm (ns++[x]):=upL_perm ws _ _ _ (by simp)
  refine⟨hp.nodup_iff.2 ?_,fun i=>?_⟩
  ·rw[List.nodup_append]
   exact⟨hn,by simp,fun a ha b hb=>by simp at hb;rw[hb];exact fun e=>hx (e ▸ ha)⟩
  ·rw[hp.mem_iff];simp
theorem grow_mem(sh:Nat):∀(met ws ns:List Nat),ns.Nodup->(growL sh met ws ns).2.Nodup/\∀ i,i∈(growL sh met ws ns).2↔i∈ns
 | [],ws,ns,hn=>⟨hn,fun _=>Iff.rfl⟩
 | x :: xs,ws,ns,hn=>by
   unfold growL
   by_cases hx:x∈ns
   ·rw[if_pos hx]
    have hp:=setL_perm (ws.set x (addF (ws.getD x 0) sh)) ns (ns.idxOf x) ns.length (List.idxOf_lt_length_iff.2 hx) (Nat.le_refl _)
    obtain⟨h1,h2⟩:=grow_mem sh xs (ws.set x (addF (ws.getD x 0) sh)) _ (hp.nodup_iff.2 hn)
    exact⟨h1,fun i=>(h2 i).trans hp.mem_iff⟩
   ·rw[if_neg hx]
    exact grow_mem sh xs _ ns hn
structure Cx (E:Env) (ts:List Tm) (cs:List Cl) (prs:List Pr):Prop where
 hE:EnvAll E ts cs
 fu:E.fu=6000
 hts:termsB ts=true
 hcl:clausesB ts.length cs=true
 pr:∀ i,i < prs.length->∃ x y:Nat,prs.getD i pr0=⟨x,y⟩/\x<=y/\y < ts.length
 nd:∀ i j,i < prs.length->j < prs.length->prs.getD i pr0=prs.getD j pr0->i=j
 h45:prs.length<=45
theorem Cx.lit{E:Env}{ts:List Tm}{cs:List Cl}{prs:List Pr}(c:Cx E ts cs prs){i:Nat}(hi:i < prs.length)(n:Bool):∃ x y:Nat,litI prs i n=⟨x,y,n⟩/\x<=y/\y < ts.length/\litI prs i n∈allL 9:=by
 obtain⟨x,y,e,h1,h2⟩:=c.pr i hi
 have h9:=(len_of c.hts).2
 have e2:litI prs i n=⟨x,y,n⟩:=by unfold litI;rw[e]
 refine⟨x,y,e2,h1,h2,?_⟩
 rw[e2]
 exact allL_mem (by simp) (by simp;omega) (by simp;omega)
theorem Cx.inj{E:Env}{ts:List Tm}{cs:List Cl}{prs:List Pr}(c:Cx E ts cs prs){i j:Nat}(hi:i < prs.length)(hj:j < prs.length){n m:Bool}(h:litI prs i n=litI prs j m):i=j/\n=m:=by
 unfold litI at h
 injection h with h1 h2 h3
 refine⟨c.nd i j hi hj ?_,h3⟩
 generalize prs.getD i pr0=p at *
 generalize prs.getD j pr0=q at *
 cases p
 cases q
 simp_all
def RowW(prs:List Pr)(row:List En):Prop:=(∀ e∈row,e.pair < prs.length/\e.lit=litI prs e.pair e.lit.n)/\(row.map En.pair).Nodup
def TkOk(tk:Nat×Nat)(row:List En):Prop:=∀ t∈allL 9,hasS tk.1 tk.2 t=true↔∃ e∈row,e.lit=t
def QOk(prs:List Pr)(ns:List Nat)(row:List En):Prop:=ns.Nodup/\∀ i,i∈ns↔i < prs.length/\i ∉ row.map En.pair
def Den(row:List En)(t:Lt):Prop:=∃ e∈row,e.lit=conL t
def Reas(ts:List Tm)(P:Pf)(pre:List En)(e:En):Prop:=
 (e.reason=-1/\e.lit.n=true/\eqB (clsF ts (eqsOf pre)) e.lit.x e.lit.y=false)\/(e.reason=-2/\e.lit.n=false/\eqB (clsF ts (eqsOf pre)) e.lit.x e.lit.y=true) \/
 (∃ k:Nat,e.reason=k/\k < P.ss.length/\hasS (clOf P k).1 (clOf P k).2 e.lit=true/\∀ t∈allL 9,hasS (clOf P k).1 (clOf P k).2 t=true->t≠e.lit->Den pre t)
def ReasAll(ts:List Tm)(P:Pf)(row:List En):Prop:=∀ pre e post,row=pre++e :: post->Reas ts P pre e
def KnOk(cs:List Cl)(prs:List Pr)(P:Pf)(kn:List Nat):Prop:=
 (∀ k∈kn,k < P.ss.length/\∀ t∈allL 9,hasS (clOf P k).1 (clOf P k).2 t=true->∃ i,i < prs.length/\t=litI prs i t.n)/\∀ i,i < cs.length->∃ k∈kn,clOf P k=setG cs (givenS i)
theorem Reas.grow{ts:List Tm}{P P':Pf}{T:List (Nat×Nat)}{pre:List En}{e:En}(h:Reas ts P pre e)(hg:Gr T P P'):Reas ts P' pre e:=by
 rcases h with h | h | ⟨k,h1,h2,h3,h4⟩
 ·exact .inl h
 ·exact .inr (.inl h)
 ·obtain⟨e1,e2⟩:=hg.cl h2
  exact .inr (.inr ⟨k,h1,e2,by rw[e1];exact h3,by rw[e1];exact h4⟩)
theorem ReasAll.grow{ts:List Tm}{P P':Pf}{T:List (Nat×Nat)}{row:List En}(h:ReasAll ts P row)(hg:Gr T P P'):ReasAll ts P' row:=fun pre e post hr=>(h pre e post hr).grow hg
theorem KnOk.grow{cs:List Cl}{prs:List Pr}{P P':Pf}{T:List (Nat×Nat)}{kn:List Nat}(h:KnOk cs prs P kn)(hg:Gr T P P'):KnOk cs prs P' kn:=by
 refine⟨fun k hk=>?_,fun i hi=>?_⟩
 ·obtain⟨h1,h2⟩:=h.1 k hk
  obtain⟨e1,e2⟩:=hg.cl h1
  exact⟨e2,by rw[e1];exact h2⟩
 ·obtain⟨k,hk,h1⟩:=h.2 i hi
  obtain⟨e1,e2⟩:=hg.cl (h.1 k hk).1
  exact⟨k,hk,by rw[e1];exact h1⟩
theorem ReasAll.snoc{ts:List Tm}{P:Pf}{row:List En}{e:En}(h:ReasAll ts P row)(he:Reas ts P row e):ReasAll ts P (row++[e]):=by
 intro pre x post hr
 rcases List.eq_nil_or_concat post with hp | ⟨post',y,hp⟩
 ·subst hp
  have h1:=List.append_inj' hr rfl
  injection h1.2 with h2
  rw[<-h1.1,<-h2]
  exact he
 ·subst hp
  have hr':row++[e]=(pre++x :: post')++[y]:=by rw[hr];simp
  have h1:=List.append_inj' hr' rfl
  exact h pre x post' h1.1
theorem ReasAll.pop{ts:List Tm}{P:Pf}{row:List En}{e:En}(h:ReasAll ts P (row++[e])):ReasAll ts P row/\Reas ts P row e:=
 ⟨fun pre x post hr=>h pre x (post++[e]) (by rw[hr];simp),h row e [] rfl⟩
end Go.Proofs.YtjebhhoibofmfaaGreat
namespace Go.Proofs.YtjebhhoibofmfaaGreat
structure Inv (E:Env) (ts:List Tm) (cs:List Cl) (prs:List Pr) (S:Sr):Prop where
 pf:PfOk E S.P
 rw:RowW prs S.row
 tk:TkOk S.tk S.row
 q:QOk prs S.ns S.row
 re:ReasAll ts S.P S.row
 kn:KnOk cs prs S.P S.kn
theorem RowW.len{prs:List Pr}{row:List En}(h:RowW prs row):row.length<=prs.length:=by
 have:=nodup_len (T:=List.range prs.length) h.2 (fun x hx=>by
  obtain⟨e,he,rfl⟩:=List.mem_map.1 hx
  exact List.mem_range.2 (h.1 e he).1)
 simpa using this
theorem con_con(t:Lt):conL (conL t)=t:=by cases t;simp[conL]
theorem con_all{t:Lt}(h:t∈allL 9):conL t∈allL 9:=by
 obtain⟨h1,h2,h3⟩:=allL_low t h
 exact allL_mem h1 h2 h3
theorem con_lit(prs:List Pr)(i:Nat)(n:Bool):conL (litI prs i n)=litI prs i (!n):=rfl
section
variable {E:Env} {ts:List Tm} {cs:List Cl} {prs:List Pr}
theorem Cx.row_lit(c:Cx E ts cs prs){row:List En}(h:RowW prs row){e:En}(he:e∈row):e.lit∈allL 9/\LowL ts.length e.lit:=by
 obtain⟨h1,h2⟩:=h.1 e he
 obtain⟨x,y,e1,h3,h4,h5⟩:=c.lit h1 e.lit.n
 rw[h2]
 refine⟨h5,?_⟩
 rw[e1]
 exact⟨by simp,by simp;omega,by simp,by simp;omega⟩
theorem take_ok(c:Cx E ts cs prs){S:Sr}(hpf:PfOk E S.P)(hrw:RowW prs S.row)(htk:TkOk S.tk S.row)(hre:ReasAll ts S.P S.row)(hkn:KnOk cs prs S.P S.kn){i:Nat}(hi:i < prs.length)(hni:i ∉ S.row.map En.pair)
 (hq:S.ns.Nodup/\∀ j,j≠i->(j∈S.ns↔j < prs.length/\j ∉ S.row.map En.pair)) {n:Bool} {r:Int} (hr:Reas ts S.P S.row ⟨i,litI prs i n,r⟩) :
 ∃ S',takeP prs S i n r=some S'/\Inv E ts cs prs S'/\S'.row=S.row++[⟨i,litI prs i n,r⟩]/\S'.P=S.P/\S'.kn=S.kn:=by
 have hl:=hrw.len
 have h45:=c.h45
 unfold takeP
 rw[if_pos (by simp[hi];omega)]
 refine⟨_,rfl,⟨hpf,?_,?_,?_,hre.snoc hr,hkn⟩,rfl,rfl,rfl⟩
 ·refine⟨fun e he=>?_,?_⟩
  ·rcases List.mem_append.1 he with he | he
   ·exact hrw.1 e he
   ·simp at he
    subst he
    exact⟨hi,rfl⟩
  ·show((S.row++[_]).map En.pair).Nodup
   rw[List.map_append,List.nodup_append]
   exact⟨hrw.2,by simp,fun a ha b hb=>by simp at hb;rw[hb];exact fun e=>hni (e ▸ ha)⟩
 ·intro t ht
  obtain⟨x,y,e1,h3,h4,h5⟩:=c.lit hi n
  show hasS (withE S.tk.1 (litI prs i n)) (withA S.tk.2 (litI prs i n)) t=true↔_
  rw[with_has,one_norm (allL_lowL h5) ht,norm_self h5,Bool.or_eq_true,htk t ht,@decide_eq_true_eq (t=litI prs i n) (ltEq _ _)]
  constructor
  ·rintro(⟨e,he,h⟩ | h)
   ·exact⟨e,by simp[he],h⟩
   ·exact⟨_,List.mem_append.2 (.inr (List.mem_singleton.2 rfl)),h.symm⟩
  ·rintro⟨e,he,h⟩
   rcases List.mem_append.1 he with he | he
   ·exact .inl ⟨e,he,h⟩
   ·simp at he
    subst he
    exact .inr h.symm
 ·obtain⟨h1,h2⟩:=leave_mem (ws:=S.ws) hq.1 i
  refine⟨h1,fun j=>?_⟩
  show j∈leaveL S.ws S.ns i↔j < prs.length/\j ∉ (S.row++[_]).map En.pair
  rw[h2 j,List.map_append,List.mem_append]
  simp only[List.map_cons,List.map_nil,List.mem_singleton,not_or]
  constructor
  ·rintro⟨h3,h4⟩
   exact⟨((hq.2 j h4).1 h3).1,((hq.2 j h4).1 h3).2,h4⟩
  ·rintro⟨h3,h4,h5⟩
   exact⟨(hq.2 j h5).2 ⟨h3,h4⟩,h5⟩
theorem untake_ok(c:Cx E ts cs prs){S:Sr}(h:Inv E ts cs prs S){R:List En}{e:En}(hR:S.row=R++[e]) :
 ∃ S',untakeP S=some (e,S')/\Inv E ts cs prs S'/\S'.row=R/\S'.P=S.P/\S'.kn=S.kn/\Reas ts S.P R e:=by
 have hl:S.row.getLast?=some e:=by rw[hR];simp
 have hd:S.row.dropLast=R:=by rw[hR];simp
 unfold untakeP
 rw[hl,hd]
 have hrw:=h.rw
 have hre:=h.re
 have htk:=h.tk
 have hq:=h.q
 rw[hR]at hrw hre htk hq
 have hnd:=hrw.2
 rw[List.map_append,List.nodup_append]at hnd
 obtain⟨r1,r2⟩:=hre.pop
 have hrwR:RowW prs R:=⟨fun x hx=>hrw.1 x (by simp[hx]),hnd.1⟩
 have hel:=c.row_lit hrw (e:=e) (by simp)
 have hep:=hrw.1 e (by simp)
 refine⟨_,rfl,⟨h.pf,hrwR,?_,?_,r1,h.kn⟩,rfl,rfl,rfl,r2⟩
 ·intro t ht
  show hasS (woutE S.tk.1 e.lit) (woutA S.tk.2 e.lit) t=true↔_
  rw[wout_has,one_norm (allL_lowL hel.1) ht,norm_self hel.1,Bool.and_eq_true,htk t ht]
  simp only[Bool.not_eq_true',@decide_eq_false_iff_not (t=e.lit) (ltEq _ _)]
  constructor
  ·rintro⟨⟨x,hx,h1⟩,h2⟩
   rcases List.mem_append.1 hx with hx | hx
   ·exact⟨x,hx,h1⟩
   ·simp at hx
    subst hx
    exact absurd h1.symm h2
  ·rintro⟨x,hx,h1⟩
   refine⟨⟨x,by simp[hx],h1⟩,fun e2=>?_⟩
   have hxp:=hrw.1 x (by simp[hx])
   have h3:litI prs x.pair x.lit.n=litI prs e.pair e.lit.n:=by rw[<-hxp.2,<-hep.2,h1,e2]
   have h4:=(c.inj hxp.1 hep.1 h3).1
   exact hnd.2.2 x.pair (List.mem_map.2 ⟨x,hx,rfl⟩) e.pair (by simp) h4
 ·obtain⟨h1,h2⟩:=return_mem (ws:=S.ws) hq.1 e.pair
  refine⟨h1,fun j=>?_⟩
  show j∈returnL S.ws S.ns e.pair↔j < prs.length/\j ∉ R.map En.pair
  rw[h2 j,hq.2 j,List.map_append,List.mem_append]
  simp only[List.map_cons,List.map_nil,List.mem_singleton,not_or]
  constructor
  ·rintro(⟨h3,h4,_⟩ | rfl)
   ·exact⟨h3,h4⟩
   ·exact⟨hep.1,fun hx=>hnd.2.2 _ hx e.pair (by simp) rfl⟩
  ·rintro⟨h3,h4⟩
   by_cases h5:j=e.pair
   ·exact .inr h5
   ·exact .inl ⟨h3,h4,h5⟩
theorem eqs_mem{row:List En}{p:Pr}:p∈eqsOf row↔∃ e∈row,e.lit.n=false/\p=⟨e.lit.x,e.lit.y⟩:=by
 unfold eqsOf
 rw[List.mem_map]
 constructor
 ·rintro⟨e,he,rfl⟩
  obtain⟨h1,h2⟩:=List.mem_filter.1 he
  exact⟨e,h1,by simpa using h2,rfl⟩
 ·rintro⟨e,he,hn,rfl⟩
  exact⟨e,List.mem_filter.2 ⟨he,by simp[hn]⟩,rfl⟩
theorem Cx.eqs_in(c:Cx E ts cs prs){row:List En}(h:RowW prs row):PairsIn (eqsOf row) ts.length:=by
 have hl:=h.len
 have h45:=c.h45
 refine⟨?_,fun t ht=>?_⟩
 ·unfold eqsOf
  rw[List.length_map]
  have:=List.length_filter_le (fun e:En=>!e.lit.n) row
  omega
 ·have hm:(eqsOf row).getD t pr0∈eqsOf row:=by rw[List.getD_eq_getElem?_getD,List.getElem?_eq_getElem ht,Option.getD_some];exact List.getElem_mem ht
  obtain⟨e,he,_,e1⟩:=eqs_mem.1 hm
  rw[e1]
  have hl:=(c.row_lit h he).2
  exact⟨⟨hl.1,hl.2.1⟩,hl.2.2.1,hl.2.2.2⟩
theorem Cx.prSet_has(c:Cx E ts cs prs){row:List En}(h:RowW prs row){t:Lt}(ht:t∈allL 9)(hn:t.n=false):hasS (prSet (eqsOf row)).1 (prSet (eqsOf row)).2 t=true↔∃ e∈row,e.lit=t:=by
 unfold prSet
 rw[ofL_has,has_zero,Bool.false_or,List.any_eq_true]
 constructor
 ·rintro⟨u,hu,h1⟩
  obtain⟨p,hp,rfl⟩:=List.mem_map.1 hu
  obtain⟨e,he,hen,rfl⟩:=eqs_mem.1 hp
  have hel:=c.row_lit h he
  have e2:litP' ⟨e.lit.x,e.lit.y⟩=e.lit:=by
   cases hlit:e.lit
   simp_all [litP']
  rw[e2,one_norm (allL_lowL hel.1) ht,norm_self hel.1]at h1
  exact⟨e,he,(@of_decide_eq_true _ (ltEq _ _) h1).symm⟩
 ·rintro⟨e,he,rfl⟩
  refine⟨litP' ⟨e.lit.x,e.lit.y⟩,List.mem_map.2 ⟨_,eqs_mem.2 ⟨e,he,hn,rfl⟩,rfl⟩,?_⟩
  have e2:litP' ⟨e.lit.x,e.lit.y⟩=e.lit:=by
   cases hlit:e.lit
   simp_all [litP']
  rw[e2]
  exact one_refl _
def FailBut(P:Pf)(row:List En)(k:Nat)(u:Lt):Prop:=k < P.ss.length/\hasS (clOf P k).1 (clOf P k).2 u=true/\∀ t∈allL 9,hasS (clOf P k).1 (clOf P k).2 t=true->t≠u->Den row t
def Fails(P:Pf)(row:List En)(k:Nat):Prop:=k < P.ss.length/\∀ t∈allL 9,hasS (clOf P k).1 (clOf P k).2 t=true->Den row t
theorem whyEq_ok(c:Cx E ts cs prs){S:Sr}(h:Inv E ts cs prs S)(hroom:S.P.ss.length+243<=stepsMax){i:Nat}(hi:i < prs.length)(n:Bool)(heq:eqB (clsF ts (eqsOf S.row)) (prs.getD i pr0).x (prs.getD i pr0).y=true)(hno:∀ e∈S.row,e.lit≠litI prs i false) :
 ∃ k S',whyEqP E S (litI prs i n)=some (k,S')/\Inv E ts cs prs S'/\S'.row=S.row/\S'.kn=S.kn/\S'.tk=S.tk/\(∃ T,Gr T S.P S'.P)/\S'.P.ss.length<=S.P.ss.length+243/\FailBut S'.P S.row k (litI prs i false):=by
 obtain⟨x,y,e1,hxy,hy,hall⟩:=c.lit hi false
 have h9:=(len_of c.hts).2
 have hpx:prs.getD i pr0=⟨x,y⟩:=by
  unfold litI at e1
  injection e1 with h1 h2
  cases hp:prs.getD i pr0
  rw[hp]at h1 h2
  simp only at h1 h2
  rw[h1,h2]
 have hin:=c.eqs_in h.rw
 rw[hpx]at heq
 have hn:hasS (prSet (eqsOf S.row)).1 (prSet (eqsOf S.row)).2 ⟨x,y,false⟩=false:=by
  cases hq:hasS (prSet (eqsOf S.row)).1 (prSet (eqsOf S.row)).2 ⟨x,y,false⟩
  ·rfl
  ·rw[<-e1]at hq
   obtain⟨e,he,h1⟩:=(c.prSet_has h.rw hall (by rw[e1])).1 hq
   exact absurd h1 (hno e he)
 obtain⟨k,P',T,hw,hP',hG,hlen,hk,hres⟩:=why_ok c.hE c.fu c.hts hin h.pf hroom (a:=x) (b:=y) (by omega) hy heq hn
 have hw':whyEqP E S (litI prs i n)=some (k,{ S with P:=P' }):=by
  unfold whyEqP
  have:(litI prs i n).x.toNat=x/\(litI prs i n).y.toNat=y:=by unfold litI;rw[hpx];simp
  rw[this.1,this.2,hw]
  rfl
 refine⟨k,_,hw',⟨hP',h.rw,h.tk,h.q,h.re.grow hG,h.kn.grow hG⟩,rfl,rfl,rfl,⟨T,hG⟩,hlen,hk,?_,?_⟩
 ·rw[e1];exact hres.1
 ·intro t ht hh hne
  obtain⟨r1,r2⟩:=hres.2 t ht hh
  cases htn:t.n with
  | false=>
    exfalso
    apply hne
    rw[r1 htn,e1]
    rw[e1]at hall
    exact norm_self hall
  | true=>
    have h1:=r2 htn
    obtain⟨e,he,h2⟩:=(c.prSet_has h.rw (con_all ht) (by simp[conL,htn])).1 h1
    exact⟨e,he,h2⟩
end
end Go.Proofs.YtjebhhoibofmfaaGreat
namespace Go.Proofs.YtjebhhoibofmfaaGreat
theorem pairsHold_iff{ps:List Pr}{d:List Int}:pairsHold d ps=true↔∀ p∈ps,eqB d p.x p.y=true:=by
 constructor
 ·exact fun h p hp=>pairsHold_mem h hp
 ·intro h
  unfold pairsHold
  refine allB_yes (fun t ht=>?_)
  have hm:ps.getD t pr0∈ps:=by rw[List.getD_eq_getElem?_getD,List.getElem?_eq_getElem ht,Option.getD_some];exact List.getElem_mem ht
  exact h _ hm
theorem eq_coarser{n:Nat}{c d:List Int}(h:Coarser n c d){x y:Nat}(hx:x < n)(hy:y < n)(he:eqB c x y=true):eqB d x y=true:=by
 rw[eqB_iff]at he ⊢
 exact h x y hx hy (by simpa using he) |> fun e=>by simpa using e
theorem eqsOf_append(r s:List En):eqsOf (r++s)=eqsOf r++eqsOf s:=by simp[eqsOf]
section
variable {E:Env} {ts:List Tm} {cs:List Cl} {prs:List Pr}
def Fwd(S S':Sr):Prop:=S'.kn=S.kn/\∃ ext,S'.row=S.row++ext/\∀ e∈ext,e.reason≠-1
theorem Fwd.refl(S:Sr):Fwd S S:=⟨rfl,[],by simp,by simp⟩
theorem Fwd.trans{S S' S'':Sr}(h:Fwd S S')(h':Fwd S' S''):Fwd S S'':=by
 obtain⟨h1,x,h2,h3⟩:=h
 obtain⟨g1,y,g2,g3⟩:=h'
 refine⟨g1.trans h1,x++y,by rw[g2,h2,List.append_assoc],fun e he=>?_⟩
 rcases List.mem_append.1 he with he | he
 ·exact h3 e he
 ·exact g3 e he
theorem map_inj{α β:Type}{f:α->β}:∀ {l:List α},(l.map f).Nodup->∀ {a b:α},a∈l->b∈l->f a=f b->a=b
 | x :: l,hn,a,b,ha,hb,e=>by
   rw[List.map_cons,List.nodup_cons]at hn
   rcases List.mem_cons.1 ha with rfl | ha' <;> rcases List.mem_cons.1 hb with rfl | hb'
   ·rfl
   ·exact absurd (List.mem_map.2 ⟨b,hb',e.symm⟩) hn.1
   ·exact absurd (List.mem_map.2 ⟨a,ha',e⟩) hn.1
   ·exact map_inj hn.2 ha' hb' e
theorem Cx.row_is(c:Cx E ts cs prs){row:List En}(h:RowW prs row){i:Nat}(hi:i < prs.length){n:Bool}{e:En}(he:e∈row)(hl:e.lit=litI prs i n):e.pair=i:=by
 obtain⟨h1,h2⟩:=h.1 e he
 exact(c.inj h1 hi (h2.symm.trans hl)).1
theorem Cx.not_both(c:Cx E ts cs prs){row:List En}(h:RowW prs row){i:Nat}(hi:i < prs.length){n m:Bool}{e e':En}(he:e∈row)(hl:e.lit=litI prs i n)(he':e'∈row)(hl':e'.lit=litI prs i m):n=m:=by
 have h1:=c.row_is h hi he hl
 have h2:=c.row_is h hi he' hl'
 have h3:e=e':=map_inj h.2 he he' (h1.trans h2.symm)
 subst h3
 exact(c.inj hi hi (hl.symm.trans hl')).2
theorem Cx.row_has(_:Cx E ts cs prs){row:List En}(h:RowW prs row){i:Nat}(hm:i∈row.map En.pair):∃ e∈row,∃ n,e.lit=litI prs i n:=by
 obtain⟨e,he,rfl⟩:=List.mem_map.1 hm
 exact⟨e,he,_,(h.1 e he).2⟩
theorem tkEq_ok(c:Cx E ts cs prs){S0:Sr}(h0:Inv E ts cs prs S0){C:List Int}(hC:C=clsF ts (eqsOf S0.row)):∀(is:List Nat) (S:Sr),Inv E ts cs prs S->S.P.ss.length+243<=stepsMax->(∀ i∈is,i < prs.length)->(∃ ext,S.row=S0.row++ext)->pairsHold C (eqsOf S.row)=true ->
 ∃ o S',tkEqP E prs C is S=some (o,S')/\Inv E ts cs prs S'/\Fwd S S'/\S'.P.ss.length<=S.P.ss.length+243/\(∀ k,o=some k->Fails S'.P S'.row k) /\
  (o=none->S'.P=S.P/\pairsHold C (eqsOf S'.row)=true/\∀ i∈is,eqB C (prs.getD i pr0).x (prs.getD i pr0).y=true->∃ e∈S'.row,e.lit=litI prs i false)
 | [],S,h,hr,_,hx,hp=>⟨none,S,rfl,h,Fwd.refl S,by omega,(fun _ e=>by cases e),fun _=>⟨rfl,hp,by simp⟩⟩
 | i :: is,S,h,hr,hi,hx,hp=>by
   have hi0:=hi i List.mem_cons_self
   have hi1:∀ j∈is,j < prs.length:=fun j hj=>hi j (List.mem_cons_of_mem _ hj)
   unfold tkEqP
   by_cases he:eqB C (prs.getD i pr0).x (prs.getD i pr0).y=true
   ·rw[if_pos he]
    obtain⟨x,y,e1,hxy,hy,hall⟩:=c.lit hi0 true
    obtain⟨x',y',e1',_,_,hall'⟩:=c.lit hi0 false
    obtain⟨px,py,ep,hpxy,hpy⟩:=c.pr i hi0
    have hco:eqB (clsF ts (eqsOf S.row)) (prs.getD i pr0).x (prs.getD i pr0).y=true:=by
     rw[ep]
     rw[ep,hC]at he
     refine eq_coarser (clsF_mono c.hts (c.eqs_in h0.rw) (c.eqs_in h.rw) (fun p hp=>?_)) (by omega) hpy he
     obtain⟨ext,hx⟩:=hx
     rw[hx,eqsOf_append]
     exact List.mem_append.2 (.inl hp)
    by_cases ht:hasS S.tk.1 S.tk.2 (litI prs i true)=true
    ·rw[if_pos ht]
     obtain⟨e,her,hel⟩:=(h.tk _ hall).1 ht
     obtain⟨k,S',hw,hI,hrow,hkn,_,_,hlen,hf⟩:=whyEq_ok c h hr hi0 true hco (fun e' he' hl'=>by
      have:=c.not_both h.rw hi0 her hel he' hl'
      cases this)
     refine⟨some k,S',by rw[hw];rfl,hI,⟨hkn,[],by rw[hrow];simp,by simp⟩,hlen,fun k' ek=>?_,fun ek=>by cases ek⟩
     injection ek with ek
     subst ek
     refine⟨hf.1,fun t ht hh=>?_⟩
     rw[hrow]
     by_cases htu:t=litI prs i false
     ·exact⟨e,her,by rw[htu,con_lit];exact hel⟩
     ·exact hf.2.2 t ht hh htu
    ·rw[if_neg ht]
     by_cases hf:hasS S.tk.1 S.tk.2 (litI prs i false)=true
     ·rw[if_pos hf]
      obtain⟨e,her,hel⟩:=(h.tk _ hall').1 hf
      obtain⟨o,S',q1,q2,q3,q4,q5,q6⟩:=tkEq_ok c h0 hC is S h hr hi1 hx hp
      refine⟨o,S',q1,q2,q3,q4,q5,fun ho=>?_⟩
      obtain⟨r1,r2,r3⟩:=q6 ho
      refine⟨r1,r2,fun j hj hje=>?_⟩
      rcases List.mem_cons.1 hj with rfl | hj
      ·obtain⟨_,ext,hext,_⟩:=q3
       exact⟨e,by rw[hext];exact List.mem_append.2 (.inl her),hel⟩
      ·exact r3 j hj hje
     ·rw[if_neg hf]
      have hni:i ∉ S.row.map En.pair:=fun hm=>by
       obtain⟨e,her,n,hel⟩:=c.row_has h.rw hm
       cases n with
       | false=>exact hf ((h.tk _ hall').2 ⟨e,her,hel⟩)
       | true=>exact ht ((h.tk _ hall).2 ⟨e,her,hel⟩)
      obtain⟨S1,t1,t2,t3,t4,t5⟩:=take_ok c h.pf h.rw h.tk h.re h.kn hi0 hni ⟨h.q.1,fun j _=>h.q.2 j⟩ (n:=false) (r:=-2) (.inr (.inl ⟨rfl,rfl,hco⟩))
      rw[t1,Option.bind_some]
      have hp1:pairsHold C (eqsOf S1.row)=true:=by
       rw[t3,eqsOf_append,pairsHold_iff]
       intro p hp'
       rcases List.mem_append.1 hp' with hp' | hp'
       ·exact pairsHold_mem hp hp'
       ·simp[eqsOf,litI]at hp'
        rw[hp']
        exact he
      obtain⟨o,S',q1,q2,q3,q4,q5,q6⟩:=tkEq_ok c h0 hC is S1 t2 (by rw[t4];exact hr) hi1 (by obtain⟨ext,hx⟩:=hx;exact⟨ext++[_],by rw[t3,hx,List.append_assoc]⟩) hp1
      refine⟨o,S',q1,q2,Fwd.trans ⟨t5,[_],t3,by intro e he;simp at he;subst he;simp⟩ q3,by rw[t4]at q4;exact q4,q5,fun ho=>?_⟩
      obtain⟨r1,r2,r3⟩:=q6 ho
      refine⟨r1.trans t4,r2,fun j hj hje=>?_⟩
      rcases List.mem_cons.1 hj with rfl | hj
      ·obtain⟨_,ext,hext,_⟩:=q3
       exact⟨_,by rw[hext,t3];exact List.mem_append.2 (.inl (List.mem_append.2 (.inr (List.mem_singleton.2 rfl)))),rfl⟩
      ·exact r3 j hj hje
   ·rw[if_neg he]
    obtain⟨o,S',q1,q2,q3,q4,q5,q6⟩:=tkEq_ok c h0 hC is S h hr hi1 hx hp
    refine⟨o,S',q1,q2,q3,q4,q5,fun ho=>?_⟩
    obtain⟨r1,r2,r3⟩:=q6 ho
    refine⟨r1,r2,fun j hj hje=>?_⟩
    rcases List.mem_cons.1 hj with rfl | hj
    ·exact absurd hje he
    ·exact r3 j hj hje
end
end Go.Proofs.YtjebhhoibofmfaaGreat
