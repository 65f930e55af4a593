import Derived.Test.YtjebhhoibofmfaaGreatBMMd
import Derived.Test.YtjebhhoibofmfaaGreatBMSe
import Derived.Test.YtjebhhoibofmfaaGreatBXSvD
import Derived.Test.YtjebhhoibofmfaaGreatBMLx
import Derived.Test.YtjebhhoibofmfaaGreatBXLtQ
import Derived.Test.YtjebhhoibofmfaaGreatBMCl
import Derived.Test.YtjebhhoibofmfaaGreatBMCk
import Derived.Test.YtjebhhoibofmfaaGreatBMLy
namespace Go.Proofs.YtjebhhoibofmfaaGreat
def conn:List (Nat×Nat)->Nat->Nat->Bool
 | [],a,b=>decide (a=b)
 | (p,q) :: M,a,b=>conn M a b || (conn M a p && conn M q b) || (conn M a q && conn M p b)
def forest:List (Nat×Nat)->Prop
 | []=>True
 | (p,q) :: M=>forest M/\conn M p q=false
def nx:List (Nat×Nat)->Nat->Nat->Nat
 | [],_,b=>b
 | (p,q) :: M,a,b=>if conn M a b then nx M a b else if conn M a p then(if a=p then q else nx M a p)else(if a=q then p else nx M a q)
def dist:List (Nat×Nat)->Nat->Nat->Nat
 | [],_,_=>0
 | (p,q) :: M,a,b=>if conn M a b then dist M a b else if conn M a p then dist M a p+1+dist M q b else dist M a q+1+dist M p b
def age:List (Nat×Nat)->Nat->Nat->Nat
 | [],_,_=>0
 | _ :: M,a,b=>if conn M a b then age M a b else M.length+1
def adj(M:List (Nat×Nat))(x y:Nat):Prop:=(x,y)∈M\/(y,x)∈M
theorem conn_refl:∀(M:List (Nat×Nat)) (a:Nat),conn M a a=true
 | [],a=>by simp[conn]
 | (p,q) :: M,a=>by simp[conn,conn_refl M a]
theorem conn_symm:∀ {M:List (Nat×Nat)} {a b:Nat},conn M a b=true->conn M b a=true
 | [],a,b,h=>by simp[conn]at *; exact h.symm
 | (p,q) :: M,a,b,h=>by
   simp only[conn,Bool.or_eq_true,Bool.and_eq_true]at *
   rcases h with(h | ⟨h1,h2⟩) | ⟨h1,h2⟩
   ·exact .inl (.inl (conn_symm h))
   ·exact .inr ⟨conn_symm h2,conn_symm h1⟩
   ·exact .inl (.inr ⟨conn_symm h2,conn_symm h1⟩)
theorem conn_trans:∀ {M:List (Nat×Nat)} {a b c:Nat},conn M a b=true->conn M b c=true->conn M a c=true
 | [],a,b,c,h,h'=>by simp[conn]at *; exact h.trans h'
 | (p,q) :: M,a,b,c,h,h'=>by
   simp only[conn,Bool.or_eq_true,Bool.and_eq_true]at *
   rcases h with(h | ⟨h1,h2⟩) | ⟨h1,h2⟩
   ·rcases h' with(h' | ⟨g1,g2⟩) | ⟨g1,g2⟩
    ·exact .inl (.inl (conn_trans h h'))
    ·exact .inl (.inr ⟨conn_trans h g1,g2⟩)
    ·exact .inr ⟨conn_trans h g1,g2⟩
   ·rcases h' with(h' | ⟨g1,g2⟩) | ⟨g1,g2⟩
    ·exact .inl (.inr ⟨h1,conn_trans h2 h'⟩)
    ·exact .inl (.inr ⟨h1,g2⟩)
    ·exact .inl (.inl (conn_trans h1 g2))
   ·rcases h' with(h' | ⟨g1,g2⟩) | ⟨g1,g2⟩
    ·exact .inr ⟨h1,conn_trans h2 h'⟩
    ·exact .inl (.inl (conn_trans h1 g2))
    ·exact .inr ⟨h1,g2⟩
theorem conn_comm(M:List (Nat×Nat))(a b:Nat):conn M a b=conn M b a:=by
 rw[Bool.eq_iff_iff];exact⟨conn_symm,conn_symm⟩
theorem conn_cons{M:List (Nat×Nat)}{e:Nat×Nat}{a b:Nat}(h:conn M a b=true):conn (e :: M) a b=true:=by
 obtain⟨p,q⟩:=e;simp[conn,h]
theorem adj_conn:∀ {M:List (Nat×Nat)} {x y:Nat},adj M x y->conn M x y=true
 | [],x,y,h=>by simp[adj]at h
 | (p,q) :: M,x,y,h=>by
   rcases h with h | h
   ·rcases List.mem_cons.1 h with h | h
    ·injection h with h1 h2;subst h1;subst h2;simp[conn,conn_refl]
    ·exact conn_cons (adj_conn (.inl h))
   ·rcases List.mem_cons.1 h with h | h
    ·injection h with h1 h2;subst h1;subst h2;simp[conn,conn_refl]
    ·exact conn_cons (adj_conn (.inr h))
theorem adj_symm{M:List (Nat×Nat)}{x y:Nat}(h:adj M x y):adj M y x:=h.symm
theorem adj_cons{M:List (Nat×Nat)}{e:Nat×Nat}{x y:Nat}(h:adj M x y):adj (e :: M) x y:=by
 rcases h with h | h
 ·exact .inl (List.mem_cons_of_mem _ h)
 ·exact .inr (List.mem_cons_of_mem _ h)
theorem dist_self:∀(M:List (Nat×Nat)) (a:Nat),dist M a a=0
 | [],a=>rfl
 | (p,q) :: M,a=>by simp[dist,conn_refl,dist_self M a]
theorem conn_cases{M:List (Nat×Nat)}{p q a b:Nat}(h:conn ((p,q) :: M) a b=true) :
 conn M a b=true\/(conn M a b=false/\conn M a p=true/\conn M q b=true)\/(conn M a b=false/\conn M a q=true/\conn M p b=true):=by
 simp only[conn,Bool.or_eq_true,Bool.and_eq_true]at h
 cases hc:conn M a b
 ·rw[hc]at h
  rcases h with(h | h) | h
  ·cases h
  ·exact .inr (.inl ⟨rfl,h.1,h.2⟩)
  ·exact .inr (.inr ⟨rfl,h.1,h.2⟩)
 ·exact .inl rfl
theorem not_conn{M:List (Nat×Nat)}{a b c:Nat}(h:conn M a b=false)(h1:conn M a c=true):conn M c b=false:=by
 cases hc:conn M c b
 ·rfl
 ·rw[conn_trans h1 hc]at h;cases h
theorem nx_near:∀ {M:List (Nat×Nat)} {a b:Nat},forest M->conn M a b=true->a≠b ->
 adj M a (nx M a b)/\conn M (nx M a b) b=true/\dist M a b=dist M (nx M a b) b+1
 | [],a,b,_,h,hn=>by simp[conn]at h;exact absurd h hn
 | (p,q) :: M,a,b,hf,h,hn=>by
   obtain⟨hf,hpq⟩:=hf
   have hcs:=conn_cases h
   clear h
   rcases hcs with h | ⟨h,h1,h2⟩ | ⟨h,h1,h2⟩
   ·obtain⟨i1,i2,i3⟩:=nx_near hf h hn
    have e:nx ((p,q) :: M) a b=nx M a b:=by simp[nx,h]
    rw[e]
    refine⟨adj_cons i1,conn_cons i2,?_⟩
    simp only[dist,h,i2,if_true];exact i3
   ·by_cases hap:a=p
    ·subst hap
     have e:nx ((a,q) :: M) a b=q:=by simp[nx,h,conn_refl]
     rw[e]
     refine⟨.inl (by simp),conn_cons h2,?_⟩
     simp only[dist,h,h1,h2,if_true,Bool.false_eq_true,if_false,dist_self];omega
    ·obtain⟨i1,i2,i3⟩:=nx_near hf h1 hap
     have e:nx ((p,q) :: M) a b=nx M a p:=by simp[nx,h,h1,hap]
     rw[e]
     have hay:=adj_conn i1
     have hyb:=not_conn h hay
     refine⟨adj_cons i1,by simp[conn,i2,h2],?_⟩
     simp only[dist,h,h1,hyb,i2,if_true,Bool.false_eq_true,if_false];omega
   ·have hap:conn M a p=false:=by
     cases hc:conn M a p
     ·rfl
     ·rw[conn_trans (conn_symm hc) h1]at hpq;cases hpq
    by_cases haq:a=q
    ·subst haq
     have e:nx ((p,a) :: M) a b=p:=by simp[nx,h,hap]
     rw[e]
     refine⟨.inr (by simp),conn_cons h2,?_⟩
     simp only[dist,h,hap,h2,if_true,Bool.false_eq_true,if_false,dist_self];omega
    ·obtain⟨i1,i2,i3⟩:=nx_near hf h1 haq
     have e:nx ((p,q) :: M) a b=nx M a q:=by simp[nx,h,hap,haq]
     rw[e]
     have hay:=adj_conn i1
     have hyb:=not_conn h hay
     have hyp:=not_conn hap hay
     refine⟨adj_cons i1,by simp[conn,i2,h2],?_⟩
     simp only[dist,h,hap,hyb,hyp,Bool.false_eq_true,if_false];omega
theorem nx_either:∀ {M:List (Nat×Nat)} {x v t:Nat},forest M->adj M x v->conn M x t=true->(x≠t/\nx M x t=v)\/(v≠t/\nx M v t=x)
 | [],x,v,t,_,h,_=>by simp[adj]at h
 | (p,q) :: M,x,v,t,hf,ha,h=>by
   obtain⟨hf,hpq⟩:=hf
   have hqp:conn M q p=false:=by rw[conn_comm];exact hpq
   have ne_of:∀ {y:Nat},conn M y t=false->y≠t:=fun hy e=>by rw[e,conn_refl]at hy;cases hy
   have hcase:(x=p/\v=q)\/(x=q/\v=p)\/adj M x v:=by
    rcases ha with ha | ha
    ·rcases List.mem_cons.1 ha with ha | ha
     ·injection ha with h1 h2;exact .inl ⟨h1,h2⟩
     ·exact .inr (.inr (.inl ha))
    ·rcases List.mem_cons.1 ha with ha | ha
     ·injection ha with h1 h2;exact .inr (.inl ⟨h2,h1⟩)
     ·exact .inr (.inr (.inr ha))
   rcases hcase with⟨rfl,rfl⟩ | ⟨rfl,rfl⟩ | hadj
   ·rcases conn_cases h with h | ⟨h,h1,h2⟩ | ⟨h,h1,h2⟩
    ·have hvt:conn M v t=false:=by rw[conn_comm]at hpq;exact(by cases hc:conn M v t;rfl;rw[conn_trans hc (conn_symm h)]at hpq;cases hpq)
     exact .inr ⟨ne_of hvt,by simp[nx,hvt,hqp]⟩
    ·exact .inl ⟨ne_of h,by simp[nx,h,conn_refl]⟩
    ·rw[h1]at hpq;cases hpq
   ·rcases conn_cases h with h | ⟨h,h1,h2⟩ | ⟨h,h1,h2⟩
    ·have hvt:conn M v t=false:=by cases hc:conn M v t;rfl;rw[conn_trans hc (conn_symm h)]at hpq;cases hpq
     exact .inr ⟨ne_of hvt,by simp[nx,hvt,conn_refl]⟩
    ·rw[h1]at hqp;cases hqp
    ·exact .inl ⟨ne_of h,by simp[nx,h,hqp]⟩
   ·have hxv:=adj_conn hadj
    rcases conn_cases h with h | ⟨h,h1,h2⟩ | ⟨h,h1,h2⟩
    ·have hvt:=conn_trans (conn_symm hxv) h
     rcases nx_either hf hadj h with⟨i1,i2⟩ | ⟨i1,i2⟩
     ·exact .inl ⟨i1,by simp[nx,h,i2]⟩
     ·exact .inr ⟨i1,by simp[nx,hvt,i2]⟩
    ·have hvt:=not_conn h hxv
     have hvp:=conn_trans (conn_symm hxv) h1
     rcases nx_either hf hadj h1 with⟨i1,i2⟩ | ⟨i1,i2⟩
     ·exact .inl ⟨ne_of h,by simp[nx,h,h1,i1,i2]⟩
     ·exact .inr ⟨ne_of hvt,by simp[nx,hvt,hvp,i1,i2]⟩
    ·have hvt:=not_conn h hxv
     have hvq:=conn_trans (conn_symm hxv) h1
     have hxp:conn M x p=false:=by
      cases hc:conn M x p
      ·rfl
      ·rw[conn_trans (conn_symm hc) h1]at hpq;cases hpq
     have hvp:=not_conn hxp hxv
     rcases nx_either hf hadj h1 with⟨i1,i2⟩ | ⟨i1,i2⟩
     ·exact .inl ⟨ne_of h,by simp[nx,h,hxp,i1,i2]⟩
     ·exact .inr ⟨ne_of hvt,by simp[nx,hvt,hvp,i1,i2]⟩
theorem dist_comm:∀ {M:List (Nat×Nat)} {a b:Nat},forest M->conn M a b=true->dist M a b=dist M b a
 | [],a,b,_,_=>rfl
 | (p,q) :: M,a,b,hf,h=>by
   obtain⟨hf,hpq⟩:=hf
   have hqp:conn M q p=false:=by rw[conn_comm];exact hpq
   rcases conn_cases h with h | ⟨h,h1,h2⟩ | ⟨h,h1,h2⟩
   ·simp only[dist,h,conn_symm h,if_true];exact dist_comm hf h
   ·have hba:conn M b a=false:=by rw[conn_comm];exact h
    have hbp:conn M b p=false:=by cases hc:conn M b p;rfl;rw[conn_trans h2 hc]at hqp;cases hqp
    simp only[dist,h,h1,hba,hbp,if_true,Bool.false_eq_true,if_false]
    rw[dist_comm hf h1,dist_comm hf h2];omega
   ·have hba:conn M b a=false:=by rw[conn_comm];exact h
    have hap:conn M a p=false:=by cases hc:conn M a p;rfl;rw[conn_trans (conn_symm hc) h1]at hpq;cases hpq
    simp only[dist,h,hap,hba,conn_symm h2,if_true,Bool.false_eq_true,if_false]
    rw[dist_comm hf h1,dist_comm hf h2];omega
theorem dist_lt:∀(M:List (Nat×Nat)) (a b:Nat),dist M a b < 2 ^ M.length
 | [],a,b=>by simp[dist]
 | (p,q) :: M,a,b=>by
   have h1:=dist_lt M a b
   have h2:=dist_lt M a p
   have h3:=dist_lt M q b
   have h4:=dist_lt M a q
   have h5:=dist_lt M p b
   simp only[dist,List.length_cons,Nat.pow_succ]
   split
   ·omega
   ·split <;> omega
theorem age_comm(M:List (Nat×Nat))(a b:Nat):age M a b=age M b a:=by
 induction M with
 | nil=>rfl
 | cons e M ih=>simp only[age,conn_comm M a b,ih]
theorem age_le(M:List (Nat×Nat))(a b:Nat):age M a b<=M.length:=by
 induction M with
 | nil=>exact Nat.le_refl _
 | cons e M ih=>simp only[age,List.length_cons];split <;> omega
theorem age_old:∀(K M:List (Nat×Nat)) (a b:Nat),conn M a b=true->conn (K++M) a b=true/\age (K++M) a b<=M.length
 | [],M,a,b,h=>⟨h,age_le M a b⟩
 | e :: K,M,a,b,h=>by
   obtain⟨i1,i2⟩:=age_old K M a b h
   exact⟨conn_cons i1,by simp only[List.cons_append,age,i1,if_true];exact i2⟩
theorem age_new{M K:List (Nat×Nat)}{a b:Nat}(hM:conn M a b=false):conn (K++M) a b=true->M.length < age (K++M) a b:=by
 induction K with
 | nil=>intro h;rw[List.nil_append,hM]at h;cases h
 | cons e K ih=>
   intro h
   simp only[List.cons_append,age]
   split
   ·rename_i h1;exact ih h1
   ·simp;omega
theorem age_nx:∀ {M:List (Nat×Nat)} {a b:Nat},forest M->conn M a b=true->a≠b->age M a (nx M a b)<=age M a b/\age M (nx M a b) b<=age M a b
 | [],a,b,_,h,hn=>by simp[conn]at h;exact absurd h hn
 | (p,q) :: M,a,b,hf,h,hn=>by
   have hl:=age_le M a (nx ((p,q) :: M) a b)
   have hl2:=age_le M (nx ((p,q) :: M) a b) b
   cases hc:conn M a b
   ·have e:age ((p,q) :: M) a b=M.length+1:=by simp[age,hc]
    rw[e]
    have k1:=age_le ((p,q) :: M) a (nx ((p,q) :: M) a b)
    have k2:=age_le ((p,q) :: M) (nx ((p,q) :: M) a b) b
    exact⟨k1,k2⟩
   ·obtain⟨i1,i2⟩:=age_nx hf.1 hc hn
    obtain⟨j1,j2,_⟩:=nx_near hf.1 hc hn
    have e:nx ((p,q) :: M) a b=nx M a b:=by simp[nx,hc]
    rw[e]
    simp only[age,hc,adj_conn j1,j2,if_true]
    exact⟨i1,i2⟩
def rch(M:List (Nat×Nat))(a t back:Nat):Bool:=conn M a t && (decide (a=t) || !decide (nx M a t=back))
theorem rch_iff{M:List (Nat×Nat)}{x y t:Nat}(hf:forest M)(ha:adj M x y):rch M y t x=true↔conn M x t=true/\x≠t/\nx M x t=y:=by
 have hxy:=adj_conn ha
 simp only[rch,Bool.and_eq_true,Bool.or_eq_true,decide_eq_true_eq,Bool.not_eq_true',decide_eq_false_iff_not]
 constructor
 ·rintro⟨h1,h2⟩
  have hx:=conn_trans hxy h1
  refine⟨hx,?_⟩
  rcases nx_either hf ha hx with h | ⟨h3,h4⟩
  ·exact h
  ·rcases h2 with h2 | h2
   ·exact absurd h2 h3
   ·exact absurd h4 h2
 ·rintro⟨h1,h2,h3⟩
  obtain⟨i1,i2,i3⟩:=nx_near hf h1 h2
  rw[h3]at i2 i3
  refine⟨i2,?_⟩
  by_cases hyt:y=t
  ·exact .inl hyt
  ·refine .inr (fun h4=>?_)
   obtain⟨_,_,j3⟩:=nx_near hf i2 hyt
   rw[h4]at j3
   omega
theorem rch_self(M:List (Nat×Nat))(a back:Nat):rch M a a back=true:=by simp[rch,conn_refl]
theorem rch_step{M:List (Nat×Nat)}{x y t back:Nat}(hf:forest M)(ha:adj M x y)(hb:y≠back)(h:rch M y t x=true):rch M x t back=true:=by
 obtain⟨h1,h2,h3⟩:=(rch_iff hf ha).1 h
 simp[rch,h1,h3,hb]
theorem rch_none{M:List (Nat×Nat)}{x t back:Nat}(hf:forest M)(hn:x≠t)(h:∀ y,adj M x y->y≠back->rch M y t x=false):rch M x t back=false:=by
 cases hr:rch M x t back
 ·rfl
 ·simp only[rch,Bool.and_eq_true,Bool.or_eq_true,decide_eq_true_eq,Bool.not_eq_true',decide_eq_false_iff_not]at hr
  obtain⟨h1,h2 | h2⟩:=hr
  ·exact absurd h2 hn
  ·obtain⟨i1,_,_⟩:=nx_near hf h1 hn
   have:=h _ i1 h2
   rw[(rch_iff hf i1).2 ⟨h1,hn,rfl⟩]at this
   cases this
def side(M:List (Nat×Nat))(n x v:Nat):Nat:=(List.range n).countP fun t=>rch M x t v
theorem side_lt{M:List (Nat×Nat)}{n x y v:Nat}(hf:forest M)(ha:adj M x y)(hx:x < n)(hv:y≠v):side M n y x < side M n x v:=by
 refine countP_lt (fun t _ ht=>rch_step hf ha hv ht) (List.mem_range.2 hx) (rch_self M x v) ?_
 cases h:rch M y x x
 ·rfl
 ·exact absurd rfl ((rch_iff hf ha).1 h).2.1
end Go.Proofs.YtjebhhoibofmfaaGreat
namespace Go.Proofs.YtjebhhoibofmfaaGreat
structure Env where
 n:Nat
 m:Nat
 ok:List (Nat×Nat)->St->Bool
 go:List (Nat×Nat)->St->Nat×Nat
 lk:List Pr->List Pr
 cl:List Pr->List Int
 fu:Nat
structure Pf where
 sts:List St
 ss:List (Nat×Nat)
def pf0:Pf:=⟨[],[]⟩
def stepsMax:Nat:=3518437208883
def addP(E:Env)(P:Pf)(s:St):Option (Nat×Pf):=
 if E.ok P.ss s then
  if E.go P.ss s∈P.ss then some (P.ss.idxOf (E.go P.ss s),P)
  else if P.ss.length < stepsMax then some (P.ss.length,⟨P.sts++[s],P.ss++[E.go P.ss s]⟩)else none
 else none
def givenS(i:Nat):St:=⟨0,i,0,0,0⟩
def reflS(a:Nat):St:=⟨1,a,0,0,0⟩
def transS(a b c:Nat):St:=⟨2,a,b,c,0⟩
def congS(a b:Nat):St:=⟨3,a,b,0,0⟩
def cutS(i j:Nat)(t:Lt):St:=if t.n then⟨4,j,i,t.x,t.y⟩else⟨4,i,j,t.x,t.y⟩
def natL(L:List Pr):List (Nat×Nat):=(L.map fun p=>(p.x.toNat,p.y.toNat)).reverse
def clOf(P:Pf)(k:Nat):Nat×Nat:=P.ss.getD k (0,0)
def conL(t:Lt):Lt:=⟨t.x,t.y,!t.n⟩
def cutsP(E:Env)(pr:Nat×Nat)(rec:Nat->Nat->Pf->Option (Nat×Pf)):List Lt->Nat->Pf->Option (Nat×Pf)
 | [],k,P=>some (k,P)
 | t :: ls,k,P=>
   if t.n && !hasS pr.1 pr.2 (conL t)then
    (rec t.x.toNat t.y.toNat P).bind fun r=>(addP E r.2 (cutS k r.1 t)).bind fun r2=>cutsP E pr rec ls r2.1 r2.2
   else cutsP E pr rec ls k P
def eqP(E:Env)(M:List (Nat×Nat))(pr:Nat×Nat):Nat->Nat->Nat->Pf->Option (Nat×Pf)
 | 0,_,_,_=>none
 | f+1,a,b,P=>
   if a=b then addP E P (reflS a)
   else if conn M a b && decide (a < E.n) && decide (b < E.n)then(addP E P (if nx M a b=b then congS a b else transS a (nx M a b) b)).bind fun r=>
    cutsP E pr (eqP E M pr f) (inOrd (clOf r.2 r.1).1 (clOf r.2 r.1).2) r.1 r.2
   else none
def litP'(p:Pr):Lt:=⟨p.x,p.y,false⟩
def prSet(ps:List Pr):Nat×Nat:=ofL (ps.map litP') (0,0)
def whyP(E:Env)(P:Pf)(ps:List Pr)(a b:Nat):Option (Nat×Pf):=eqP E (natL (E.lk ps)) (prSet ps) E.fu a b P
structure En where
 pair:Nat
 lit:Lt
 reason:Int
structure Sr where
 P:Pf
 kn:List Nat
 ws:List Nat
 ns:List Nat
 row:List En
 tk:Nat×Nat
def litI(prs:List Pr)(i:Nat)(n:Bool):Lt:=⟨(prs.getD i pr0).x,(prs.getD i pr0).y,n⟩
def takeP(prs:List Pr)(S:Sr)(i:Nat)(n:Bool)(reason:Int):Option Sr:=
 if i < prs.length && decide (S.row.length < 50)then
  some { S with ns:=leaveL S.ws S.ns i,row:=S.row++[⟨i,litI prs i n,reason⟩],tk:=(withE S.tk.1 (litI prs i n),withA S.tk.2 (litI prs i n)) }
 else none
def untakeP(S:Sr):Option (En×Sr):=
 match S.row.getLast? with
 | none=>none
 | some e=>some (e,{ S with row:=S.row.dropLast,tk:=(woutE S.tk.1 e.lit,woutA S.tk.2 e.lit),ns:=returnL S.ws S.ns e.pair })
def eqsOf(row:List En):List Pr:=(row.filter fun e=>!e.lit.n).map fun e=>⟨e.lit.x,e.lit.y⟩
def whyEqP(E:Env)(S:Sr)(t:Lt):Option (Nat×Sr):=(whyP E S.P (eqsOf S.row) t.x.toNat t.y.toNat).map fun r=>(r.1,{ S with P:=r.2 })
def reasonP(E:Env)(S:Sr)(e:En):Option (Nat×Sr):=
 if e.reason=-2 then whyEqP E S e.lit else if 0<=e.reason then some (e.reason.toNat,S)else none
def tkEqP(E:Env)(prs:List Pr)(c:List Int):List Nat->Sr->Option (Option Nat×Sr)
 | [],S=>some (none,S)
 | i :: is,S=>
   if eqB c (prs.getD i pr0).x (prs.getD i pr0).y then
    if hasS S.tk.1 S.tk.2 (litI prs i true)then(whyEqP E S (litI prs i true)).map fun r=>(some r.1,r.2)
    else if hasS S.tk.1 S.tk.2 (litI prs i false)then tkEqP E prs c is S
    else(takeP prs S i false (-2)).bind (tkEqP E prs c is)
   else tkEqP E prs c is S
def tkLitP(prs:List Pr)(t:Lt)(k:Nat):List Nat->Sr->Option Sr
 | [],S=>some S
 | i :: is,S=>if(prs.getD i pr0).x=t.x/\(prs.getD i pr0).y=t.y then(takeP prs S i t.n k).bind (tkLitP prs t k is)else tkLitP prs t k is S
def leftOf(c tk:Nat×Nat):Nat×Nat:=(butN c.1 tk.2,butN c.2 tk.1)
def tkLastP(prs:List Pr):List Nat->Sr->Option (Option Nat×Sr)
 | [],S=>some (none,S)
 | k :: ks,S=>
   if k < S.P.ss.length then
    if meetsB (clOf S.P k).1 (clOf S.P k).2 S.tk.1 S.tk.2 then tkLastP prs ks S
    else if emptyB (leftOf (clOf S.P k) S.tk).1 (leftOf (clOf S.P k) S.tk).2 then some (some k,S)
    else if onesN (leftOf (clOf S.P k) S.tk).1+onesN (leftOf (clOf S.P k) S.tk).2=1 then
     match inOrd (leftOf (clOf S.P k) S.tk).1 (leftOf (clOf S.P k) S.tk).2 with
     | []=>none
     | t :: _=>(tkLitP prs t k (List.range prs.length) S).bind (tkLastP prs ks)
    else tkLastP prs ks S
   else none
def forcedP(E:Env)(prs:List Pr):Nat->Sr->Option (Option Nat×Sr)
 | 0,_=>none
 | f+1,S=>(tkEqP E prs (E.cl (eqsOf S.row)) (List.range prs.length) S).bind fun r=>
   match r.1 with
   | some k=>some (some k,r.2)
   | none=>(tkLastP prs r.2.kn r.2).bind fun r2=>
     match r2.1 with
     | some k=>some (some k,r2.2)
     | none=>if r2.2.row.length=r.2.row.length then some (none,r2.2)else forcedP E prs f r2.2
def metOf(prs:List Pr)(c:Nat×Nat):List Nat:=(List.range prs.length).filter fun i=>hasS c.1 c.2 (litI prs i false) || hasS c.1 c.2 (litI prs i true)
def learnP(prs:List Pr)(S:Sr)(k:Nat):Option Sr:=
 if S.kn.length < stepsMax && decide (k < S.P.ss.length)then
  some { S with kn:=S.kn++[k],ws:=(growL (shareF (metOf prs (clOf S.P k)).length) (metOf prs (clOf S.P k)) S.ws S.ns).1,ns:=(growL (shareF (metOf prs (clOf S.P k)).length) (metOf prs (clOf S.P k)) S.ws S.ns).2 }
 else none
def runP(E:Env)(prs:List Pr):Nat->Option Nat->Sr->Option (Option Nat×Sr)
 | 0,_,_=>none
 | f+1,none,S=>(forcedP E prs 100 S).bind fun r=>
   match r.1 with
   | some k=>runP E prs f (some k) r.2
   | none=>
     if r.2.ns=[]then some (none,r.2)
     else(takeP prs { r.2 with ns:=(popL r.2.ws r.2.ns).take (r.2.ns.length - 1) } ((popL r.2.ws r.2.ns).getD (r.2.ns.length - 1) 0) true (-1)).bind fun S2=>runP E prs f none S2
 | f+1,some k,S=>
   if k < S.P.ss.length then
    if emptyB (clOf S.P k).1 (clOf S.P k).2 then some (some k,S)
    else(untakeP S).bind fun r=>
     if hasS (clOf S.P k).1 (clOf S.P k).2 (conL r.1.lit)then
      if r.1.reason=-1 then(learnP prs r.2 k).bind fun S2=>(takeP prs S2 r.1.pair (!r.1.lit.n) k).bind fun S3=>runP E prs f none S3
      else(reasonP E r.2 r.1).bind fun r2=>(addP E r2.2.P (cutS r2.1 k r.1.lit)).bind fun r3=>runP E prs f (some r3.1) { r2.2 with P:=r3.2 }
     else runP E prs f (some k) r.2
   else none
def startP(E:Env):List Nat->List Nat->Nat×Nat->Pf->Option (List Nat×(Nat×Nat)×Pf)
 | [],kn,st,P=>some (kn,st,P)
 | i :: is,kn,st,P=>(addP E P (givenS i)).bind fun r=>startP E is (kn++[r.1]) (st.1 ||| (clOf r.2 r.1).1,st.2 ||| (clOf r.2 r.1).2) r.2
def pairsOf(st:Nat×Nat):List Pr:=((inOrd (st.1 ||| st.2) (st.2 ||| st.1)).filter fun t=>!t.n).map fun t=>⟨t.x,t.y⟩
def sr0(kn:List Nat)(prs:List Pr)(P:Pf):Sr:=⟨P,kn,List.replicate prs.length 0,List.range prs.length,[],(0,0)⟩
def needP(sts:List St):Nat->List Bool->Option (List Bool)
 | 0,nd=>some nd
 | k+1,nd=>
   if nd.getD k false && decide ((sts.getD k st0).r=4)then
    if 0<=(sts.getD k st0).a/\(sts.getD k st0).a < nd.length/\0<=(sts.getD k st0).b/\(sts.getD k st0).b < nd.length then needP sts k ((nd.set (sts.getD k st0).a.toNat true).set (sts.getD k st0).b.toNat true)else none
   else needP sts k nd
def movedS(pl:List Int)(s:St):St:=if s.r=4 then { s with a:=pl.getD s.a.toNat 0,b:=pl.getD s.b.toNat 0 } else s
def upP(nd:List Bool):List St->Nat->List Int->List St->Option (List St)
 | [],_,_,out=>some out
 | s :: rest,k,pl,out=>
   if nd.getD k false then
    if s.r=4/\¬ (0<=s.a/\s.a < pl.length/\0<=s.b/\s.b < pl.length)then none
    else upP nd rest (k+1) (pl.set k (out.length:Int)) (out++[movedS pl s])
   else upP nd rest (k+1) pl out
def upToP(sts:List St)(k:Nat):Option (List St):=
 if k < sts.length && decide (sts.length<=stepsMax)then(needP sts (k+1) ((List.replicate (k+1) false).set k true)).bind fun nd=>upP nd (sts.take (k+1)) 0 (zeros (k+1)) []else none
def solveP(E:Env)(f:Nat):Option (Bool×List Int×List St):=
 (startP E (List.range E.m) [] (0,0) pf0).bind fun r=>
   (runP E (pairsOf r.2.1) f none (sr0 r.1 (pairsOf r.2.1) r.2.2)).bind fun r2=>
     match r2.1 with
     | none=>some (true,E.cl (eqsOf r2.2.row),[])
     | some k=>(upToP r2.2.P.sts k).map fun sts=>(false,[],sts)
end Go.Proofs.YtjebhhoibofmfaaGreat
namespace Go.Proofs.YtjebhhoibofmfaaGreat
theorem norm_self{t:Lt}(h:t∈allL 9):normL t=t:=by
 obtain⟨h1,h2,h3⟩:=allL_low t h
 obtain⟨x,y,n⟩:=t
 simp only[normL]at *
 rw[Int.min_eq_left h2,Int.max_eq_right h2]
theorem allL_lowL{t:Lt}(h:t∈allL 9):LowL 9 t:=by
 obtain⟨h1,h2,h3⟩:=allL_low t h
 exact⟨h1,by omega,by omega,h3⟩
theorem allL_nodup:(allL 9).Nodup:=allL_sorted.imp (fun h e=>by rw[e]at h;omega)
theorem inOrd_iff{E A:Nat}{t:Lt}:t∈inOrd E A↔t∈allL 9/\hasS E A t=true:=List.mem_filter
theorem inOrd_nodup(E A:Nat):(inOrd E A).Nodup:=allL_nodup.sublist List.filter_sublist
def cutC(t:Lt)(c cj:Nat×Nat):Nat×Nat:=
 (woutE cj.1 ⟨t.x,t.y,false⟩ ||| woutE c.1 ⟨t.x,t.y,true⟩,woutA cj.2 ⟨t.x,t.y,false⟩ ||| woutA c.2 ⟨t.x,t.y,true⟩)
theorem cutC_has(t u:Lt)(c cj:Nat×Nat):hasS (cutC t c cj).1 (cutC t c cj).2 u=((hasS cj.1 cj.2 u && !oneB ⟨t.x,t.y,false⟩ u) || (hasS c.1 c.2 u && !oneB ⟨t.x,t.y,true⟩ u)):=by
 simp only[cutC,or_has,wout_has]
def cutsC(pr:Nat×Nat)(rec:Nat->Nat->Nat×Nat):List Lt->Nat×Nat->List (Nat×Nat)
 | [],_=>[]
 | t :: ls,c=>
   if t.n && !hasS pr.1 pr.2 (conL t)then cutC t c (rec t.x.toNat t.y.toNat) :: cutsC pr rec ls (cutC t c (rec t.x.toNat t.y.toNat))else cutsC pr rec ls c
def firstS(M:List (Nat×Nat))(a b:Nat):St:=if nx M a b=b then congS a b else transS a (nx M a b) b
def firstC(ts:List Tm)(M:List (Nat×Nat))(a b:Nat):Nat×Nat:=if nx M a b=b then setC ts (congS a b)else setT (transS a (nx M a b) b)
def seqC(ts:List Tm)(M:List (Nat×Nat))(pr:Nat×Nat):Nat->Nat->Nat->List (Nat×Nat)
 | 0,_,_=>[]
 | f+1,a,b=>
   if a=b then [setR (reflS a)]
   else firstC ts M a b :: cutsC pr (fun x y=>(seqC ts M pr f x y).getLastD (0,0)) (inOrd (firstC ts M a b).1 (firstC ts M a b).2) (firstC ts M a b)
def eqC(ts:List Tm)(M:List (Nat×Nat))(pr:Nat×Nat)(f a b:Nat):Nat×Nat:=(seqC ts M pr f a b).getLastD (0,0)
theorem eqC_self(ts:List Tm)(M:List (Nat×Nat))(pr:Nat×Nat)(f a:Nat):eqC ts M pr (f+1) a a=setR (reflS a):=by simp[eqC,seqC]
theorem eqC_step{ts:List Tm}{M:List (Nat×Nat)}{pr:Nat×Nat}{f a b:Nat}(h:a≠b) :
 eqC ts M pr (f+1) a b=(cutsC pr (eqC ts M pr f) (inOrd (firstC ts M a b).1 (firstC ts M a b).2) (firstC ts M a b)).getLastD (firstC ts M a b):=by
 unfold eqC
 rw[seqC,if_neg h,List.getLastD_cons]
def Res(pr:Nat×Nat)(a b:Nat)(c:Nat×Nat):Prop:=
 hasS c.1 c.2 ⟨a,b,false⟩=true/\∀ t∈allL 9,hasS c.1 c.2 t=true->(t.n=false->t=normL ⟨a,b,false⟩)/\(t.n=true->hasS pr.1 pr.2 (conL t)=true)
theorem cuts_res{pr:Nat×Nat}{rec:Nat->Nat->Nat×Nat}{a b:Nat}(hab:LowL 9 ⟨a,b,false⟩):∀(ls:List Lt) (c:Nat×Nat),ls.Nodup->(∀ t∈ls,t∈allL 9) ->
 hasS c.1 c.2 ⟨a,b,false⟩=true->(∀ t∈allL 9,hasS c.1 c.2 t=true->t.n=false->t=normL ⟨a,b,false⟩) ->
 (∀ t∈allL 9,hasS c.1 c.2 t=true->t.n=true->hasS pr.1 pr.2 (conL t)=true\/t∈ls) ->
 (∀ t∈ls,t.n=true->hasS pr.1 pr.2 (conL t)=false->Res pr t.x.toNat t.y.toNat (rec t.x.toNat t.y.toNat)) ->
 Res pr a b ((cutsC pr rec ls c).getLastD c)
 | [],c,_,_,h1,h2,h3,_=>by
   refine⟨h1,fun t ht hh=>⟨h2 t ht hh,fun hn=>?_⟩⟩
   rcases h3 t ht hh hn with h | h
   ·exact h
   ·cases h
 | t :: ls,c,hnd,hall,h1,h2,h3,hr=>by
   obtain⟨hnot,hnd⟩:=List.nodup_cons.1 hnd
   have hta:=hall t List.mem_cons_self
   obtain⟨l1,l2,l3⟩:=allL_low t hta
   unfold cutsC
   by_cases hc:(t.n && !hasS pr.1 pr.2 (conL t))=true
   ·rw[if_pos hc,List.getLastD_cons]
    simp only[Bool.and_eq_true,Bool.not_eq_true']at hc
    obtain⟨hn,hp⟩:=hc
    have hres:=hr t List.mem_cons_self hn hp
    generalize rec t.x.toNat t.y.toNat=cj at *
    obtain⟨r1,r2⟩:=hres
    have ex:((t.x.toNat:Nat):Int)=t.x:=by omega
    have ey:((t.y.toNat:Nat):Int)=t.y:=by omega
    rw[ex,ey]at r1 r2
    have lp:LowL 9 ⟨t.x,t.y,false⟩:=⟨l1,by show t.x < 9;omega,by show 0<=t.y;omega,l3⟩
    have ln:LowL 9 ⟨t.x,t.y,true⟩:=lp
    have et:normL ⟨t.x,t.y,true⟩=t:=by
     have:(⟨t.x,t.y,true⟩:Lt)=t:=by cases t;simp_all
     rw[this];exact norm_self hta
    refine cuts_res hab ls _ hnd (fun u hu=>hall u (List.mem_cons_of_mem _ hu)) ?_ ?_ ?_ (fun u hu=>hr u (List.mem_cons_of_mem _ hu))
    ·rw[cutC_has,h1]
     simp[oneB]
    ·intro u hu hh hun
     rw[cutC_has,Bool.or_eq_true,Bool.and_eq_true,Bool.and_eq_true]at hh
     rcases hh with⟨g1,g2⟩ | ⟨g1,_⟩
     ·have:=(r2 u hu g1).1 hun
      rw[one_norm lp hu,this]at g2
      simp at g2
     ·exact h2 u hu g1 hun
    ·intro u hu hh hun
     rw[cutC_has,Bool.or_eq_true,Bool.and_eq_true,Bool.and_eq_true]at hh
     rcases hh with⟨g1,_⟩ | ⟨g1,g2⟩
     ·exact .inl ((r2 u hu g1).2 hun)
     ·rcases h3 u hu g1 hun with h | h
      ·exact .inl h
      ·rcases List.mem_cons.1 h with h | h
       ·rw[one_norm ln hu,et,h]at g2
        simp at g2
       ·exact .inr h
   ·rw[if_neg hc]
    refine cuts_res hab ls c hnd (fun u hu=>hall u (List.mem_cons_of_mem _ hu)) h1 h2 ?_ (fun u hu=>hr u (List.mem_cons_of_mem _ hu))
    intro u hu hh hun
    rcases h3 u hu hh hun with h | h
    ·exact .inl h
    ·rcases List.mem_cons.1 h with h | h
     ·left
      subst h
      simp only[hun,Bool.true_and,Bool.not_eq_true',Bool.not_eq_false]at hc
      exact hc
     ·exact .inr h
def forcedIn(ts:List Tm)(M:List (Nat×Nat))(p q:Nat):Prop:=
 alikeB (ts.getD p tm0).sym (ts.getD q tm0).sym (ts.getD p tm0).args.length (ts.getD q tm0).args.length=true /\
  ∀ i,i < (ts.getD p tm0).args.length->conn M ((ts.getD p tm0).args.getD i 0).toNat ((ts.getD q tm0).args.getD i 0).toNat=true
theorem forcedIn.symm{ts:List Tm}{M:List (Nat×Nat)}{p q:Nat}(h:forcedIn ts M p q):forcedIn ts M q p:=by
 obtain⟨h1,h2⟩:=h
 simp only[alikeB,Bool.and_eq_true,decide_eq_true_eq]at h1
 refine⟨by simp only[alikeB,Bool.and_eq_true,decide_eq_true_eq];exact⟨h1.1.symm,h1.2.symm⟩,fun i hi=>conn_symm (h2 i (by omega))⟩
structure Wz (ts:List Tm) (M:List (Nat×Nat)) (pr:Nat×Nat):Prop where
 tm:termsB ts=true
 fo:forest M
 lt:∀ e∈M,e.1 < ts.length/\e.2 < ts.length
 nine:M.length<=9
 li:∀(K:List (Nat×Nat)) (p q:Nat) (M':List (Nat×Nat)),M=K++(p,q) :: M'->hasS pr.1 pr.2 ⟨p,q,false⟩=true\/forcedIn ts M' p q
def mea(M:List (Nat×Nat))(a b:Nat):Nat:=512*age M a b+dist M a b
theorem mea_comm{M:List (Nat×Nat)}{a b:Nat}(hf:forest M)(h:conn M a b=true):mea M a b=mea M b a:=by unfold mea;rw[age_comm,dist_comm hf h]
theorem has_swap(e a:Nat)(x y:Int)(n:Bool):hasS e a ⟨x,y,n⟩=hasS e a ⟨y,x,n⟩:=by unfold hasS;rw[ixN_comm]
theorem forest_split:∀ {K M:List (Nat×Nat)} {p q:Nat},forest (K++(p,q) :: M)->conn M p q=false
 | [],_,_,_,h=>h.2
 | (_,_) :: K,_,_,_,h=>forest_split (K:=K) h.1
theorem Wz.link{ts:List Tm}{M:List (Nat×Nat)}{pr:Nat×Nat}(h:Wz ts M pr){a b:Nat}(ha:adj M a b)(hp:hasS pr.1 pr.2 ⟨a,b,false⟩=false) :
 alikeB (ts.getD a tm0).sym (ts.getD b tm0).sym (ts.getD a tm0).args.length (ts.getD b tm0).args.length=true /\
 ∀ i,i < (ts.getD a tm0).args.length->conn M ((ts.getD a tm0).args.getD i 0).toNat ((ts.getD b tm0).args.getD i 0).toNat=true/\mea M ((ts.getD a tm0).args.getD i 0).toNat ((ts.getD b tm0).args.getD i 0).toNat < mea M a b:=by
 have hab:=adj_conn ha
 have hsp:∃ K M',∃ K',M=K++M'/\conn M' a b=false/\M=K'++M'/\forcedIn ts M' a b:=by
  rcases ha with ha | ha
  ·obtain⟨K,M',e⟩:=List.append_of_mem ha
   have hc:=forest_split (by rw[<-e];exact h.fo)
   rcases h.li K a b M' e with h1 | h1
   ·rw[hp]at h1;cases h1
   ·exact⟨K++[(a,b)],M',K++[(a,b)],by simp[e],hc,by simp[e],h1⟩
  ·obtain⟨K,M',e⟩:=List.append_of_mem ha
   have hc:=forest_split (by rw[<-e];exact h.fo)
   rcases h.li K b a M' e with h1 | h1
   ·rw[has_swap]at h1;rw[hp]at h1;cases h1
   ·exact⟨K++[(b,a)],M',K++[(b,a)],by simp[e],by rw[conn_comm];exact hc,by simp[e],h1.symm⟩
 obtain⟨K,M',_,e,hc,_,h1⟩:=hsp
 refine⟨h1.1,fun i hi=>?_⟩
 have h2:=h1.2 i hi
 have hn:M'.length < age M a b:=by rw[e];exact age_new hc (by rw[<-e];exact hab)
 have ho:=age_old K M' _ _ h2
 rw[<-e]at ho
 refine⟨ho.1,?_⟩
 have hd:=dist_lt M ((ts.getD a tm0).args.getD i 0).toNat ((ts.getD b tm0).args.getD i 0).toNat
 have h9:2 ^ M.length<=2 ^ 9:=Nat.pow_le_pow_right (by omega) h.nine
 have:=ho.2
 unfold mea
 omega
theorem Wz.nest{ts:List Tm}{M:List (Nat×Nat)}{pr:Nat×Nat}(h:Wz ts M pr){a b:Nat}(han:a < ts.length)(hbn:b < ts.length)(hne:a≠b)(hc:conn M a b=true)(hp:hasS pr.1 pr.2 ⟨a,b,false⟩=false) :
 hasS (firstC ts M a b).1 (firstC ts M a b).2 ⟨a,b,false⟩=true /\
 (∀ t∈allL 9,hasS (firstC ts M a b).1 (firstC ts M a b).2 t=true->t.n=false->t=normL ⟨a,b,false⟩) /\
 (∃ u v:Lt,∀ t∈allL 9,hasS (firstC ts M a b).1 (firstC ts M a b).2 t=true->t.n=true->t=u\/t=v) /\
 (∀ t∈allL 9,hasS (firstC ts M a b).1 (firstC ts M a b).2 t=true->t.n=true->t.x.toNat < ts.length/\t.y.toNat < ts.length/\conn M t.x.toNat t.y.toNat=true/\mea M t.x.toNat t.y.toNat < mea M a b):=by
 have h9:=(len_of h.tm).2
 obtain⟨n1,n2,n3⟩:=nx_near h.fo hc hne
 have hab9:LowL 9 ⟨a,b,false⟩:=⟨by show(0:Int)<=a;omega,by show(a:Int) < 9;omega,by show(0:Int)<=b;omega,by show(b:Int) < 9;omega⟩
 -- of one literal that is denied
 have one:∀(x y:Nat),x < ts.length->y < ts.length->conn M x y=true->mea M x y < mea M a b->∀ t∈allL 9,t=normL ⟨x,y,true⟩->t.x.toNat < ts.length/\t.y.toNat < ts.length/\conn M t.x.toNat t.y.toNat=true/\mea M t.x.toNat t.y.toNat < mea M a b:=by
  intro x y hx hy hxy hm t ht e
  have e1:t.x=min (x:Int) y:=by rw[e];rfl
  have e2:t.y=max (x:Int) y:=by rw[e];rfl
  rcases Nat.le_total x y with hle | hle
  ·have g1:t.x.toNat=x:=by omega
   have g2:t.y.toNat=y:=by omega
   rw[g1,g2];exact⟨hx,hy,hxy,hm⟩
  ·have g1:t.x.toNat=y:=by omega
   have g2:t.y.toNat=x:=by omega
   rw[g1,g2];exact⟨hy,hx,conn_symm hxy,by rw[<-mea_comm h.fo hxy];exact hm⟩
 unfold firstC
 by_cases hnx:nx M a b=b
 ·rw[if_pos hnx]
  rw[hnx]at n1
  obtain⟨k1,k2⟩:=h.link n1 hp
  have ai:=argsIn_of h.tm (Nat.le_refl _) a han
  have bi:=argsIn_of h.tm (Nat.le_refl _) b hbn
  have hal:=k1
  simp only[alikeB,Bool.and_eq_true,decide_eq_true_eq]at hal
  have hset:setC ts (congS a b)=ofL (congL a b (ts.getD a tm0).args (ts.getD b tm0).args (ts.getD a tm0).args.length) (0,0):=by simp[setC,congS]
  rw[hset]
  have hmem:∀ t∈allL 9,hasS (ofL (congL a b (ts.getD a tm0).args (ts.getD b tm0).args (ts.getD a tm0).args.length) (0,0)).1 (ofL (congL a b (ts.getD a tm0).args (ts.getD b tm0).args (ts.getD a tm0).args.length) (0,0)).2 t=true ->
   (t=normL ⟨a,b,false⟩)\/∃ i,i < (ts.getD a tm0).args.length/\t=normL ⟨(ts.getD a tm0).args.getD i 0,(ts.getD b tm0).args.getD i 0,true⟩:=by
   intro t ht hh
   rw[ofL_has,has_zero,Bool.false_or,List.any_eq_true]at hh
   obtain⟨u,hu,h1⟩:=hh
   simp only[congL,List.mem_cons,List.mem_map,List.mem_range]at hu
   rcases hu with rfl | ⟨i,hi,rfl⟩
   ·rw[one_norm hab9 ht]at h1
    exact .inl (@of_decide_eq_true _ (ltEq _ _) h1)
   ·have p1:=ai.2 i hi
    have p2:=bi.2 i (by omega)
    have q1:(ts.getD a tm0).args.getD i 0 < 9:=by have:=p1.2;omega
    have q2:(ts.getD b tm0).args.getD i 0 < 9:=by have:=p2.2;omega
    rw[one_norm ⟨p1.1,q1,p2.1,q2⟩ ht]at h1
    exact .inr ⟨i,hi,@of_decide_eq_true _ (ltEq _ _) h1⟩
  refine⟨?_,?_,?_,?_⟩
  ·rw[ofL_has,Bool.or_eq_true]
   right
   rw[List.any_eq_true]
   exact⟨⟨a,b,false⟩,by simp[congL],one_refl _⟩
  ·intro t ht hh hn
   rcases hmem t ht hh with h1 | ⟨i,hi,h1⟩
   ·exact h1
   ·rw[h1]at hn;cases hn
  ·refine⟨normL ⟨(ts.getD a tm0).args.getD 0 0,(ts.getD b tm0).args.getD 0 0,true⟩,normL ⟨(ts.getD a tm0).args.getD 1 0,(ts.getD b tm0).args.getD 1 0,true⟩,fun t ht hh hn=>?_⟩
   rcases hmem t ht hh with h1 | ⟨i,hi,h1⟩
   ·rw[h1]at hn;cases hn
   ·have:(ts.getD a tm0).args.length<=2:=ai.1
    have hi2:i=0\/i=1:=by omega
    rcases hi2 with rfl | rfl
    ·exact .inl h1
    ·exact .inr h1
  ·intro t ht hh hn
   rcases hmem t ht hh with h1 | ⟨i,hi,h1⟩
   ·rw[h1]at hn;cases hn
   ·have p1:=ai.2 i hi
    have p2:=bi.2 i (by omega)
    obtain⟨q1,q2⟩:=k2 i hi
    have e1:(((ts.getD a tm0).args.getD i 0).toNat:Int)=(ts.getD a tm0).args.getD i 0:=by omega
    have e2:(((ts.getD b tm0).args.getD i 0).toNat:Int)=(ts.getD b tm0).args.getD i 0:=by omega
    rw[<-e1,<-e2]at h1
    exact one _ _ (by omega) (by omega) q1 q2 t ht h1
 ·rw[if_neg hnx]
  have hage:=age_nx h.fo hc hne
  generalize nx M a b=y at *
  have hay:=adj_conn n1
  obtain⟨m1,m2⟩ | ⟨m1,m2⟩:=nx_either h.fo n1 hay
  ·have hyn:y < ts.length:=by
    rcases n1 with h1 | h1
    ·exact(h.lt _ h1).2
    ·exact(h.lt _ h1).1
   have hd1:dist M a y=1:=by
    have:=(nx_near h.fo hay m1).2.2
    rw[m2,dist_self]at this;exact this
   have hd2:=(nx_near h.fo n2 hnx).2.2
   have u1:mea M a y < mea M a b:=by have:=hage.1;unfold mea;omega
   have u2:mea M y b < mea M a b:=by have:=hage.2;unfold mea;omega
   have hset:setT (transS a y b)=ofL [⟨a,y,true⟩,⟨y,b,true⟩,⟨a,b,false⟩] (0,0):=by simp[setT,transS]
   rw[hset]
   have l1:LowL 9 ⟨a,y,true⟩:=⟨by show(0:Int)<=a;omega,by show(a:Int) < 9;omega,by show(0:Int)<=y;omega,by show(y:Int) < 9;omega⟩
   have l2:LowL 9 ⟨y,b,true⟩:=⟨by show(0:Int)<=y;omega,by show(y:Int) < 9;omega,by show(0:Int)<=b;omega,by show(b:Int) < 9;omega⟩
   have hmem:∀ t∈allL 9,hasS (ofL [⟨a,y,true⟩,⟨y,b,true⟩,⟨a,b,false⟩] (0,0)).1 (ofL [⟨a,y,true⟩,⟨y,b,true⟩,⟨a,b,false⟩] (0,0)).2 t=true->t=normL ⟨a,y,true⟩\/t=normL ⟨y,b,true⟩\/t=normL ⟨a,b,false⟩:=by
    intro t ht hh
    rw[ofL_has,has_zero,Bool.false_or,List.any_eq_true]at hh
    obtain⟨u,hu,h1⟩:=hh
    simp only[List.mem_cons,List.not_mem_nil,or_false]at hu
    rcases hu with rfl | rfl | rfl
    ·rw[one_norm l1 ht]at h1;exact .inl (@of_decide_eq_true _ (ltEq _ _) h1)
    ·rw[one_norm l2 ht]at h1;exact .inr (.inl (@of_decide_eq_true _ (ltEq _ _) h1))
    ·rw[one_norm hab9 ht]at h1;exact .inr (.inr (@of_decide_eq_true _ (ltEq _ _) h1))
   refine⟨?_,?_,?_,?_⟩
   ·rw[ofL_has,Bool.or_eq_true]
    right
    rw[List.any_eq_true]
    exact⟨⟨a,b,false⟩,by simp,one_refl _⟩
   ·intro t ht hh hn
    rcases hmem t ht hh with h1 | h1 | h1
    ·rw[h1]at hn;cases hn
    ·rw[h1]at hn;cases hn
    ·exact h1
   ·refine⟨normL ⟨a,y,true⟩,normL ⟨y,b,true⟩,fun t ht hh hn=>?_⟩
    rcases hmem t ht hh with h1 | h1 | h1
    ·exact .inl h1
    ·exact .inr h1
    ·rw[h1]at hn;cases hn
   ·intro t ht hh hn
    rcases hmem t ht hh with h1 | h1 | h1
    ·exact one a y han hyn hay u1 t ht h1
    ·exact one y b hyn hbn n2 u2 t ht h1
    ·rw[h1]at hn;cases hn
  ·exact absurd rfl m1
theorem Wz.res{ts:List Tm}{M:List (Nat×Nat)}{pr:Nat×Nat}(h:Wz ts M pr):∀(f a b:Nat),a < ts.length->b < ts.length->conn M a b=true->hasS pr.1 pr.2 ⟨a,b,false⟩=false->mea M a b < f->Res pr a b (eqC ts M pr f a b)
 | 0,a,b,_,_,_,_,hm=>absurd hm (by omega)
 | f+1,a,b,ha,hb,hc,hp,hm=>by
   have h9:=(len_of h.tm).2
   have hab9:LowL 9 ⟨a,b,false⟩:=⟨by show(0:Int)<=a;omega,by show(a:Int) < 9;omega,by show(0:Int)<=b;omega,by show(b:Int) < 9;omega⟩
   by_cases hne:a=b
   ·subst hne
    rw[eqC_self]
    have hset:setR (reflS a)=ofL [⟨a,a,false⟩] (0,0):=by simp[setR,reflS]
    rw[hset]
    refine⟨?_,fun t ht hh=>?_⟩
    ·rw[ofL_has,Bool.or_eq_true,List.any_eq_true]
     exact .inr ⟨⟨a,a,false⟩,by simp,one_refl _⟩
    ·rw[ofL_has,has_zero,Bool.false_or,List.any_eq_true]at hh
     obtain⟨u,hu,h1⟩:=hh
     simp only[List.mem_cons,List.not_mem_nil,or_false]at hu
     subst hu
     rw[one_norm hab9 ht]at h1
     have h1:=@of_decide_eq_true _ (ltEq _ _) h1
     refine⟨fun _=>h1,fun hn=>?_⟩
     rw[h1]at hn;cases hn
   ·rw[eqC_step hne]
    obtain⟨n1,n2,_,n4⟩:=h.nest ha hb hne hc hp
    refine cuts_res hab9 _ _ (inOrd_nodup _ _) (fun t ht=>(inOrd_iff.1 ht).1) n1 n2 (fun t ht hh hn=>.inr (inOrd_iff.2 ⟨ht,hh⟩)) ?_
    intro t ht hn hpt
    obtain⟨t1,t2⟩:=inOrd_iff.1 ht
    obtain⟨q1,q2,q3,q4⟩:=n4 t t1 t2 hn
    obtain⟨l1,l2,l3⟩:=allL_low t t1
    refine h.res f _ _ q1 q2 q3 ?_ (by omega)
    have ex:((t.x.toNat:Nat):Int)=t.x:=by omega
    have ey:((t.y.toNat:Nat):Int)=t.y:=by omega
    rw[ex,ey]
    have:conL t=⟨t.x,t.y,false⟩:=by simp[conL,hn]
    rw[<-this];exact hpt
theorem cutsC_congr{pr:Nat×Nat}{rec rec':Nat->Nat->Nat×Nat}:∀(ls:List Lt) (c:Nat×Nat),(∀ t∈ls,t.n=true->hasS pr.1 pr.2 (conL t)=false->rec t.x.toNat t.y.toNat=rec' t.x.toNat t.y.toNat)->cutsC pr rec ls c=cutsC pr rec' ls c
 | [],c,_=>rfl
 | t :: ls,c,h=>by
   unfold cutsC
   by_cases hc:(t.n && !hasS pr.1 pr.2 (conL t))=true
   ·rw[if_pos hc,if_pos hc]
    simp only[Bool.and_eq_true,Bool.not_eq_true']at hc
    rw[h t List.mem_cons_self hc.1 hc.2,cutsC_congr ls _ (fun u hu=>h u (List.mem_cons_of_mem _ hu))]
   ·rw[if_neg hc,if_neg hc]
    exact cutsC_congr ls _ (fun u hu=>h u (List.mem_cons_of_mem _ hu))
theorem Wz.stable{ts:List Tm}{M:List (Nat×Nat)}{pr:Nat×Nat}(h:Wz ts M pr):∀(f g a b:Nat),a < ts.length->b < ts.length->conn M a b=true->hasS pr.1 pr.2 ⟨a,b,false⟩=false->mea M a b < f->mea M a b < g->seqC ts M pr f a b=seqC ts M pr g a b
 | 0,g,a,b,_,_,_,_,hm,_=>absurd hm (by omega)
 | f+1,0,a,b,_,_,_,_,_,hm=>absurd hm (by omega)
 | f+1,g+1,a,b,ha,hb,hc,hp,hm,hg=>by
   unfold seqC
   by_cases hne:a=b
   ·rw[if_pos hne,if_pos hne]
   ·rw[if_neg hne,if_neg hne]
    obtain⟨_,_,_,n4⟩:=h.nest ha hb hne hc hp
    congr 1
    refine cutsC_congr _ _ ?_
    intro t ht hn hpt
    obtain⟨t1,t2⟩:=inOrd_iff.1 ht
    obtain⟨q1,q2,q3,q4⟩:=n4 t t1 t2 hn
    obtain⟨l1,l2,l3⟩:=allL_low t t1
    have ex:((t.x.toNat:Nat):Int)=t.x:=by omega
    have ey:((t.y.toNat:Nat):Int)=t.y:=by omega
    have hcl:conL t=⟨t.x,t.y,false⟩:=by simp[conL,hn]
    show(seqC ts M pr f _ _).getLastD _=(seqC ts M pr g _ _).getLastD _
    rw[h.stable f g t.x.toNat t.y.toNat q1 q2 q3 (by rw[ex,ey,<-hcl];exact hpt) (by omega) (by omega)]
def tabC(ts:List Tm)(M:List (Nat×Nat))(pr:Nat×Nat):List (Nat×Nat):=(List.range ts.length).flatMap fun a=>(List.range ts.length).flatMap fun b=>(seqC ts M pr (mea M a b+1) a b).take 3
theorem len_flat{α β:Type}(f:α->List β)(k:Nat):∀ l:List α,(∀ x∈l,(f x).length<=k)->(l.flatMap f).length<=l.length*k
 | [],_=>by simp
 | x :: l,h=>by
   rw[List.flatMap_cons,List.length_append,List.length_cons,Nat.succ_mul]
   have h1:=h x List.mem_cons_self
   have h2:=len_flat f k l (fun y hy=>h y (List.mem_cons_of_mem _ hy))
   omega
theorem tabC_length{ts:List Tm}{M:List (Nat×Nat)}{pr:Nat×Nat}(h9:ts.length<=9):(tabC ts M pr).length<=243:=by
 have h1:∀ a,((List.range ts.length).flatMap fun b=>(seqC ts M pr (mea M a b+1) a b).take 3).length<=27:=by
  intro a
  have:=len_flat (fun b=>(seqC ts M pr (mea M a b+1) a b).take 3) 3 (List.range ts.length) (fun b _=>by rw[List.length_take];omega)
  rw[List.length_range]at this
  omega
 have:=len_flat (fun a=>(List.range ts.length).flatMap fun b=>(seqC ts M pr (mea M a b+1) a b).take 3) 27 (List.range ts.length) (fun a _=>h1 a)
 rw[List.length_range]at this
 unfold tabC
 omega
theorem cutsC_len{pr:Nat×Nat}{rec:Nat->Nat->Nat×Nat}:∀(ls:List Lt) (c:Nat×Nat),(cutsC pr rec ls c).length<=(ls.filter Lt.n).length
 | [],c=>by simp[cutsC]
 | t :: ls,c=>by
   unfold cutsC
   by_cases hc:(t.n && !hasS pr.1 pr.2 (conL t))=true
   ·rw[if_pos hc]
    have hn:t.n=true:=by simp only[Bool.and_eq_true]at hc;exact hc.1
    have:=cutsC_len (pr:=pr) (rec:=rec) ls (cutC t c (rec t.x.toNat t.y.toNat))
    rw[List.filter_cons_of_pos hn,List.length_cons,List.length_cons]
    exact Nat.succ_le_succ this
   ·rw[if_neg hc]
    have:=cutsC_len (pr:=pr) (rec:=rec) ls c
    cases hn:t.n
    ·rw[List.filter_cons_of_neg (by simp[hn])];exact this
    ·rw[List.filter_cons_of_pos hn,List.length_cons];omega
theorem two_of{l:List Lt}{u v:Lt}(hn:l.Nodup)(h:∀ t∈l,t=u\/t=v):l.length<=2:=by
 match l,hn,h with
 | [],_,_=>simp
 | [_],_,_=>simp
 | [_,_],_,_=>simp
 | a :: b :: c :: l,hn,h=>
   exfalso
   simp only[List.nodup_cons,List.mem_cons,not_or]at hn
   have h1:=h a (by simp)
   have h2:=h b (by simp)
   have h3:=h c (by simp)
   obtain⟨⟨n1,n2,_⟩,⟨n3,_⟩,_⟩:=hn
   rcases h1 with rfl | rfl <;> rcases h2 with rfl | rfl <;> rcases h3 with rfl | rfl <;> simp_all
theorem Wz.seq_len{ts:List Tm}{M:List (Nat×Nat)}{pr:Nat×Nat}(h:Wz ts M pr){f a b:Nat}(ha:a < ts.length)(hb:b < ts.length)(hc:conn M a b=true)(hp:hasS pr.1 pr.2 ⟨a,b,false⟩=false):(seqC ts M pr f a b).length<=3:=by
 cases f with
 | zero=>simp[seqC]
 | succ f=>
   unfold seqC
   by_cases hne:a=b
   ·rw[if_pos hne];simp
   ·rw[if_neg hne]
    obtain⟨_,_,⟨u,v,n3⟩,_⟩:=h.nest ha hb hne hc hp
    have h1:=cutsC_len (pr:=pr) (rec:=fun x y=>(seqC ts M pr f x y).getLastD (0,0)) (inOrd (firstC ts M a b).1 (firstC ts M a b).2) (firstC ts M a b)
    have h2:((inOrd (firstC ts M a b).1 (firstC ts M a b).2).filter Lt.n).length<=2:=by
     refine two_of (u:=u) (v:=v) ((inOrd_nodup _ _).sublist List.filter_sublist) (fun t ht=>?_)
     obtain⟨t1,t2⟩:=List.mem_filter.1 ht
     obtain⟨t3,t4⟩:=inOrd_iff.1 t1
     exact n3 t t3 t4 t2
    rw[List.length_cons];omega
theorem Wz.in_tab{ts:List Tm}{M:List (Nat×Nat)}{pr:Nat×Nat}(h:Wz ts M pr){f a b:Nat}(ha:a < ts.length)(hb:b < ts.length)(hc:conn M a b=true)(hp:hasS pr.1 pr.2 ⟨a,b,false⟩=false)(hm:mea M a b < f) :
 ∀ c∈seqC ts M pr f a b,c∈tabC ts M pr:=by
 intro c hcm
 rw[h.stable f (mea M a b+1) a b ha hb hc hp hm (by omega)]at hcm
 unfold tabC
 refine List.mem_flatMap.2 ⟨a,List.mem_range.2 ha,List.mem_flatMap.2 ⟨b,List.mem_range.2 hb,?_⟩⟩
 rw[List.take_of_length_le (h.seq_len ha hb hc hp)]
 exact hcm
end Go.Proofs.YtjebhhoibofmfaaGreat
namespace Go.Proofs.YtjebhhoibofmfaaGreat
structure EnvOf (E:Env) (ts:List Tm) (cs:List Cl):Prop where
 n:E.n=ts.length
 m:E.m=cs.length
 ok:E.ok=nextB ts cs
 go:E.go=nextS ts cs
structure PfOk (E:Env) (P:Pf):Prop where
 len:P.sts.length=P.ss.length
 nd:P.ss.Nodup
 ok:∀ i,i < P.ss.length->E.ok (P.ss.take i) (P.sts.getD i st0)=true/\P.ss.getD i (0,0)=E.go (P.ss.take i) (P.sts.getD i st0)
def Gr(T:List (Nat×Nat))(P P':Pf):Prop:=∃ more more',P'.ss=P.ss++more/\P'.sts=P.sts++more'/\∀ c∈more,c∈T
theorem Gr.refl(T:List (Nat×Nat))(P:Pf):Gr T P P:=⟨[],[],by simp,by simp,by simp⟩
theorem Gr.trans{T:List (Nat×Nat)}{P P' P'':Pf}(h:Gr T P P')(h':Gr T P' P''):Gr T P P'':=by
 obtain⟨m,m',h1,h2,h3⟩:=h
 obtain⟨k,k',g1,g2,g3⟩:=h'
 refine⟨m++k,m'++k',by rw[g1,h1,List.append_assoc],by rw[g2,h2,List.append_assoc],fun c hc=>?_⟩
 rcases List.mem_append.1 hc with hc | hc
 ·exact h3 c hc
 ·exact g3 c hc
theorem Gr.mono{T U:List (Nat×Nat)}{P P':Pf}(h:Gr T P P')(hs:∀ c∈T,c∈U):Gr U P P':=by
 obtain⟨m,m',h1,h2,h3⟩:=h
 exact⟨m,m',h1,h2,fun c hc=>hs c (h3 c hc)⟩
theorem Gr.cl{T:List (Nat×Nat)}{P P':Pf}(h:Gr T P P'){k:Nat}(hk:k < P.ss.length):clOf P' k=clOf P k/\k < P'.ss.length:=by
 obtain⟨m,m',h1,_,_⟩:=h
 unfold clOf
 rw[h1,List.getD_eq_getElem?_getD,List.getD_eq_getElem?_getD,List.getElem?_append_left hk]
 exact⟨rfl,by rw[List.length_append];omega⟩
theorem Gr.le{T:List (Nat×Nat)}{P P':Pf}(h:Gr T P P'):P.ss.length<=P'.ss.length:=by
 obtain⟨m,m',h1,_,_⟩:=h
 rw[h1,List.length_append];omega
theorem nodup_len{α:Type}[DecidableEq α]:∀ {l T:List α},l.Nodup->(∀ c∈l,c∈T)->l.length<=T.length
 | [],T,_,_=>by simp
 | c :: l,T,hn,h=>by
   obtain⟨h1,h2⟩:=List.nodup_cons.1 hn
   have hc:=h c List.mem_cons_self
   have:=nodup_len (l:=l) (T:=T.erase c) h2 (fun x hx=>(List.mem_erase_of_ne (fun e=>h1 (by rw[<-e];exact hx))).2 (h x (List.mem_cons_of_mem _ hx)))
   rw[List.length_erase_of_mem hc]at this
   have hl:=List.length_pos_of_mem hc
   rw[List.length_cons];omega
theorem Gr.bound{T:List (Nat×Nat)}{P P':Pf}(h:Gr T P P')(hn:P'.ss.Nodup):P'.ss.length<=P.ss.length+T.length:=by
 obtain⟨m,m',h1,_,h3⟩:=h
 rw[h1]at hn ⊢
 have:=nodup_len (List.nodup_append.1 hn).2.1 h3
 rw[List.length_append];omega
theorem addP_ok{E:Env}{P:Pf}{s:St}(hP:PfOk E P)(hok:E.ok P.ss s=true)(hroom:E.go P.ss s ∉ P.ss->P.ss.length < stepsMax) :
 ∃ k P',addP E P s=some (k,P')/\PfOk E P'/\k < P'.ss.length/\clOf P' k=E.go P.ss s/\Gr [E.go P.ss s] P P'/\P'.ss.length<=P.ss.length+1:=by
 unfold addP
 rw[if_pos hok]
 generalize hc:E.go P.ss s=c at *
 by_cases hm:c∈P.ss
 ·rw[if_pos hm]
  have hi:=List.idxOf_lt_length_iff.2 hm
  refine⟨_,_,rfl,hP,hi,?_,Gr.refl _ _,by omega⟩
  unfold clOf
  rw[List.getD_eq_getElem?_getD,List.getElem?_eq_getElem hi,Option.getD_some]
  exact List.getElem_idxOf hi
 ·rw[if_neg hm,if_pos (hroom hm)]
  refine⟨_,_,rfl,⟨?_,?_,?_⟩,?_,?_,⟨[c],[s],rfl,rfl,by simp⟩,?_⟩
  ·simp[hP.len]
  ·show(P.ss++[c]).Nodup
   rw[List.nodup_append]
   exact⟨hP.nd,by simp,fun a ha b hb=>by simp at hb;rw[hb];exact fun e=>hm (e ▸ ha)⟩
  ·intro i hi
   replace hi:i < P.ss.length+1:=by simpa using hi
   show E.ok ((P.ss++[c]).take i) ((P.sts++[s]).getD i st0)=true/\(P.ss++[c]).getD i (0,0)=E.go ((P.ss++[c]).take i) ((P.sts++[s]).getD i st0)
   by_cases hl:i < P.ss.length
   ·have:=hP.ok i hl
    rw[List.take_append_of_le_length (by omega)]
    simp only[List.getD_eq_getElem?_getD]at *
    rw[List.getElem?_append_left hl,List.getElem?_append_left (by rw[hP.len];exact hl)]
    exact this
   ·have e:i=P.ss.length:=by omega
    subst e
    rw[List.take_left]
    simp only[List.getD_eq_getElem?_getD]
    rw[<-hP.len,List.getElem?_append_right (Nat.le_refl _),hP.len,List.getElem?_append_right (Nat.le_refl _)]
    simp[hok,hc]
  ·simp
  ·unfold clOf
   simp
  ·simp
theorem okX_yes{ts:List Tm}{cs:List Cl}{ss:List (Nat×Nat)}{j k:Nat}{x y:Int}(hj:j < ss.length)(hk:k < ss.length)(hx:0<=x/\x < ts.length)(hy:0<=y/\y < ts.length)
 (h1:hasS (ss.getD j (0,0)).1 (ss.getD j (0,0)).2 ⟨x,y,false⟩=true) (h2:hasS (ss.getD k (0,0)).1 (ss.getD k (0,0)).2 ⟨x,y,true⟩=true):nextB ts cs ss ⟨4,j,k,x,y⟩=true:=by
 have e:nextB ts cs ss ⟨4,j,k,x,y⟩=okX (ts.length:Nat) ss ⟨4,j,k,x,y⟩:=by simp[nextB]
 rw[e]
 unfold okX
 simp only[Int.toNat_natCast,h1,h2,Bool.and_true]
 rw[Bool.and_eq_true]
 constructor
 ·refine allB_yes (fun i hi=>?_)
  simp at hi
  have:i=0\/i=1:=by omega
  rcases this with rfl | rfl
  ·exact belowB_iff.2 ⟨by simp,by simpa using hj⟩
  ·exact belowB_iff.2 ⟨by simp,by simpa using hk⟩
 ·refine allB_yes (fun i hi=>?_)
  simp at hi
  have:i=0\/i=1:=by omega
  rcases this with rfl | rfl
  ·exact belowB_iff.2 hx
  ·exact belowB_iff.2 hy
theorem setX_cut(ts:List Tm)(cs:List Cl)(ss:List (Nat×Nat))(j k:Nat)(t:Lt):nextS ts cs ss ⟨4,j,k,t.x,t.y⟩=cutC t (ss.getD k (0,0)) (ss.getD j (0,0)):=by
 simp[nextS,setX,cutC]
theorem Gr.room{T:List (Nat×Nat)}{P0 P:Pf}(h:Gr T P0 P)(hn:P.ss.Nodup)(hr:P0.ss.length+T.length<=stepsMax){c:Nat×Nat}(hc:c∈T)(hm:c ∉ P.ss):P.ss.length < stepsMax:=by
 obtain⟨m,m',h1,_,h3⟩:=h
 have h2:(m++[c]).Nodup:=by
  rw[List.nodup_append]
  rw[h1]at hn hm
  exact⟨(List.nodup_append.1 hn).2.1,by simp,fun a ha b hb=>by simp at hb;rw[hb];exact fun e=>hm (List.mem_append.2 (.inr (e ▸ ha)))⟩
 have:=nodup_len h2 (T:=T) (fun x hx=>by
  rcases List.mem_append.1 hx with hx | hx
  ·exact h3 x hx
  ·simp at hx;rw[hx];exact hc)
 rw[List.length_append,List.length_singleton]at this
 rw[h1,List.length_append];omega
theorem cuts_some{E:Env}{ts:List Tm}{cs:List Cl}(hE:EnvOf E ts cs){pr:Nat×Nat}{rec:Nat->Nat->Pf->Option (Nat×Pf)}{recC:Nat->Nat->Nat×Nat}{T:List (Nat×Nat)}{P0:Pf}(hr:P0.ss.length+T.length<=stepsMax) :
 ∀(ls:List Lt) (c:Nat×Nat) (k:Nat) (P:Pf),PfOk E P->Gr T P0 P->k < P.ss.length->clOf P k=c->ls.Nodup->(∀ t∈ls,t∈allL 9)->(∀ t∈ls,t.n=true->hasS c.1 c.2 t=true)->(∀ c'∈cutsC pr recC ls c,c'∈T) ->
 (∀ t∈ls,t.n=true->hasS pr.1 pr.2 (conL t)=false->(t.x < ts.length/\t.y < ts.length/\Res pr t.x.toNat t.y.toNat (recC t.x.toNat t.y.toNat))/\∀ P,PfOk E P->Gr T P0 P->∃ k' P',rec t.x.toNat t.y.toNat P=some (k',P')/\PfOk E P'/\Gr T P P'/\k' < P'.ss.length/\clOf P' k'=recC t.x.toNat t.y.toNat) ->
 ∃ k' P',cutsP E pr rec ls k P=some (k',P')/\PfOk E P'/\Gr T P P'/\k' < P'.ss.length/\clOf P' k'=(cutsC pr recC ls c).getLastD c
 | [],c,k,P,hP,hG,hk,hc,_,_,_,_,_=>⟨k,P,rfl,hP,Gr.refl _ _,hk,hc⟩
 | t :: ls,c,k,P,hP,hG,hk,hc,hnd,hall,h4,hT,hrec=>by
   obtain⟨hnot,hnd⟩:=List.nodup_cons.1 hnd
   have hta:=hall t List.mem_cons_self
   obtain⟨l1,l2,l3⟩:=allL_low t hta
   unfold cutsP
   unfold cutsC
   unfold cutsC at hT
   by_cases hcond:(t.n && !hasS pr.1 pr.2 (conL t))=true
   ·rw[if_pos hcond]at hT
    rw[if_pos hcond,if_pos hcond]
    simp only[Bool.and_eq_true,Bool.not_eq_true']at hcond
    obtain⟨hn,hp⟩:=hcond
    obtain⟨⟨q1,q2,hres⟩,hrc⟩:=hrec t List.mem_cons_self hn hp
    obtain⟨j,P1,e1,hP1,hG1,hj,hcj⟩:=hrc P hP hG
    rw[e1,Option.bind_some]
    generalize hcc:recC t.x.toNat t.y.toNat=cj at *
    obtain⟨hc1,hk1⟩:=hG1.cl hk
    have ex:((t.x.toNat:Nat):Int)=t.x:=by omega
    have ey:((t.y.toNat:Nat):Int)=t.y:=by omega
    have hs:cutS k j t=⟨4,j,k,t.x,t.y⟩:=by simp[cutS,hn]
    have ett:(⟨t.x,t.y,true⟩:Lt)=t:=by cases t;simp_all
    have hck:P1.ss.getD k (0,0)=c:=by unfold clOf at hc1 hc;rw[hc1,hc]
    have hcj':P1.ss.getD j (0,0)=cj:=hcj
    have hgo:E.go P1.ss (cutS k j t)=cutC t c cj:=by rw[hE.go,hs,setX_cut,hck,hcj']
    have hok:E.ok P1.ss (cutS k j t)=true:=by
     rw[hE.ok,hs]
     refine okX_yes hj hk1 ⟨l1,q1⟩ ⟨by omega,q2⟩ ?_ ?_
     ·rw[hcj']
      have:=hres.1
      rw[ex,ey]at this;exact this
     ·rw[hck,ett];exact h4 t List.mem_cons_self hn
    have hcT:cutC t c cj∈T:=hT _ List.mem_cons_self
    obtain⟨k2,P2,e2,hP2,hk2,hc2,hG2,_⟩:=addP_ok hP1 hok (fun hm=>(hG.trans hG1).room hP1.nd hr (by rw[hgo];exact hcT) hm)
    rw[e2,Option.bind_some]
    rw[hgo]at hc2 hG2
    have hG2':Gr T P1 P2:=hG2.mono (by intro x hx;simp at hx;rw[hx];exact hcT)
    have ln:LowL 9 ⟨t.x,t.y,true⟩:=⟨l1,by show t.x < 9;omega,by show 0<=t.y;omega,l3⟩
    obtain⟨k3,P3,e3,hP3,hG3,hk3,hc3⟩:=cuts_some hE hr ls (cutC t c cj) k2 P2 hP2 ((hG.trans hG1).trans hG2') hk2 hc2 hnd (fun u hu=>hall u (List.mem_cons_of_mem _ hu))
     (fun u hu hun=>by
       rw[cutC_has,h4 u (List.mem_cons_of_mem _ hu) hun,one_norm ln (hall u (List.mem_cons_of_mem _ hu)),ett,norm_self hta]
       have:u≠t:=fun e=>hnot (e ▸ hu)
       simp[this])
     (fun c' hc'=>hT c' (List.mem_cons_of_mem _ hc')) (fun u hu=>hrec u (List.mem_cons_of_mem _ hu))
    refine⟨k3,P3,e3,hP3,(hG1.trans hG2').trans hG3,hk3,?_⟩
    rw[List.getLastD_cons];exact hc3
   ·rw[if_neg hcond]at hT
    rw[if_neg hcond,if_neg hcond]
    exact cuts_some hE hr ls c k P hP hG hk hc hnd (fun u hu=>hall u (List.mem_cons_of_mem _ hu)) (fun u hu=>h4 u (List.mem_cons_of_mem _ hu)) hT (fun u hu=>hrec u (List.mem_cons_of_mem _ hu))
theorem ok_refl{ts:List Tm}{cs:List Cl}{ss:List (Nat×Nat)}{a:Nat}(ha:a < ts.length):nextB ts cs ss (reflS a)=true:=by
 have e:nextB ts cs ss (reflS a)=okR (ts.length:Nat) (reflS a):=by simp[nextB,reflS]
 rw[e]
 unfold okR
 rw[Bool.and_eq_true]
 constructor
 ·refine allB_yes (fun i hi=>?_)
  simp at hi
  subst hi
  exact belowB_iff.2 ⟨by simp[reflS],by simpa[reflS] using ha⟩
 ·simp[allNil,allB,reflS,List.range_succ]
theorem ok_trans{ts:List Tm}{cs:List Cl}{ss:List (Nat×Nat)}{a b c:Nat}(ha:a < ts.length)(hb:b < ts.length)(hc:c < ts.length):nextB ts cs ss (transS a b c)=true:=by
 have e:nextB ts cs ss (transS a b c)=okT (ts.length:Nat) (transS a b c):=by simp[nextB,transS]
 rw[e]
 unfold okT
 rw[Bool.and_eq_true]
 constructor
 ·refine allB_yes (fun i hi=>?_)
  simp at hi
  have:i=0\/i=1\/i=2:=by omega
  rcases this with rfl | rfl | rfl
  ·exact belowB_iff.2 ⟨by simp[transS],by simpa[transS] using ha⟩
  ·exact belowB_iff.2 ⟨by simp[transS],by simpa[transS] using hb⟩
  ·exact belowB_iff.2 ⟨by simp[transS],by simpa[transS] using hc⟩
 ·simp[allNil,allB,transS,List.range_succ]
theorem ok_cong{ts:List Tm}{cs:List Cl}{ss:List (Nat×Nat)}{a b:Nat}(ha:a < ts.length)(hb:b < ts.length)
 (hal:alikeB (ts.getD a tm0).sym (ts.getD b tm0).sym (ts.getD a tm0).args.length (ts.getD b tm0).args.length=true):nextB ts cs ss (congS a b)=true:=by
 have e:nextB ts cs ss (congS a b)=okC ts (congS a b):=by simp[nextB,congS]
 rw[e]
 unfold okC
 rw[Bool.and_eq_true,Bool.and_eq_true]
 refine⟨⟨?_,?_⟩,by simpa[congS] using hal⟩
 ·refine allB_yes (fun i hi=>?_)
  simp at hi
  have:i=0\/i=1:=by omega
  rcases this with rfl | rfl
  ·exact belowB_iff.2 ⟨by simp[congS],by simpa[congS] using ha⟩
  ·exact belowB_iff.2 ⟨by simp[congS],by simpa[congS] using hb⟩
 ·simp[allNil,allB,congS,List.range_succ]
theorem Wz.eq_some{E:Env}{ts:List Tm}{cs:List Cl}(hE:EnvOf E ts cs){M:List (Nat×Nat)}{pr:Nat×Nat}(h:Wz ts M pr){P0:Pf}(hr:P0.ss.length+(tabC ts M pr).length<=stepsMax) :
 ∀(f a b:Nat) (P:Pf),a < ts.length->b < ts.length->conn M a b=true->hasS pr.1 pr.2 ⟨a,b,false⟩=false->mea M a b < f->PfOk E P->Gr (tabC ts M pr) P0 P ->
 ∃ k P',eqP E M pr f a b P=some (k,P')/\PfOk E P'/\Gr (tabC ts M pr) P P'/\k < P'.ss.length/\clOf P' k=eqC ts M pr f a b
 | 0,a,b,P,_,_,_,_,hm,_,_=>absurd hm (by omega)
 | f+1,a,b,P,ha,hb,hc,hp,hm,hP,hG=>by
   have htab:=h.in_tab ha hb hc hp hm
   unfold eqP
   by_cases hne:a=b
   ·subst hne
    rw[if_pos rfl,eqC_self]
    have hgo:E.go P.ss (reflS a)=setR (reflS a):=by rw[hE.go];simp[nextS,reflS]
    have hin:setR (reflS a)∈tabC ts M pr:=htab _ (by simp[seqC])
    obtain⟨k,P',e,hP',hk,hcl,hG',_⟩:=addP_ok hP (s:=reflS a) (by rw[hE.ok];exact ok_refl ha) (fun hm=>hG.room hP.nd hr (by rw[hgo];exact hin) hm)
    rw[hgo]at hcl hG'
    exact⟨k,P',e,hP',hG'.mono (by intro x hx;simp at hx;rw[hx];exact hin),hk,hcl⟩
   ·rw[if_neg hne,if_pos (by rw[hE.n];simp[hc,ha,hb])]
    obtain⟨n1,n2,n3,n4⟩:=h.nest ha hb hne hc hp
    obtain⟨m1,m2,m3⟩:=nx_near h.fo hc hne
    have hyn:nx M a b < ts.length:=by
     rcases m1 with h1 | h1
     ·exact(h.lt _ h1).2
     ·exact(h.lt _ h1).1
    have hgo:E.go P.ss (firstS M a b)=firstC ts M a b:=by
     rw[hE.go]
     unfold firstS firstC
     by_cases hnx:nx M a b=b
     ·rw[if_pos hnx,if_pos hnx];simp[nextS,congS]
     ·rw[if_neg hnx,if_neg hnx];simp[nextS,transS]
    have hok:E.ok P.ss (firstS M a b)=true:=by
     rw[hE.ok]
     unfold firstS
     by_cases hnx:nx M a b=b
     ·rw[if_pos hnx]
      rw[hnx]at m1
      exact ok_cong ha hb (h.link m1 hp).1
     ·rw[if_neg hnx];exact ok_trans ha hyn hb
    have hin:firstC ts M a b∈tabC ts M pr:=htab _ (by simp[seqC,hne])
    have hinc:∀ c'∈cutsC pr (eqC ts M pr f) (inOrd (firstC ts M a b).1 (firstC ts M a b).2) (firstC ts M a b),c'∈tabC ts M pr:=by
     intro c' hc'
     refine htab _ ?_
     unfold seqC
     rw[if_neg hne]
     exact List.mem_cons_of_mem _ hc'
    obtain⟨k,P1,e,hP1,hk,hcl,hG1,_⟩:=addP_ok hP hok (fun hm=>hG.room hP.nd hr (by rw[hgo];exact hin) hm)
    have e':addP E P (if nx M a b=b then congS a b else transS a (nx M a b) b)=some (k,P1):=e
    rw[e',Option.bind_some]
    rw[hgo]at hcl hG1
    have hG1':Gr (tabC ts M pr) P P1:=hG1.mono (by intro x hx;simp at hx;rw[hx];exact hin)
    rw[eqC_step hne]
    simp only[hcl]
    obtain⟨k2,P2,e2,hP2,hG2,hk2,hc2⟩:=cuts_some hE hr (inOrd (firstC ts M a b).1 (firstC ts M a b).2) (firstC ts M a b) k P1 hP1 (hG.trans hG1') hk hcl (inOrd_nodup _ _) (fun t ht=>(inOrd_iff.1 ht).1) (fun t ht _=>(inOrd_iff.1 ht).2) hinc (rec:=eqP E M pr f) (by
     intro t ht hn hpt
     obtain⟨t1,t2⟩:=inOrd_iff.1 ht
     obtain⟨q1,q2,q3,q4⟩:=n4 t t1 t2 hn
     obtain⟨l1,l2,l3⟩:=allL_low t t1
     have ex:((t.x.toNat:Nat):Int)=t.x:=by omega
     have ey:((t.y.toNat:Nat):Int)=t.y:=by omega
     have hcl:conL t=⟨t.x,t.y,false⟩:=by simp[conL,hn]
     have hp':hasS pr.1 pr.2 ⟨t.x.toNat,t.y.toNat,false⟩=false:=by rw[ex,ey,<-hcl];exact hpt
     exact⟨⟨by omega,by omega,h.res f _ _ q1 q2 q3 hp' (by omega)⟩,fun P' hP' hG'=>h.eq_some hE hr f _ _ P' q1 q2 q3 hp' (by omega) hP' hG'⟩)
    exact⟨k2,P2,e2,hP2,hG1'.trans hG2,hk2,hc2⟩
end Go.Proofs.YtjebhhoibofmfaaGreat
