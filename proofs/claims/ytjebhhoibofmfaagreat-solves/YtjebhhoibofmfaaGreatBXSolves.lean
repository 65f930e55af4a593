import Derived.Test.YtjebhhoibofmfaaGreatRows
import Derived.Test.YtjebhhoibofmfaaGreatBMSo
import Derived.Test.YtjebhhoibofmfaaGreatBXOpA
import Derived.WalkKit
import Derived.ProofKit
import Derived.OpenShut
import Derived.ShutString
import Derived.ChangeOld
import Derived.SizedLaws
import Derived.Below
namespace Go.Proofs.YtjebhhoibofmfaaGreat.solves
open Go.ChangeShapes Go.WideShapes Go.ChangeAt Go.RowKit
set_option linter.unusedVariables false
theorem own:ownKnob Tryz.prog.godebug=none:=by kernel_rfl
theorem laidOut:laidOutB Tryz.prog=true:=by kernel_rfl
theorem capTerms{H:Type}{enc:TypeId×Value->H}{W:World}{base:Nat}{spare:Nat->Bool}{held:Bool}{fuel:Nat}{a:Option Addr}{len cap:Nat}{x:DataW H×List MemPlace}
 (h:DataW.trod enc Tryz.prog W base spare held fuel 22 [.slice a len cap]=some x):len<=cap:=by
 rcases Go.Deep.open_slice Tryz.underlying22 h with⟨h1,_⟩ | ⟨a',len',cap',m,n,D,Pl,h1,_,hl,_⟩
 ·injection h1 with h1
  injection h1 with h1 h2 h3
  omega
 ·injection h1 with h1
  injection h1 with h1 h2 h3
  omega
theorem capProblem{H:Type}{enc:TypeId×Value->H}{W:World}{base:Nat}{spare:Nat->Bool}{held:Bool}{fuel:Nat}{a b:Option Addr}{len cap m c:Nat}{x:DataW H×List MemPlace}
 (h:DataW.trod enc Tryz.prog W base spare held fuel 25 [.slice a len cap,.slice b m c]=some x):len<=cap:=by
 obtain⟨y0,y1,n,rfl,hl,h0,h1⟩:=trod_struct2 Tryz.underlying25 h
 have hc0:Tryz.prog.cellsOf 22=1:=by kernel_rfl
 rw[hc0]at h0
 exact capTerms h0
set_option maxRecDepth 100000 in
theorem lifted(os:Os)(started:os.Started)(H:Type)(enc:TypeId×Value->H) :
 ReturnsInHanded {} Tryz.checked os 3 .any (Rows.solvesSpec.pre6 enc Tryz.prog Tryz.f3 Rows.solvesRow.domain false) (Rows.solvesSpec.post enc Tryz.prog Tryz.f3 false true false false):=by
 refine returnsInHanded_of_change_sized (C:=Tryz.checked) own started (by kernel_rfl) Tryz.func3
  (ChangeSpec.witness6 (enc:=enc) (C:=Tryz.checked) false ⟨#[],#[.agg #[.slice none 0 0,.slice none 0 0]],[]⟩ 8 (by kernel_rfl) (by kernel_rfl) (by kernel_rfl) (by kernel_rfl)) ?_
 intro W base args ds gs before hval0 hW hcnd hsz0 _
 have hval:∀(j:Nat) t v,Tryz.f3.params[j]?=some t->args[j]?=some v->Value.okWide Tryz.prog W .any base t v:=hval0
 have hW':=hW
 obtain⟨p,q,hA0,hV,rfl,hfz,hnd⟩:=hW
 have hA:DataW.TrodAll enc Tryz.prog W 0 (fun _=>true) true Tryz.f3.params.toList args.toList ds p:=hA0
 have hsz:(DataW.weightsEach Tryz.prog (Tryz.f3.params.toList++Rows.solvesSpec.plain.varTypes Tryz.prog) (ds++gs)).all (·<=reachBytes)=true:=hsz0
 rw[Tryz.params3]at hA hval hsz
 obtain⟨v0,vs0,d0,ds0,p0,q0,hargs,rfl,rfl,h0,r0⟩:=trodAll_cons hA
 obtain⟨rfl,rfl,rfl⟩:=trodAll_nil r0
 obtain rfl:args=#[v0]:=by cases args;simp_all
 obtain⟨rfl,rfl⟩:=trodVars_none hV
 have k0:=h0
 have lt0:∀ x∈p0,x.block < W.heap.size:=by obtain⟨m,hm⟩:=k0;exact DataW.trod_lt m _ _ _ hm
 have hw0:∀ n∈d0.weights Tryz.prog 25,n<=reachBytes:=fun n hn=>by
  have:=List.all_eq_true.1 hsz n (DataW.weights_mem_each (j:=0) (t:=25) (d:=d0) rfl rfl n hn)
  simpa using this
 obtain⟨cs0,rfl,_⟩:=okWide_struct Tryz.underlying25 (hval 0 25 v0 rfl rfl)
 obtain⟨f0,hf0⟩:=h0
 obtain⟨ta,sa,tc,sc,ts,qs,hcs,b1,b2,b3,b4,b5,b6,b7,b8⟩:=oProblem hf0 hw0
 rw[hcs]at hf0
 have hcap:=capProblem hf0
 simp[Value.cells]at hcs
 obtain rfl:cs0=#[.slice ta ts.length tc,.slice sa qs.length sc]:=by cases cs0;simp_all
 clear hA0 hval0 hsz0
 refine(solves_any ta sa tc sc ts qs W b1 b2 b5 b6 b3 b4 b7 b8 hcap).mono fun e W' ⟨he,bel⟩=>?_
 subst he
 exact⟨_,rfl,_,_,_,[],_,[],hW',trodAll_mk1 (shut_bool Tryz.underlying4 _),(trodAll_cons_mk (Below.trod laidOut (by kernel_rfl) (of_decide_eq_true (by kernel_rfl)) k0 bel lt0) trodAll_mk0),rfl,bel.frame _,fun h=>by cases h⟩
theorem over:Rows.solvesRow.holds Tryz.pinned (OpenSpec.ofChange Rows.solvesSpec):=
 OpenClaim.holds_of_wide 3 Tryz.f3 rfl rfl rfl rfl rfl rfl rfl ⟨rfl,rfl,rfl,rfl,rfl⟩ rfl rfl rfl rfl rfl (by kernel_rfl) Tryz.func3 (by kernel_rfl)
  (of_decide_eq_true (by kernel_rfl)) (by unfold Func.isWrapper;first | (rw[if_pos (by decide +kernel)];kernel_rfl) | (rw[if_neg (by decide +kernel)];exact⟨rfl,rfl⟩))
  (fun os started H enc _=>lifted os started H enc)
end Go.Proofs.YtjebhhoibofmfaaGreat.solves
namespace Go.Proofs.YtjebhhoibofmfaaGreat
theorem solves_holds:Rows.SolvesSaid:=solves.over
#print axioms solves_holds
end Go.Proofs.YtjebhhoibofmfaaGreat
