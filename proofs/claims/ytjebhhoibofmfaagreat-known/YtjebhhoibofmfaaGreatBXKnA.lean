import Derived.Test.YtjebhhoibofmfaaGreatBXMsA
import Derived.Test.YtjebhhoibofmfaaGreatBXLsA
namespace Go.Proofs.YtjebhhoibofmfaaGreat
open Go.RowKit
def fourK(b1 b2:Nat):List Tm:=[⟨0,none,0,[]⟩,⟨1,none,0,[]⟩,⟨2,some ⟨b1,0,none⟩,1,[0]⟩,⟨2,some ⟨b2,0,none⟩,1,[1]⟩]
theorem fourK_terms(b1 b2:Nat):termsB (fourK b1 b2)=true:=by rfl
theorem rg_four{c:List Int}(h:Rg c)(hl:c.length=4):∃ x y z:Int,c=[0,x,y,z]/\0<=x/\x<=1/\0<=y/\y<=x+1/\0<=z/\z<=max x y+1:=by
 obtain⟨_,h0,h1⟩:=h
 match c,hl with
 | [a,x,y,z],_=>
   have e0:=h0 (by simp)
   have e1:=h1 1 (by simp)
   have e2:=h1 2 (by simp)
   have e3:=h1 3 (by simp)
   simp[gr]at e0 e1 e2 e3
   subst e0
   exact⟨x,y,z,rfl,by omega,by omega,by omega,by omega,by omega,by omega⟩
theorem fine_apart{ts:List Tm}{ps:List Pr}{c d:List Int}(h:Fine ts ps c)(hl:d.length=ts.length)(hs:soundB ts d=true)(hp:pairsHold d ps=true){a b:Nat}(ha:a < ts.length)(hb:b < ts.length)(hd:d.getD a 0≠d.getD b 0):c.getD a 0≠c.getD b 0:=
 fun e=>hd (h d hl hs hp a b ha hb e)
theorem known_one{b1 b2:Nat}{c:List Int}(h:CloseOf (fourK b1 b2) [⟨0,1⟩] c):c=[0,0,1,1]:=by
 obtain⟨hl,hr,hs,hp,hf⟩:=h
 obtain⟨x,y,z,rfl,h1,h2,h3,h4,h5,h6⟩:=rg_four hr hl
 have p:=pairsHold_mem hp (p:=⟨0,1⟩) (by simp)
 have q:=sound_eq hs (i:=3) (j:=2) (by simp[fourK]) (by omega) (by simp[mustB,fourK,alikeB,argsEq,allB,eqB,cls,List.range_succ];simpa[eqB,cls,eq_comm] using p)
 have r:=fine_apart hf (d:=[0,0,1,1]) rfl rfl rfl (a:=0) (b:=2) (by simp[fourK]) (by simp[fourK]) (by simp)
 simp[eqB,cls]at p q r
 have e1:x=0:=by omega
 have e2:y=1:=by omega
 have e3:z=1:=by omega
 rw[e1,e2,e3]
theorem known_two{b1 b2:Nat}{c:List Int}(h:CloseOf (fourK b1 b2) [] c):c=[0,1,2,3]:=by
 obtain⟨hl,hr,hs,hp,hf⟩:=h
 obtain⟨x,y,z,rfl,h1,h2,h3,h4,h5,h6⟩:=rg_four hr hl
 have fr:∀ {a b:Nat},a < 4->b < 4->([0,1,2,3]:List Int).getD a 0≠([0,1,2,3]:List Int).getD b 0->([0,x,y,z]:List Int).getD a 0≠([0,x,y,z]:List Int).getD b 0:=fun ha hb=>fine_apart hf (d:=[0,1,2,3]) rfl rfl rfl ha hb
 have r1:=fr (a:=0) (b:=1) (by omega) (by omega) (by simp)
 have r2:=fr (a:=0) (b:=2) (by omega) (by omega) (by simp)
 have r3:=fr (a:=1) (b:=2) (by omega) (by omega) (by simp)
 have r4:=fr (a:=0) (b:=3) (by omega) (by omega) (by simp)
 have r5:=fr (a:=1) (b:=3) (by omega) (by omega) (by simp)
 have r6:=fr (a:=2) (b:=3) (by omega) (by omega) (by simp)
 simp at r1 r2 r3 r4 r5 r6
 have e1:x=1:=by omega
 have e2:y=2:=by omega
 have e3:z=3:=by omega
 rw[e1,e2,e3]
theorem known_three{b1 b2:Nat}{c:List Int}(h:CloseOf (fourK b1 b2) [⟨3,2⟩] c):c=[0,1,2,2]:=by
 obtain⟨hl,hr,hs,hp,hf⟩:=h
 obtain⟨x,y,z,rfl,h1,h2,h3,h4,h5,h6⟩:=rg_four hr hl
 have p:=pairsHold_mem hp (p:=⟨3,2⟩) (by simp)
 have fr:∀ {a b:Nat},a < 4->b < 4->([0,1,2,2]:List Int).getD a 0≠([0,1,2,2]:List Int).getD b 0->([0,x,y,z]:List Int).getD a 0≠([0,x,y,z]:List Int).getD b 0:=fun ha hb=>fine_apart hf (d:=[0,1,2,2]) rfl rfl rfl ha hb
 have r1:=fr (a:=0) (b:=1) (by omega) (by omega) (by simp)
 have r2:=fr (a:=0) (b:=2) (by omega) (by omega) (by simp)
 have r3:=fr (a:=1) (b:=2) (by omega) (by omega) (by simp)
 simp[eqB,cls]at p r1 r2 r3
 have e1:x=1:=by omega
 have e2:y=2:=by omega
 have e3:z=2:=by omega
 rw[e1,e2,e3]
theorem solve_yes{ts:List Tm}{cs:List Cl}(hr:refuseI ts cs=0){c:List Int}(h1:soundB ts c=true)(h2:allHoldB c cs=true):∃ cls sts,Sol ts cs true cls sts:=by
 obtain⟨hts,hcl⟩:=of_refuse hr
 obtain⟨b,cls,sts,g1,g2⟩:=solve_some hr
 cases b with
 | true=>exact⟨cls,sts,g1⟩
 | false=>
   obtain⟨_,l2,l3,l4⟩:=g2.no rfl
   exact absurd (no_model hts hcl l2 l3 l4 c h1 h2) id
theorem solve_not{ts:List Tm}{cs:List Cl}(hr:refuseI ts cs=0)(hno:∀ c,soundB ts c=true->allHoldB c cs=true->False):∃ cls sts,Sol ts cs false cls sts:=by
 obtain⟨b,cls,sts,g1,g2⟩:=solve_some hr
 cases b with
 | true=>
   obtain⟨_,_,l1,l2,_⟩:=g2.yes rfl
   exact absurd (hno cls l1 l2) id
 | false=>exact⟨cls,sts,g1⟩
theorem solve_says(ta sa:Option Addr)(tc sc:Nat)(ts:List Tm)(cs:List Cl)(w:World)(ht:TermsAt w ta ts)(hcs:ClausesAt w sa cs)(hr:refuseI ts cs=0){b:Bool}(hS:∃ cls sts,Sol ts cs b cls sts) :
 Calls Tryz.prog 18 #[.agg #[.slice ta ts.length tc,.slice sa cs.length sc]] w fun e w'=>∃ ca cl cc la ll lc,e=.returned (.tuple #[.agg #[.bool b,.slice ca cl cc,.slice la ll lc],.int .i64 0])/\Below w.heap.size w w':=by
 obtain⟨cls,sts,h⟩:=hS
 refine(solve_any cutHolds ta sa tc sc ts cs w ht hcs hr h).mono ?_
 rintro e w' ⟨ca,cc,la,lc,rfl,_,_,hb⟩
 exact⟨ca,_,cc,la,_,lc,rfl,hb⟩
end Go.Proofs.YtjebhhoibofmfaaGreat
