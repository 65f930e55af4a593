import Derived.Test.YtjebhhoibofmfaaGreatBMSb
import Derived.Maps.AppendAt
namespace Go.Proofs.YtjebhhoibofmfaaGreat
open Go.RowKit
theorem meth_less (n q : Nat) (w : World) : Sem.run Tryz.prog (method (n + 1) 181 (.pointer (some ⟨q, 0, none⟩)) "Less") w = .ok (169, .pointer (some ⟨q, 0, none⟩)) w := by kernel_rfl
theorem meth_swap (n q : Nat) (w : World) : Sem.run Tryz.prog (method (n + 1) 181 (.pointer (some ⟨q, 0, none⟩)) "Swap") w = .ok (172, .pointer (some ⟨q, 0, none⟩)) w := by kernel_rfl
def upL(ws:List Nat):Nat->List Nat->Nat->List Nat
 | 0,ns,_=>ns
 | f+1,ns,j=>if(j - 1) / 2=j\/lessF ws (ns.getD j 0) (ns.getD ((j - 1) / 2) 0)=false then ns else upL ws f (swapL ns ((j - 1) / 2) j) ((j - 1) / 2)
theorem upL_fuel(ws:List Nat):∀ {f:Nat} (ns:List Nat) (j:Nat),j < f->upL ws f ns j=upL ws (j+1) ns j
 | 0,_,_,h=>by omega
 | f+1,ns,j,h=>by
   rw[upL,upL]
   by_cases hc:(j - 1) / 2=j\/lessF ws (ns.getD j 0) (ns.getD ((j - 1) / 2) 0)=false
   ·rw[if_pos hc,if_pos hc]
   ·rw[if_neg hc,if_neg hc]
    have hlt:(j - 1) / 2 < j:=by
     have:¬ (j - 1) / 2=j:=fun e=>hc (.inl e)
     omega
    rw[upL_fuel ws (f:=f) _ _ (by omega)]
    exact(upL_fuel ws (f:=j) _ _ hlt).symm
set_option maxRecDepth 100000 in
set_option maxHeartbeats 2000000 in
theorem up_any(q gw gp g:Nat)(vc:Nat)(ws ns:List Nat)(j:Nat)(w:World)(h:QS w q gw gp (some ⟨g,0,none⟩) vc ws ns)(hj:j < ns.length)(hl:ns.length<=1000) :
 Calls Tryz.prog 142 #[.iface 181 (.pointer (some ⟨q,0,none⟩)),.int .i64 j] w fun e w'=>e=.returned (.tuple #[])/\QS w' q gw gp (some ⟨g,0,none⟩) vc ws (upL ws (j+1) ns j)/\Keeps [g,gp] w w':=by
 generalize hR:upL ws (j+1) ns j=R
 have HR:=hide hR
 clear hR
 have m1:=meth_less
 have m2:=meth_swap
 go_enter Tryz.func142,Tryz.ntmps142
 go_wp2_with fail
 go_loopg [1] (j+1) (fun f s1 wx=>∃(k:Nat) (ms:List Nat),f=k+1/\s1=.int .i64 k/\Hid (R=upL ws (k+1) ms k)/\Hid (k < ms.length)/\Hid (ms.length=ns.length)/\QS wx q gw gp (some ⟨g,0,none⟩) vc ws ms/\Keeps [g,gp] w wx)
 case atStart=>exact⟨j,ns,rfl,rfl,HR.out.symm,hj,rfl,h,Keeps.refl _ _⟩
 case round=>
  obtain⟨k,ms,rfl,rfl,Hu,Hk,Hm,hQ,hK⟩:=hrel
  have hk:k < ms.length:=Hk.out
  have hi:(k - 1) / 2 < ms.length:=by omega
  have hquo:((k:Int) - 1).tdiv 2=(((k - 1) / 2:Nat):Int):=by
   cases k with
   | zero=>rfl
   | succ m=>rw[show(((m+1:Nat):Int) - 1)=(m:Int) by omega,Int.tdiv_eq_ediv_of_nonneg (by omega),show m+1 - 1=m by omega];omega
  have Hu':Hid (R=if(k - 1) / 2=k\/lessF ws (ms.getD k 0) (ms.getD ((k - 1) / 2) 0)=false then ms else upL ws k (swapL ms ((k - 1) / 2) k) ((k - 1) / 2)):=by
   show R=_
   rw[Hu.out,upL]
  obtain⟨i,hii⟩:∃ i,(k - 1) / 2=i:=⟨_,rfl⟩
  rw[hii]at hi hquo Hu'
  have hik:i<=k:=by omega
  have Hik:Hid (i=k\/i < k):=by show _\/_;omega
  have hk1:k<=1000:=by have:=Hm.out;omega
  have hq1:wrap64 ((k:Int) - 1)=(k:Int) - 1:=by unfold wrap64;omega
  have hq2:wrap64 (i:Int)=(i:Int):=by unfold wrap64;omega
  clear hii Hu
  go_upto_region 1 with fail
  by_cases he:i=k
  ·have Hm0:Hid (R=ms):=by show R=ms;rw[Hu'.out,if_pos (.inl he)]
   subst he
   have he':((i:Int) == (i:Int))=true:=by simp
   go_wp2_with fail
   go_end0
   exact⟨rfl,by rw[Hm0.out];exact hQ,hK⟩
  ·have he':((i:Int) == (k:Int))=false:=by simpa using (fun e=>he (by omega))
   have Hne:=hide he
   clear he
   go_wp2_with fail
   refine(lessS_any q gw gp _ vc ws ms k i wr hQ hk hi).mono ?_
   rintro e w1 ⟨rfl,hb1⟩
   have hQ1:=hQ.below hb1
   have hK1:Keeps [g,gp] w w1:=hK.trans (Keeps.of (F:=[]) hb1) (by simp)
   cases hlf:lessF ws (ms.getD k 0) (ms.getD i 0)
   ·have Hm0:Hid (R=ms):=by show R=ms;rw[Hu'.out,if_pos (.inr hlf)]
    go_wp2_with fail
    go_end0
    exact⟨rfl,by rw[Hm0.out];exact hQ1,hK1⟩
   ·have Hm0:Hid (R=upL ws k (swapL ms i k) i):=by
     show R=_
     rw[Hu'.out,if_neg (by rintro(h | h);exact Hne.out h;rw[hlf]at h;cases h)]
    go_wp2_with fail
    refine(swapS_any q gw gp _ vc ws ms i k w1 hQ1 hi hk).mono ?_
    rintro e w2 ⟨rfl,g',hg',hQ2,hK2⟩
    injection hg' with hg'
    injection hg' with hg'
    subst hg'
    have hK3:Keeps [g,gp] w w2:=hK1.trans hK2 (fun k hk=>.inl hk)
    have hlt:i < k:=by have:=Hne.out;omega
    obtain⟨m,hm⟩:∃ m,k=m+1:=⟨k - 1,by omega⟩
    go_wp2_with fail
    go_roundg (i+1)
    case measure=>omega
    case rel=>exact⟨i,swapL ms i k,rfl,rfl,(by show R=_;rw[Hm0.out];exact upL_fuel ws _ _ (by omega)),(by show i < _;rw[swapL_length];exact hi),(by show _=_;rw[swapL_length];exact Hm.out),hQ2,hK3⟩
end Go.Proofs.YtjebhhoibofmfaaGreat
namespace Go.Proofs.YtjebhhoibofmfaaGreat
open Go.RowKit
def childL(ws ns:List Nat)(i n:Nat):Nat:=if 2*i+2 < n/\lessF ws (ns.getD (2*i+2) 0) (ns.getD (2*i+1) 0)=true then 2*i+2 else 2*i+1
def downL(ws:List Nat):Nat->List Nat->Nat->Nat->List Nat×Nat
 | 0,ns,i,_=>(ns,i)
 | f+1,ns,i,n=>if n<=2*i+1\/lessF ws (ns.getD (childL ws ns i n) 0) (ns.getD i 0)=false then(ns,i)else downL ws f (swapL ns i (childL ws ns i n)) (childL ws ns i n) n
theorem childL_lt(ws ns:List Nat)(i n:Nat)(h:2*i+1 < n):childL ws ns i n < n/\i < childL ws ns i n:=by
 unfold childL
 split <;> omega
theorem downL_fuel(ws:List Nat)(n:Nat):∀ {f:Nat} (ns:List Nat) (i:Nat),n - i < f->downL ws f ns i n=downL ws (n - i+1) ns i n
 | 0,_,_,h=>by omega
 | f+1,ns,i,h=>by
   rw[downL,downL]
   by_cases hc:n<=2*i+1\/lessF ws (ns.getD (childL ws ns i n) 0) (ns.getD i 0)=false
   ·rw[if_pos hc,if_pos hc]
   ·rw[if_neg hc,if_neg hc]
    have hlt:2*i+1 < n:=by
     have:¬ n<=2*i+1:=fun e=>hc (.inl e)
     omega
    have hch:=childL_lt ws ns i n hlt
    rw[downL_fuel ws n (f:=f) _ _ (by omega)]
    exact(downL_fuel ws n (f:=n - i) _ _ (by omega)).symm
set_option maxRecDepth 100000 in
set_option maxHeartbeats 4000000 in
theorem down_any(q gw gp g:Nat)(vc:Nat)(ws ns:List Nat)(i0 n:Nat)(w:World)(h:QS w q gw gp (some ⟨g,0,none⟩) vc ws ns)(hi0:i0<=ns.length)(hn:n<=ns.length)(hl:ns.length<=1000) :
 Calls Tryz.prog 138 #[.iface 181 (.pointer (some ⟨q,0,none⟩)),.int .i64 i0,.int .i64 n] w fun e w'=>e=.returned (.bool (decide (i0 < (downL ws (n - i0+1) ns i0 n).2)))/\QS w' q gw gp (some ⟨g,0,none⟩) vc ws (downL ws (n - i0+1) ns i0 n).1/\Keeps [g,gp] w w':=by
 generalize hR:downL ws (n - i0+1) ns i0 n=R
 have HR:=hide hR
 clear hR
 have m1:=meth_less
 have m2:=meth_swap
 go_enter Tryz.func138,Tryz.ntmps138
 go_wp2_with fail
 go_loopg [7] (n - i0+1) (fun f s7 wx=>∃(i:Nat) (ms:List Nat),f=n - i+1/\s7=.int .i64 i/\Hid (R=downL ws (n - i+1) ms i n)/\Hid (i<=1000)/\Hid (ms.length=ns.length)/\QS wx q gw gp (some ⟨g,0,none⟩) vc ws ms/\Keeps [g,gp] w wx)
 case atStart=>exact⟨i0,ns,rfl,rfl,HR.out.symm,(by show i0<=1000;omega),rfl,h,Keeps.refl _ _⟩
 case round=>
  obtain⟨i,ms,rfl,rfl,Hu,Hi,Hm,hQ,hK⟩:=hrel
  have hi1:i<=1000:=Hi.out
  have hq1:wrap64 (2*(i:Int))=2*(i:Int):=by unfold wrap64;omega
  have hq2:wrap64 (2*(i:Int)+1)=2*(i:Int)+1:=by unfold wrap64;omega
  have hq3:wrap64 (2*(i:Int)+1+1)=2*(i:Int)+1+1:=by unfold wrap64;omega
  have Hu':Hid (R=if n<=2*i+1\/lessF ws (ms.getD (childL ws ms i n) 0) (ms.getD i 0)=false then(ms,i)else downL ws (n - i) (swapL ms i (childL ws ms i n)) (childL ws ms i n) n):=by
   show R=_
   rw[Hu.out,downL]
  have hmn:n<=ms.length:=by have:=Hm.out;omega
  clear Hu
  by_cases hA:n<=2*i+1
  ·have Hm0:Hid (R=(ms,i)):=by show R=_;rw[Hu'.out,if_pos (.inl hA)]
   have hA':(n:Int)<=2*(i:Int)+1:=by omega
   go_wp2_with fail
   go_ret
   rw[Hm0.out]
   exact⟨ret_bool (by first | rfl | (simp;done) | (congr 1;simp)),hQ,hK⟩
  ·have hA':¬ (n:Int)<=2*(i:Int)+1:=by omega
   have hA2:0<=2*(i:Int)+1:=by omega
   have hin:i < ms.length:=by omega
   have hj1:2*i+1 < ms.length:=by omega
   have Hch:=hide (childL_lt ws ms i n (by omega))
   have e1:(2*(i:Int)+1)=((2*i+1:Nat):Int):=by omega
   have e2:(2*(i:Int)+1+1)=((2*i+2:Nat):Int):=by omega
   have HA:=hide hA
   clear hA e1 e2
   by_cases hB:2*i+2 < n
   ·have hB':2*(i:Int)+1+1 < (n:Int):=by omega
    have hj2:2*i+2 < ms.length:=by omega
    have hL:=lessS_any q gw gp _ vc ws ms (2*i+2) (2*i+1) wr hQ hj2 hj1
    rw[show((2*i+2:Nat):Int)=2*(i:Int)+1+1 by omega,show((2*i+1:Nat):Int)=2*(i:Int)+1 by omega]at hL
    have HL:=hide hL
    clear hL
    go_wp2_with fail
    refine HL.out.mono ?_
    rintro e w1 ⟨rfl,hb1⟩
    have hQ1:=hQ.below hb1
    have hK1:Keeps [g,gp] w w1:=hK.trans (Keeps.of (F:=[]) hb1) (by simp)
    cases hlc:lessF ws (ms.getD (2*i+2) 0) (ms.getD (2*i+1) 0)
    ·have Hc:Hid (childL ws ms i n=2*i+1):=by show _=_;rw[childL,if_neg (by rw[hlc];simp)]
     have hL2:=lessS_any q gw gp _ vc ws ms (2*i+1) i w1 hQ1 hj1 hin
     rw[show((2*i+1:Nat):Int)=2*(i:Int)+1 by omega]at hL2
     have HL2:=hide hL2
     clear hL2
     go_wp2_with fail
     refine HL2.out.mono ?_
     rintro e w2 ⟨rfl,hb2⟩
     have hQ2:=hQ1.below hb2
     have hK2:Keeps [g,gp] w w2:=hK1.trans (Keeps.of (F:=[]) hb2) (by simp)
     cases hlf:lessF ws (ms.getD (2*i+1) 0) (ms.getD i 0)
     ·have Hm0:Hid (R=(ms,i)):=by show R=_;rw[Hu'.out,Hc.out,if_pos (.inr hlf)]
      go_wp2_with fail
      go_ret
      rw[Hm0.out]
      exact⟨ret_bool (by first | rfl | (simp;done) | (congr 1;simp)),hQ2,hK2⟩
     ·have Hm0:Hid (R=downL ws (n - i) (swapL ms i (2*i+1)) (2*i+1) n):=by
       show R=_
       rw[Hu'.out,Hc.out,if_neg (by rintro(h | h);exact HA.out h;rw[hlf]at h;cases h)]
      have hS:=swapS_any q gw gp _ vc ws ms i (2*i+1) w2 hQ2 hin hj1
      rw[show((2*i+1:Nat):Int)=2*(i:Int)+1 by omega]at hS
      have HS:=hide hS
      clear hS
      go_wp2_with fail
      refine HS.out.mono ?_
      rintro e w3 ⟨rfl,g',hg',hQ3,hK3⟩
      injection hg' with hg'
      injection hg' with hg'
      subst hg'
      have hK4:Keeps [g,gp] w w3:=hK2.trans hK3 (fun k hk=>.inl hk)
      go_wp2_with fail
      go_roundg (n - (2*i+1)+1)
      case measure=>omega
      case rel=>exact⟨2*i+1,swapL ms i (2*i+1),rfl,(by show Value.int .i64 _=Value.int .i64 _;congr 1),(by show R=_;rw[Hm0.out];exact downL_fuel ws n _ _ (by omega)),(by show 2*i+1<=1000;omega),(by show _=_;rw[swapL_length];exact Hm.out),hQ3,hK4⟩
    ·have Hc:Hid (childL ws ms i n=2*i+2):=by show _=_;rw[childL,if_pos ⟨hB,hlc⟩]
     have hL2:=lessS_any q gw gp _ vc ws ms (2*i+2) i w1 hQ1 hj2 hin
     rw[show((2*i+2:Nat):Int)=2*(i:Int)+1+1 by omega]at hL2
     have HL2:=hide hL2
     clear hL2
     go_wp2_with fail
     refine HL2.out.mono ?_
     rintro e w2 ⟨rfl,hb2⟩
     have hQ2:=hQ1.below hb2
     have hK2:Keeps [g,gp] w w2:=hK1.trans (Keeps.of (F:=[]) hb2) (by simp)
     cases hlf:lessF ws (ms.getD (2*i+2) 0) (ms.getD i 0)
     ·have Hm0:Hid (R=(ms,i)):=by show R=_;rw[Hu'.out,Hc.out,if_pos (.inr hlf)]
      go_wp2_with fail
      go_ret
      rw[Hm0.out]
      exact⟨ret_bool (by first | rfl | (simp;done) | (congr 1;simp)),hQ2,hK2⟩
     ·have Hm0:Hid (R=downL ws (n - i) (swapL ms i (2*i+2)) (2*i+2) n):=by
       show R=_
       rw[Hu'.out,Hc.out,if_neg (by rintro(h | h);exact HA.out h;rw[hlf]at h;cases h)]
      have hS:=swapS_any q gw gp _ vc ws ms i (2*i+2) w2 hQ2 hin hj2
      rw[show((2*i+2:Nat):Int)=2*(i:Int)+1+1 by omega]at hS
      have HS:=hide hS
      clear hS
      go_wp2_with fail
      refine HS.out.mono ?_
      rintro e w3 ⟨rfl,g',hg',hQ3,hK3⟩
      injection hg' with hg'
      injection hg' with hg'
      subst hg'
      have hK4:Keeps [g,gp] w w3:=hK2.trans hK3 (fun k hk=>.inl hk)
      go_wp2_with fail
      go_roundg (n - (2*i+2)+1)
      case measure=>omega
      case rel=>exact⟨2*i+2,swapL ms i (2*i+2),rfl,(by show Value.int .i64 _=Value.int .i64 _;congr 1),(by show R=_;rw[Hm0.out];exact downL_fuel ws n _ _ (by omega)),(by show 2*i+2<=1000;omega),(by show _=_;rw[swapL_length];exact Hm.out),hQ3,hK4⟩
   ·have hB':¬ 2*(i:Int)+1+1 < (n:Int):=by omega
    have Hc:Hid (childL ws ms i n=2*i+1):=by show _=_;rw[childL,if_neg (fun h=>hB h.1)]
    have hL2:=lessS_any q gw gp _ vc ws ms (2*i+1) i wr hQ hj1 hin
    rw[show((2*i+1:Nat):Int)=2*(i:Int)+1 by omega]at hL2
    have HL2:=hide hL2
    clear hL2
    go_wp2_with fail
    refine HL2.out.mono ?_
    rintro e w2 ⟨rfl,hb2⟩
    have hQ2:=hQ.below hb2
    have hK2:Keeps [g,gp] w w2:=hK.trans (Keeps.of (F:=[]) hb2) (by simp)
    cases hlf:lessF ws (ms.getD (2*i+1) 0) (ms.getD i 0)
    ·have Hm0:Hid (R=(ms,i)):=by show R=_;rw[Hu'.out,Hc.out,if_pos (.inr hlf)]
     go_wp2_with fail
     go_ret
     rw[Hm0.out]
     exact⟨ret_bool (by first | rfl | (simp;done) | (congr 1;simp)),hQ2,hK2⟩
    ·have Hm0:Hid (R=downL ws (n - i) (swapL ms i (2*i+1)) (2*i+1) n):=by
      show R=_
      rw[Hu'.out,Hc.out,if_neg (by rintro(h | h);exact HA.out h;rw[hlf]at h;cases h)]
     have hS:=swapS_any q gw gp _ vc ws ms i (2*i+1) w2 hQ2 hin hj1
     rw[show((2*i+1:Nat):Int)=2*(i:Int)+1 by omega]at hS
     have HS:=hide hS
     clear hS
     go_wp2_with fail
     refine HS.out.mono ?_
     rintro e w3 ⟨rfl,g',hg',hQ3,hK3⟩
     injection hg' with hg'
     injection hg' with hg'
     subst hg'
     have hK4:Keeps [g,gp] w w3:=hK2.trans hK3 (fun k hk=>.inl hk)
     go_wp2_with fail
     go_roundg (n - (2*i+1)+1)
     case measure=>omega
     case rel=>exact⟨2*i+1,swapL ms i (2*i+1),rfl,(by show Value.int .i64 _=Value.int .i64 _;congr 1),(by show R=_;rw[Hm0.out];exact downL_fuel ws n _ _ (by omega)),(by show 2*i+1<=1000;omega),(by show _=_;rw[swapL_length];exact Hm.out),hQ3,hK4⟩
end Go.Proofs.YtjebhhoibofmfaaGreat
namespace Go.Proofs.YtjebhhoibofmfaaGreat
open Go.RowKit
theorem set_grown(w:World)(b o:Nat)(v:Value):w.grownBy (w.setCell ⟨b,o,none⟩ v) (some b):=
 ⟨rfl,rfl,rfl,by simp,fun k _ hne=>heap_setCell_other _ _ _ _ (fun e=>hne (by rw[e]))⟩
theorem own_shrink{w:World}{base:Nat}{va:Option Addr}{vc:Nat}{ms:List Int}{x:Int}(h:w.ownsRow base 3 1 (.slice va (ms++[x]).length vc) (ms++[x]).length (intCells (ms++[x]))) :
 w.ownsRow base 3 1 (.slice va ms.length vc) ms.length (intCells ms):=by
 refine⟨by simp[intCells],?_⟩
 rcases h.2 with⟨_,hn⟩ | ⟨g,cap,cur,hv,hb,hg,h1,h2,h3,h4⟩
 ·simp at hn
 ·injection hv with hv hv2 hv3
  subst hv
  subst hv3
  have hl:(ms++[x]).length=ms.length+1:=by simp
  refine .inr ⟨g,vc,cur,rfl,hb,hg,by rw[hl]at h1;omega,h2,h3,?_⟩
  have h4':cur.toList.take ((ms++[x]).length*1)=intCells (ms++[x]):=h4
  have:(cur.toList.take ((ms++[x]).length*1)).take (ms.length*1)=intCells ms:=by
   rw[h4']
   simp[intCells]
  rw[List.take_take,Nat.min_eq_left (by rw[hl];omega)]at this
  exact this
theorem plOf_get{n x:Nat}(ns:List Nat)(hx:x < n):(plOf n ns)[x]?=some (if x∈ns then(ns.idxOf x:Int)else -1):=by
 have:=tab_getD n (fun x=>if x∈ns then(ns.idxOf x:Int)else -1) hx
 unfold plOf
 rw[List.getD_eq_getElem?_getD]at this
 have hl:x < (tab n (fun x=>if x∈ns then(ns.idxOf x:Int)else -1)).length:=by rw[tab_length];exact hx
 rw[List.getElem?_eq_getElem hl]at this ⊢
 simpa using this
theorem plOf_pop{n x:Nat}{ms:List Nat}(h:(ms++[x]).Nodup)(hx:x < n):plOf n ms=(plOf n (ms++[x])).set x (-1):=by
 have hn:x ∉ ms:=fun hm=>(List.nodup_append.1 h).2.2 x hm x (List.mem_singleton.2 rfl) rfl
 apply List.ext_getElem?
 intro y
 rw[List.getElem?_set,plOf_length]
 by_cases hy:y < n
 ·by_cases he:x=y
  ·subst he
   rw[if_pos rfl,if_pos hx,plOf_get ms hy,if_neg hn]
  ·rw[if_neg he,plOf_get ms hy,plOf_get _ hy]
   by_cases hm:y∈ms
   ·rw[if_pos hm,if_pos (List.mem_append_left _ hm),List.idxOf_append,if_pos hm]
   ·rw[if_neg hm,if_neg (by simp[hm];exact fun e=>he e.symm)]
 ·rw[List.getElem?_eq_none (by rw[plOf_length];omega)]
  have he:x≠y:=fun e=>hy (e ▸ hx)
  rw[if_neg he,List.getElem?_eq_none (by rw[plOf_length];omega)]
theorem plOf_push{n x:Nat}{ms:List Nat}(h:x ∉ ms)(hx:x < n):plOf n (ms++[x])=(plOf n ms).set x (ms.length:Int):=by
 apply List.ext_getElem?
 intro y
 rw[List.getElem?_set,plOf_length]
 by_cases hy:y < n
 ·by_cases he:x=y
  ·subst he
   rw[if_pos rfl,if_pos hx,plOf_get _ hy,if_pos (by simp),List.idxOf_append,if_neg h]
   simp
  ·rw[if_neg he,plOf_get ms hy,plOf_get _ hy]
   by_cases hm:y∈ms
   ·rw[if_pos hm,if_pos (List.mem_append_left _ hm),List.idxOf_append,if_pos hm]
   ·rw[if_neg hm,if_neg (by simp[hm];exact fun e=>he e.symm)]
 ·rw[List.getElem?_eq_none (by rw[plOf_length];omega)]
  have he:x≠y:=fun e=>hy (e ▸ hx)
  rw[if_neg he,List.getElem?_eq_none (by rw[plOf_length];omega)]
set_option maxRecDepth 100000 in
set_option maxHeartbeats 2000000 in
theorem linePop_any(q gw gp:Nat)(va:Option Addr)(vc:Nat)(ws ms:List Nat)(x:Nat)(w:World)(h:QS w q gw gp va vc ws (ms++[x]))(hl:ms.length<=1000) :
 Calls Tryz.prog 170 #[.pointer (some ⟨q,0,none⟩)] w fun e w'=>e=.returned (.iface 3 (.int .i64 x))/\QS w' q gw gp va vc ws ms/\Keeps [q,gp] w w':=by
 obtain⟨⟨h1,h2,h3,h4⟩,h5,h6⟩:=h
 have hxn:x < ws.length:=h6 x (by simp)
 have hll:(intL (ms++[x])).length=ms.length+1:=by rw[intL_length];simp
 obtain⟨g,rfl,hg,⟨cur,hcur⟩,hc⟩:=own_ints h4 (i:=ms.length) (by rw[hll];omega)
 have cx:=hc ms.length (by rw[hll];omega)
 rw[intL_get _ (by simp),show(ms++[x]).getD ms.length 0=x by simp]at cx
 have hq0:=hide h1
 have s1:w.cell? ⟨q,1,none⟩=some (.slice (some ⟨g,0,none⟩) (ms.length+1) vc):=by rw[cell_of_row _ _ _ _ _ _ h1,<-hll];rfl
 have s2:w.cell? ⟨q,2,none⟩=some (.slice (some ⟨gp,0,none⟩) ws.length ws.length):=by rw[cell_of_row _ _ _ _ _ _ h1];simp[plOf_length]
 have f1:w.frozen? ⟨q,1,none⟩=false:=frozen_of_row _ _ _ _ _ h1
 have px:=h3.cell (k:=x) (by rw[plOf_length];exact hxn)
 have fx:w.frozen? ⟨gp,x,none⟩=false:=frozen_of_row _ _ _ _ _ h3
 have hqp:q≠gp:=by
  intro e
  subst e
  unfold Row at h3
  rw[h1]at h3
  injection h3 with h3
  injection h3 with _ h3
  exact absurd h3 (by decide)
 have hpq:gp≠q:=fun e=>hqp e.symm
 generalize (plOf ws.length (ms++[x])).getD x 0=ox at *
 have hcap:ms.length+1<=vc:=by
  rcases h4.2 with⟨_,hn⟩ | ⟨g',cap,cur',hv,hb,hg',k1,k2,k3,k4⟩
  ·rw[hll]at hn;omega
  ·injection hv with _ hv2 hv3
   rw[hll]at k1
   omega
 have H:=hide (And.intro h2 (And.intro h3 (And.intro h4 (And.intro h5 h6))))
 clear h1 h2 h3 h4 h5 h6 hc hcur
 go_enter Tryz.func170,Tryz.ntmps170
 go_wp2_with fail
 go_ret
 obtain⟨h2,h3,h4,h5,h6⟩:=H.out
 have hwq:gw≠q:=by
  intro e
  subst e
  unfold FRow at h2
  rw[hq0.out]at h2
  injection h2 with h2
  injection h2 with _ h2
  exact absurd h2 (by decide)
 have hwp:gw≠gp:=by
  intro e
  subst e
  unfold Row at h3
  rw[h2]at h3
  injection h3 with h3
  injection h3 with _ h3
  exact absurd h3 (by decide)
 have hap:ms.Nodup:=(List.nodup_append.1 h5).1
 have e4:intL (ms++[x])=intL ms++[(x:Int)]:=by simp[intL]
 refine⟨rfl,⟨⟨?_,?_,?_,?_⟩,hap,fun y hy=>h6 y (List.mem_append_left _ hy)⟩,((Keeps.refl _ _).set (by simp) _).set (by simp) _⟩
 ·rw[heap_setCell_other _ _ _ _ hqp,heap_setCell_same _ _ _ _ _ _ hq0.out,plOf_length,plOf_length,intL_length,intL_length]
  rfl
 ·show((w.setCell ⟨q,1,none⟩ _).setCell ⟨gp,x,none⟩ _).heap[gw]?=_
  rw[heap_setCell_other _ _ _ _ hwp,heap_setCell_other _ _ _ _ hwq]
  exact h2
 ·rw[plOf_pop h5 hxn]
  refine Row.set ?_ x (-1)
  unfold Row
  rw[heap_setCell_other _ _ _ _ hpq]
  exact h3
 ·rw[e4]at h4
  refine own_setCell ?_ (Nat.lt_succ_self gp) _
  refine(own_shrink h4).kept (set_grown w q 1 _) (.inr ?_)
  intro e
  have e':g=q:=by injection e
  obtain⟨cur2,e2,h7,h8⟩:=own_type h4 (e0:=178) (by decide) g rfl
  rw[e',hq0.out]at h7
  injection h7 with h7
  injection h7 with _ h7
  exact h8 h7.symm
end Go.Proofs.YtjebhhoibofmfaaGreat
namespace Go.Proofs.YtjebhhoibofmfaaGreat
open Go.RowKit
theorem ta_int(x:Int)(w:World):Sem.run Tryz.prog (Instr.typeAssert (.iface 3 (.int .i64 x)) 20 3 false) w=.ok (.int .i64 x) w:=by kernel_rfl
def blkOf(va:Option Addr):List Nat:=match va with
 | none=>[]
 | some a=>[a.block]
set_option maxRecDepth 100000 in
set_option maxHeartbeats 2000000 in
theorem linePush_any(q gw gp:Nat)(va:Option Addr)(vc:Nat)(ws ns:List Nat)(x:Nat)(w:World)(h:QS w q gw gp va vc ws ns)(hx:x ∉ ns)(hxn:x < ws.length)(hl:ns.length<=1000) :
 Calls Tryz.prog 171 #[.pointer (some ⟨q,0,none⟩),.iface 3 (.int .i64 x)] w fun e w'=>e=.returned (.tuple #[])/\∃ g' vc',QS w' q gw gp (some ⟨g',0,none⟩) vc' ws (ns++[x])/\(g'∈blkOf va\/w.heap.size<=g')/\Keeps (q :: gp :: blkOf va) w w':=by
 obtain⟨i1,hi1,hy0,hy1,hy2⟩:=info_parts info_int
 obtain⟨⟨h1,h2,h3,h4⟩,h5,h6⟩:=h
 have hq0:=hide h1
 have s1:w.cell? ⟨q,1,none⟩=some (.slice va ns.length vc):=by rw[cell_of_row _ _ _ _ _ _ h1];simp[intL_length]
 have s2:w.cell? ⟨q,2,none⟩=some (.slice (some ⟨gp,0,none⟩) ws.length ws.length):=by rw[cell_of_row _ _ _ _ _ _ h1];simp[plOf_length]
 have f1:w.frozen? ⟨q,1,none⟩=false:=frozen_of_row _ _ _ _ _ h1
 have px:=h3.cell (k:=x) (by rw[plOf_length];exact hxn)
 have fx:w.frozen? ⟨gp,x,none⟩=false:=frozen_of_row _ _ _ _ _ h3
 have hqp:q≠gp:=by
  intro e
  subst e
  unfold Row at h3
  rw[h1]at h3
  injection h3 with h3
  injection h3 with _ h3
  exact absurd h3 (by decide)
 have hpq:gp≠q:=fun e=>hqp e.symm
 generalize (plOf ws.length ns).getD x 0=ox at *
 have H:=hide (And.intro h2 (And.intro h3 (And.intro h4 (And.intro h5 h6))))
 clear h1 h2 h3 h4 h5 h6
 have t1:=ta_int
 go_enter Tryz.func171,Tryz.ntmps171
 go_upto_region 1 with fail
 go_region
 obtain⟨W1,hW1⟩:∃ W1,W1=(w.setCell ⟨gp,x,none⟩ (.int .i64 (ns.length:Int))).drew:=⟨_,rfl⟩
 go_upto_region 2 with fail
 rw[<-hW1]
 have g1:W1.cell? ⟨q,1,none⟩=some (.slice va ns.length vc):=by rw[hW1];exact set_other (.inl hqp) s1
 have g2:W1.frozen? ⟨q,1,none⟩=false:=by rw[hW1];exact set_frozen f1
 have hqh:W1.heap[q]?=some (.cells #[.slice (some ⟨gw,0,none⟩) ws.length ws.length,.slice va (intL ns).length vc,.slice (some ⟨gp,0,none⟩) (plOf ws.length ns).length (plOf ws.length ns).length] 178 (0,0)):=by
  rw[hW1]
  show(w.setCell ⟨gp,x,none⟩ _).heap[q]?=_
  rw[heap_setCell_other _ _ _ _ hqp]
  exact hq0.out
 have hown:W1.ownsRow (gp+1) 3 1 (.slice va (intL ns).length vc) (intL ns).length (intCells (intL ns)):=by
  rw[hW1]
  exact own_below (own_setCell H.out.2.2.1 (Nat.lt_succ_self gp) _) (Below.refl _ _).drew
 have hrow:Row W1 gp (plOf ws.length (ns++[x])):=by
  rw[plOf_push hx hxn,hW1]
  exact H.out.2.1.set x _
 have hwp:gw≠gp:=by
  intro e
  have h3:=H.out.2.1
  have h2:=H.out.1
  unfold Row at h3
  unfold FRow at h2
  rw[<-e,h2]at h3
  injection h3 with h3
  injection h3 with _ h3
  exact absurd h3 (by decide)
 have hfr:FRow W1 gw ws:=by
  unfold FRow
  rw[hW1]
  show(w.setCell ⟨gp,x,none⟩ _).heap[gw]?=_
  rw[heap_setCell_other _ _ _ _ hwp]
  exact H.out.1
 have hK1:Keeps (q :: gp :: blkOf va) w W1:=by rw[hW1];exact((Keeps.refl _ _).set (by simp) _).drew
 have hsz:gp+1<=W1.heap.size:=hrow.lt
 rw[intL_length]at hown
 have hqlt:=(Array.getElem?_eq_some_iff.1 hqh).1
 clear hW1 s1 s2 f1 px fx
 go_wp2_with (at_builtin;refine wpList_append_own_at _ rfl (.tmp 22) (.tmp 24) 29 rfl (gp+1) 3 i1 (.int .i64 0) 1 8 Tryz.underlying29 hi1 hy0 hy1 hy2 rfl (by decide) (.slice va ns.length vc) ns.length (intCells (intL ns)) rfl (hown.alloc _) ⟨W1.heap.size,0,none⟩ 1 1 [.int .i64 x] rfl rfl (by simpa using new_one W1 (.int .i64 x) 3) (fun u hu=>by simp at hu;subst hu;rfl) (by unfold maxLen;omega) (by omega) (by simp;omega) ?_)
 intro qv w9 hown9 hgr9 hz9 hat9
 clear hz9
 have hnq:∀(k:Nat) (cs:Array Value) (e:TypeId),W1.heap[k]?=some (.cells cs e (0,0))->e≠3->some k≠(Value.slice va ns.length vc).ownBlock:=by
  intro k cs e hk he e1
  obtain⟨cur,e2,h7,h8⟩:=own_type hown (e0:=e) (fun e3=>he e3.symm) k e1.symm
  rw[hk]at h7
  injection h7 with h7
  injection h7 with _ h7
  exact h8 h7.symm
 have hq9:=hnq q _ _ hqh (by decide)
 have hw9:=hnq gw _ _ hfr (by decide)
 have hp9:some gp≠(Value.slice va ns.length vc).ownBlock:=fun e=>by have:=(hown.lt _ e.symm).1;omega
 have hwlt:=(Array.getElem?_eq_some_iff.1 hfr).1
 have z0:=(hgr9.block q (by simp;omega) hq9).trans (heap_at_old _ _ hqh)
 have z1:=(hgr9.block gw (by simp;omega) hw9).trans (heap_at_old _ _ hfr)
 have z2:=(hgr9.block gp (by simp;omega) hp9).trans (heap_at_old _ _ hrow)
 have y1:w9.cell? ⟨q,1,none⟩=some (.slice va (intL ns).length vc):=by rw[cell_of_row _ _ _ _ _ _ z0];rfl
 have y2:w9.frozen? ⟨q,1,none⟩=false:=frozen_of_row _ _ _ _ _ z0
 have hK9:Keeps (q :: gp :: blkOf va) w w9:=by
  refine hK1.trans (G:=blkOf va) ⟨hgr9.os,hgr9.tape,hgr9.output,Nat.le_trans (by simp) hgr9.size,fun k hk hn=>?_⟩ (fun k hk=>.inl (by simp[hk]))
  rw[hgr9.block k (by simp;omega) (fun e=>hn ?_)]
  ·exact Below.heap_alloc _ _ _ hk
  ·cases va with
   | none=>simp[Value.ownBlock]at e
   | some a=>simp[Value.ownBlock]at e;simp[blkOf,e]
 obtain⟨g',vc',hqv,hgn⟩:∃ g' vc',qv=.slice (some ⟨g',0,none⟩) (ns.length+1) vc'/\(g'∈blkOf va\/w.heap.size<=g'):=by
  rcases hown9.2 with⟨_,hn⟩ | ⟨g',cap,cur',hv,hb,hg',k1,k2,k3,k4⟩
  ·omega
  ·refine⟨g',cap,hv,?_⟩
   have hob:qv.ownBlock=some g':=by rw[hv];rfl
   rcases hat9 with h7 | h7
   ·left
    rw[hob]at h7
    cases va with
    | none=>simp[Value.ownBlock]at h7
    | some a=>simp[Value.ownBlock]at h7;simp[blkOf,h7]
   ·right
    rw[hob]at h7
    injection h7 with h7
    rw[h7]
    exact Nat.le_succ_of_le hK1.size
 subst hqv
 have hqg:g'≠q:=by
  intro e
  obtain⟨cur,e2,h7,h8⟩:=own_type hown9 (e0:=178) (by decide) g' rfl
  rw[e,z0]at h7
  injection h7 with h7
  injection h7 with _ h7
  exact h8 h7.symm
 have hwq:gw≠q:=by
  intro e
  rw[e,z0]at z1
  injection z1 with z1
  injection z1 with _ z1
  exact absurd z1 (by decide)
 clear hat9 hgr9 g1 g2 hK1
 go_wp2_with fail
 go_end0
 have hint:intL (ns++[x])=intL ns++[(x:Int)]:=by simp[intL]
 have hlen:(intL (ns++[x])).length=ns.length+1:=by rw[intL_length];simp
 refine⟨rfl,g',vc',⟨⟨?_,?_,?_,?_⟩,?_,?_⟩,hgn,hK9.set (by simp) _⟩
 ·rw[heap_setCell_same _ _ _ _ _ _ z0,plOf_length,plOf_length,hlen];rfl
 ·show(w9.setCell ⟨q,1,none⟩ _).heap[gw]?=_
  rw[heap_setCell_other _ _ _ _ hwq]
  exact z1
 ·unfold Row
  rw[heap_setCell_other _ _ _ _ hpq]
  exact z2
 ·rw[hlen,hint]
  have e9:intCells (intL ns++[(x:Int)])=intCells (intL ns)++[.int .i64 x]:=by simp[intCells]
  rw[e9]
  refine hown9.kept (set_grown w9 q 1 _) (.inr ?_)
  intro e
  have e':g'=q:=by injection e
  exact hqg e'
 ·rw[List.nodup_append]
  refine⟨H.out.2.2.2.1,by simp,fun a ha b hb=>?_⟩
  rw[List.mem_singleton.1 hb]
  exact fun e=>hx (e ▸ ha)
 ·intro y hy
  rcases List.mem_append.1 hy with h7 | h7
  ·exact H.out.2.2.2.2 y h7
  ·rw[List.mem_singleton.1 h7];exact hxn
end Go.Proofs.YtjebhhoibofmfaaGreat
namespace Go.Proofs.YtjebhhoibofmfaaGreat
open Go.RowKit
theorem meth_len (n q : Nat) (w : World) : Sem.run Tryz.prog (method (n + 1) 181 (.pointer (some ⟨q, 0, none⟩)) "Len") w = .ok (118, .pointer (some ⟨q, 0, none⟩)) w := by kernel_rfl
theorem meth_push (n q : Nat) (w : World) : Sem.run Tryz.prog (method (n + 1) 181 (.pointer (some ⟨q, 0, none⟩)) "Push") w = .ok (171, .pointer (some ⟨q, 0, none⟩)) w := by kernel_rfl
theorem meth_pop (n q : Nat) (w : World) : Sem.run Tryz.prog (method (n + 1) 181 (.pointer (some ⟨q, 0, none⟩)) "Pop") w = .ok (170, .pointer (some ⟨q, 0, none⟩)) w := by kernel_rfl
theorem lenS_any(q gw gp:Nat)(va:Option Addr)(vc:Nat)(ws ns:List Nat)(w:World)(h:QS w q gw gp va vc ws ns) :
 Calls Tryz.prog 118 #[.pointer (some ⟨q,0,none⟩)] w fun e w'=>e=.returned (.int .i64 ns.length)/\w'=w:=by
 have:=len_any q gw gp va vc ws (intL ns) (plOf ws.length ns) w h.1
 rwa [intL_length]at this
theorem upL_perm(ws:List Nat):∀(f:Nat) (ns:List Nat) (j:Nat),j < ns.length->(upL ws f ns j).Perm ns
 | 0,ns,_,_=>List.Perm.refl _
 | f+1,ns,j,hj=>by
   rw[upL]
   split
   ·exact List.Perm.refl _
   ·exact(upL_perm ws f _ _ (by rw[swapL_length];omega)).trans (swapL_perm ns (by omega) hj)
theorem downL_perm(ws:List Nat):∀(f:Nat) (ns:List Nat) (i n:Nat),n<=ns.length->(downL ws f ns i n).1.Perm ns
 | 0,ns,_,_,_=>List.Perm.refl _
 | f+1,ns,i,n,hn=>by
   rw[downL]
   split
   ·exact List.Perm.refl _
   ·rename_i hc
    have hlt:2*i+1 < n:=by
     have:¬ n<=2*i+1:=fun e=>hc (.inl e)
     omega
    have hch:=childL_lt ws ns i n hlt
    exact(downL_perm ws f _ _ n (by rw[swapL_length];exact hn)).trans (swapL_perm ns (by omega) (by omega))
def pushL(ws ns:List Nat)(x:Nat):List Nat:=upL ws (ns.length+1) (ns++[x]) ns.length
set_option maxRecDepth 100000 in
set_option maxHeartbeats 1000000 in
theorem heapPush_any(q gw gp:Nat)(va:Option Addr)(vc:Nat)(ws ns:List Nat)(x:Nat)(w:World)(h:QS w q gw gp va vc ws ns)(hx:x ∉ ns)(hxn:x < ws.length)(hl:ns.length<=900) :
 Calls Tryz.prog 133 #[.iface 181 (.pointer (some ⟨q,0,none⟩)),.iface 3 (.int .i64 x)] w fun e w'=>e=.returned (.tuple #[])/\∃ g' vc',QS w' q gw gp (some ⟨g',0,none⟩) vc' ws (pushL ws ns x)/\(g'∈blkOf va\/w.heap.size<=g')/\Keeps (q :: gp :: blkOf va) w w':=by
 have m1:=meth_len
 have m2:=meth_push
 go_enter Tryz.func133,Tryz.ntmps133
 go_wp2_with fail
 refine(linePush_any q gw gp va vc ws ns x w h hx hxn (by omega)).mono ?_
 rintro e w1 ⟨rfl,g',vc',hQ1,hg1,hK1⟩
 have hln:(ns++[x]).length=ns.length+1:=by simp
 have hLn:=lenS_any q gw gp _ vc' ws (ns++[x]) w1 hQ1
 rw[hln]at hLn
 have HLn:=hide hLn
 clear hLn
 go_wp2_with fail
 refine HLn.out.mono ?_
 rintro e w2 ⟨rfl,rfl⟩
 have hwr:wrap64 ((ns.length:Int)+1 - 1)=(ns.length:Int):=by unfold wrap64;omega
 have hU:=up_any q gw gp g' vc' ws (ns++[x]) ns.length w2 hQ1 (by rw[hln];omega) (by rw[hln];omega)
 have HU:=hide hU
 clear hU
 go_wp2_with fail
 refine HU.out.mono ?_
 rintro e w3 ⟨rfl,hQ3,hK3⟩
 go_wp2_with fail
 go_end0
 refine⟨rfl,g',vc',hQ3,hg1,hK1.trans hK3 (fun k hk=>?_)⟩
 rcases List.mem_cons.1 hk with rfl | hk
 ·rcases hg1 with h7 | h7
  ·exact .inl (by simp[h7])
  ·exact .inr h7
 ·exact .inl (by simp at hk;simp[hk])
end Go.Proofs.YtjebhhoibofmfaaGreat
