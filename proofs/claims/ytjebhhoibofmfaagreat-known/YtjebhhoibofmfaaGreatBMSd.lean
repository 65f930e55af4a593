import Derived.Test.YtjebhhoibofmfaaGreatBMSc
namespace Go.Proofs.YtjebhhoibofmfaaGreat
open Go.RowKit
theorem downL_length(ws:List Nat)(f:Nat)(ns:List Nat)(i n:Nat)(hn:n<=ns.length):(downL ws f ns i n).1.length=ns.length:=(downL_perm ws f ns i n hn).length_eq
theorem upL_length(ws:List Nat)(f:Nat)(ns:List Nat)(j:Nat)(hj:j < ns.length):(upL ws f ns j).length=ns.length:=(upL_perm ws f ns j hj).length_eq
theorem split_last{l:List Nat}{n:Nat}(h:l.length=n+1):l=l.take n++[l.getD n 0]:=by
 have hn:n < l.length:=by omega
 rw[List.getD_eq_getElem?_getD,List.getElem?_eq_getElem hn,Option.getD_some,<-List.take_succ_eq_append_getElem hn,List.take_of_length_le (by omega)]
def setL(ws ns:List Nat)(i n:Nat):List Nat:=if i < (downL ws (n - i+1) ns i n).2 then(downL ws (n - i+1) ns i n).1 else upL ws (i+1) (downL ws (n - i+1) ns i n).1 i
theorem setL_perm(ws ns:List Nat)(i n:Nat)(hi:i < ns.length)(hn:n<=ns.length):(setL ws ns i n).Perm ns:=by
 unfold setL
 split
 ·exact downL_perm ws _ ns i n hn
 ·exact(upL_perm ws _ _ i (by rw[downL_length _ _ _ _ _ hn];exact hi)).trans (downL_perm ws _ ns i n hn)
def popL(ws ns:List Nat):List Nat:=(downL ws (ns.length - 1+1) (swapL ns 0 (ns.length - 1)) 0 (ns.length - 1)).1
theorem popL_perm(ws ns:List Nat)(h:ns≠[]):(popL ws ns).Perm ns:=by
 have h1:0 < ns.length:=List.length_pos_iff.2 h
 unfold popL
 exact(downL_perm ws _ _ _ _ (by rw[swapL_length];omega)).trans (swapL_perm ns h1 (by omega))
set_option maxRecDepth 100000 in
set_option maxHeartbeats 1000000 in
theorem heapPop_any(q gw gp g:Nat)(vc:Nat)(ws ns:List Nat)(w:World)(h:QS w q gw gp (some ⟨g,0,none⟩) vc ws ns)(hne:ns≠[])(hl:ns.length<=900) :
 Calls Tryz.prog 119 #[.iface 181 (.pointer (some ⟨q,0,none⟩))] w fun e w'=>e=.returned (.iface 3 (.int .i64 ((popL ws ns).getD (ns.length - 1) 0:Nat)))/\QS w' q gw gp (some ⟨g,0,none⟩) vc ws ((popL ws ns).take (ns.length - 1))/\Keeps [q,gp,g] w w':=by
 have m1:=meth_len
 have m2:=meth_swap
 have m3:=meth_pop
 have hpl:=(popL_perm ws ns hne).length_eq
 have HP:Hid (popL ws ns=(downL ws (ns.length - 1+1) (swapL ns 0 (ns.length - 1)) 0 (ns.length - 1)).1):=rfl
 have hpos:0 < ns.length:=List.length_pos_iff.2 hne
 obtain⟨n,hn⟩:∃ n,ns.length=n+1:=⟨ns.length - 1,by omega⟩
 have hLn:=lenS_any q gw gp _ vc ws ns w h
 rw[hn]at hLn hl
 rw[hn,Nat.add_sub_cancel]at HP
 rw[hn]at hpl
 have HLn:=hide hLn
 have Hn:=hide hn
 have hS:=swapS_any q gw gp _ vc ws ns 0 n w h hpos (by omega)
 have HS:=hide hS
 rw[hn,Nat.add_sub_cancel]
 generalize hxx:(popL ws ns).getD n 0=x
 have HX:=hide hxx
 clear hLn hS hn hpos hxx
 go_enter Tryz.func119,Tryz.ntmps119
 go_wp2_with fail
 refine HLn.out.mono ?_
 rintro e w1 ⟨rfl,rfl⟩
 have hwr:wrap64 ((n:Int)+1 - 1)=(n:Int):=by unfold wrap64;omega
 go_wp2_with fail
 refine HS.out.mono ?_
 rintro e w2 ⟨rfl,g',hg',hQ2,hK2⟩
 injection hg' with hg'
 injection hg' with hg'
 subst hg'
 have hsl:(swapL ns 0 n).length=n+1:=by rw[swapL_length];exact Hn.out
 have hD:=down_any q gw gp g vc ws (swapL ns 0 n) 0 n w2 hQ2 (by omega) (by omega) (by omega)
 rw[Nat.sub_zero,<-HP.out]at hD
 have HD:=hide hD
 clear hD
 go_wp2_with fail
 refine HD.out.mono ?_
 rintro e w3 ⟨rfl,hQ3,hK3⟩
 rw[split_last hpl,HX.out]at hQ3
 have hPp:=linePop_any q gw gp _ vc ws _ _ w3 hQ3 (by rw[List.length_take];omega)
 have HPp:=hide hPp
 clear hPp
 go_wp2_with fail
 refine HPp.out.mono ?_
 rintro e w4 ⟨rfl,hQ4,hK4⟩
 go_wp2_with fail
 go_ret
 refine⟨rfl,hQ4,?_⟩
 have a1:Keeps [q,gp,g] w1 w2:=(Keeps.refl _ _).trans hK2 (fun k hk=>.inl (by simp at hk;rcases hk with rfl | rfl <;> simp))
 have a2:Keeps [q,gp,g] w1 w3:=a1.trans hK3 (fun k hk=>.inl (by simp at hk;rcases hk with rfl | rfl <;> simp))
 exact a2.trans hK4 (fun k hk=>.inl (by simp at hk;rcases hk with rfl | rfl <;> simp))
set_option maxRecDepth 100000 in
set_option maxHeartbeats 1000000 in
theorem heapFix_any(q gw gp g:Nat)(vc:Nat)(ws ns:List Nat)(i:Nat)(w:World)(h:QS w q gw gp (some ⟨g,0,none⟩) vc ws ns)(hi:i < ns.length)(hl:ns.length<=900) :
 Calls Tryz.prog 141 #[.iface 181 (.pointer (some ⟨q,0,none⟩)),.int .i64 i] w fun e w'=>e=.returned (.tuple #[])/\QS w' q gw gp (some ⟨g,0,none⟩) vc ws (setL ws ns i ns.length)/\Keeps [g,gp] w w':=by
 have m1:=meth_len
 have HSt:Hid (setL ws ns i ns.length=if i < (downL ws (ns.length - i+1) ns i ns.length).2 then(downL ws (ns.length - i+1) ns i ns.length).1 else upL ws (i+1) (downL ws (ns.length - i+1) ns i ns.length).1 i):=rfl
 have HLn:=hide (lenS_any q gw gp _ vc ws ns w h)
 have HD:=hide (down_any q gw gp g vc ws ns i ns.length w h (by omega) (Nat.le_refl _) (by omega))
 have hdl:=downL_length ws (ns.length - i+1) ns i ns.length (Nat.le_refl _)
 have Hdl:=hide hdl
 generalize downL ws (ns.length - i+1) ns i ns.length=r at *
 obtain⟨l,k⟩:=r
 simp only at HSt HD hdl Hdl
 generalize setL ws ns i ns.length=R at *
 clear hdl
 go_enter Tryz.func141,Tryz.ntmps141
 go_wp2_with fail
 refine HLn.out.mono ?_
 rintro e w1 ⟨rfl,rfl⟩
 go_wp2_with fail
 refine HD.out.mono ?_
 rintro e w2 ⟨rfl,hQ2,hK2⟩
 by_cases hik:i < k
 ·have hd:decide (i < k)=true:=by simp[hik]
  have HR:Hid (R=l):=by show R=l;rw[HSt.out,if_pos hik]
  rw[hd]
  go_wp2_with fail
  go_end0
  exact⟨rfl,by rw[HR.out];exact hQ2,hK2⟩
 ·have hd:decide (i < k)=false:=by simp;omega
  have HR:Hid (R=upL ws (i+1) l i):=by show R=_;rw[HSt.out,if_neg hik]
  rw[hd]
  have HU:=hide (up_any q gw gp g vc ws l i w2 hQ2 (by rw[Hdl.out];exact hi) (by rw[Hdl.out];omega))
  go_wp2_with fail
  refine HU.out.mono ?_
  rintro e w3 ⟨rfl,hQ3,hK3⟩
  go_wp2_with fail
  go_end0
  exact⟨rfl,by rw[HR.out];exact hQ3,hK2.trans hK3 (fun k hk=>.inl hk)⟩
def remL(ws ns:List Nat)(i:Nat):List Nat:=if ns.length - 1=i then ns else setL ws (swapL ns i (ns.length - 1)) i (ns.length - 1)
theorem remL_perm(ws ns:List Nat)(i:Nat)(hi:i < ns.length):(remL ws ns i).Perm ns:=by
 unfold remL
 split
 ·exact List.Perm.refl _
 ·exact(setL_perm ws _ i _ (by rw[swapL_length];exact hi) (by rw[swapL_length];omega)).trans (swapL_perm ns hi (by omega))
end Go.Proofs.YtjebhhoibofmfaaGreat
namespace Go.Proofs.YtjebhhoibofmfaaGreat
open Go.RowKit
set_option maxRecDepth 100000 in
set_option maxHeartbeats 2000000 in
theorem heapRemove_any(q gw gp g:Nat)(vc:Nat)(ws ns:List Nat)(i:Nat)(w:World)(h:QS w q gw gp (some ⟨g,0,none⟩) vc ws ns)(hi:i < ns.length)(hl:ns.length<=900) :
 Calls Tryz.prog 139 #[.iface 181 (.pointer (some ⟨q,0,none⟩)),.int .i64 i] w fun e w'=>e=.returned (.iface 3 (.int .i64 ((remL ws ns i).getD (ns.length - 1) 0:Nat)))/\QS w' q gw gp (some ⟨g,0,none⟩) vc ws ((remL ws ns i).take (ns.length - 1))/\Keeps [q,gp,g] w w':=by
 have m1:=meth_len
 have m2:=meth_swap
 have m3:=meth_pop
 have HP:Hid (remL ws ns i=if ns.length - 1=i then ns else setL ws (swapL ns i (ns.length - 1)) i (ns.length - 1)):=rfl
 obtain⟨n,hn⟩:∃ n,ns.length=n+1:=⟨ns.length - 1,by omega⟩
 have hLn:=lenS_any q gw gp _ vc ws ns w h
 rw[hn]at hLn hl
 rw[hn,Nat.add_sub_cancel]at HP
 have HLn:=hide hLn
 have Hn:=hide hn
 rw[hn,Nat.add_sub_cancel]
 generalize hrr:remL ws ns i=R at *
 generalize hxx:R.getD n 0=x
 have HX:=hide hxx
 have hin:i<=n:=by omega
 clear hLn hn hxx hrr
 go_enter Tryz.func139,Tryz.ntmps139
 go_wp2_with fail
 refine HLn.out.mono ?_
 rintro e w1 ⟨rfl,rfl⟩
 have hwr:wrap64 ((n:Int)+1 - 1)=(n:Int):=by unfold wrap64;omega
 have hK0:Keeps [q,gp,g] w1 w1:=Keeps.refl _ _
 by_cases hni:n=i
 ·have HRl:Hid (R=ns):=by show R=ns;rw[HP.out,if_pos hni]
  have HLl:Hid (ns.length=n+1):=Hn
  have hni':((n:Int) != (i:Int))=false:=by simp[hni]
  rw[split_last (l:=ns) (n:=n) HLl.out,show(ns).getD n 0=x by rw[<-HRl.out];exact HX.out]at h
  have HPp:=hide (linePop_any q gw gp _ vc ws _ _ w1 h (by rw[List.length_take];omega))
  go_wp2_with fail
  refine HPp.out.mono ?_
  rintro e wz ⟨rfl,hQz,hKz⟩
  go_wp2_with fail
  go_ret
  exact⟨rfl,by rw[HRl.out];exact hQz,hK0.trans hKz (fun k hk=>.inl (by simp at hk;rcases hk with rfl | rfl <;> simp))⟩
 ·have hni':((n:Int) != (i:Int))=true:=by simp;omega
  have hS:=swapS_any q gw gp _ vc ws ns i n w1 h hi (by have:=Hn.out;omega)
  have HS:=hide hS
  have Hni:=hide hni
  clear hS hni
  go_wp2_with fail
  refine HS.out.mono ?_
  rintro e w2 ⟨rfl,g',hg',hQ2,hK2⟩
  injection hg' with hg'
  injection hg' with hg'
  subst hg'
  have hsl:(swapL ns i n).length=n+1:=by rw[swapL_length];exact Hn.out
  have Hsl:=hide hsl
  have hKa:Keeps [q,gp,g] w1 w2:=hK0.trans hK2 (fun k hk=>.inl (by simp at hk;rcases hk with rfl | rfl <;> simp))
  have HSt:Hid (R=if i < (downL ws (n - i+1) (swapL ns i n) i n).2 then(downL ws (n - i+1) (swapL ns i n) i n).1 else upL ws (i+1) (downL ws (n - i+1) (swapL ns i n) i n).1 i):=by
   show R=_
   rw[HP.out,if_neg Hni.out];rfl
  have HD:=hide (down_any q gw gp g vc ws (swapL ns i n) i n w2 hQ2 (by omega) (by omega) (by omega))
  have Hdl:=hide (downL_length ws (n - i+1) (swapL ns i n) i n (by omega))
  generalize downL ws (n - i+1) (swapL ns i n) i n=r at *
  obtain⟨l,k⟩:=r
  simp only at HSt HD Hdl
  clear hsl
  go_wp2_with fail
  refine HD.out.mono ?_
  rintro e w3 ⟨rfl,hQ3,hK3⟩
  have hKb:Keeps [q,gp,g] w1 w3:=hKa.trans hK3 (fun k hk=>.inl (by simp at hk;rcases hk with rfl | rfl <;> simp))
  by_cases hik:i < k
  ·have hd:decide (i < k)=true:=by simp[hik]
   have HRl:Hid (R=l):=by show R=l;rw[HSt.out,if_pos hik]
   have HLl:Hid (l.length=n+1):=Hdl.out.trans Hsl.out
   rw[hd]
   rw[split_last (l:=l) (n:=n) HLl.out,show(l).getD n 0=x by rw[<-HRl.out];exact HX.out]at hQ3
   have HPp:=hide (linePop_any q gw gp _ vc ws _ _ w3 hQ3 (by rw[List.length_take];omega))
   go_wp2_with fail
   refine HPp.out.mono ?_
   rintro e wz ⟨rfl,hQz,hKz⟩
   go_wp2_with fail
   go_ret
   exact⟨rfl,by rw[HRl.out];exact hQz,hKb.trans hKz (fun k hk=>.inl (by simp at hk;rcases hk with rfl | rfl <;> simp))⟩
  ·have hd:decide (i < k)=false:=by simp;omega
   have HRl:Hid (R=upL ws (i+1) l i):=by show R=_;rw[HSt.out,if_neg hik]
   have hll:l.length=n+1:=Hdl.out.trans Hsl.out
   have HU:=hide (up_any q gw gp g vc ws l i w3 hQ3 (by omega) (by omega))
   have HLl:Hid ((upL ws (i+1) l i).length=n+1):=(upL_length ws (i+1) l i (by omega)).trans hll
   generalize upL ws (i+1) l i=u at *
   clear hll
   rw[hd]
   go_wp2_with fail
   refine HU.out.mono ?_
   rintro e w4 ⟨rfl,hQ4,hK4⟩
   have hKc:Keeps [q,gp,g] w1 w4:=hKb.trans hK4 (fun k hk=>.inl (by simp at hk;rcases hk with rfl | rfl <;> simp))
   rw[split_last (l:=u) (n:=n) HLl.out,show(u).getD n 0=x by rw[<-HRl.out];exact HX.out]at hQ4
   have HPp:=hide (linePop_any q gw gp _ vc ws _ _ w4 hQ4 (by rw[List.length_take];omega))
   go_wp2_with fail
   refine HPp.out.mono ?_
   rintro e wz ⟨rfl,hQz,hKz⟩
   go_wp2_with fail
   go_ret
   exact⟨rfl,by rw[HRl.out];exact hQz,hKc.trans hKz (fun k hk=>.inl (by simp at hk;rcases hk with rfl | rfl <;> simp))⟩
end Go.Proofs.YtjebhhoibofmfaaGreat
namespace Go.Proofs.YtjebhhoibofmfaaGreat
open Go.RowKit
theorem QS.addr{w:World}{q gw gp:Nat}{va:Option Addr}{vc:Nat}{ws ns:List Nat}(h:QS w q gw gp va vc ws ns)(hn:ns≠[]):∃ g,va=some ⟨g,0,none⟩:=by
 obtain⟨g,hg,_⟩:=own_ints h.1.2.2.2 (i:=0) (by rw[intL_length];exact List.length_pos_iff.2 hn)
 exact⟨g,hg⟩
theorem QS.place{w:World}{q gw gp:Nat}{va:Option Addr}{vc:Nat}{ws ns:List Nat}(h:QS w q gw gp va vc ws ns){x:Nat}(hx:x < ws.length) :
 w.cell? ⟨q,2,none⟩=some (.slice (some ⟨gp,0,none⟩) ws.length ws.length)/\w.cell? ⟨gp,x,none⟩=some (.int .i64 (if x∈ns then(ns.idxOf x:Int)else -1)):=by
 obtain⟨⟨h1,h2,h3,h4⟩,h5,h6⟩:=h
 refine⟨by rw[cell_of_row _ _ _ _ _ _ h1];simp[plOf_length],?_⟩
 have:=h3.cell (k:=x) (by rw[plOf_length];exact hx)
 rw[List.getD_eq_getElem?_getD,plOf_get ns hx,Option.getD_some]at this
 exact this
set_option maxRecDepth 100000 in
set_option maxHeartbeats 1000000 in
theorem qnext_none(q gw gp:Nat)(va:Option Addr)(vc:Nat)(ws:List Nat)(w:World)(h:QS w q gw gp va vc ws []) :
 Calls Tryz.prog 98 #[.pointer (some ⟨q,0,none⟩)] w fun e w'=>e=.returned (.tuple #[.int .i64 0,.bool false])/\w'=w:=by
 have HL:=hide (lenS_any q gw gp va vc ws [] w h)
 go_enter Tryz.func98,Tryz.ntmps98
 go_wp2_with fail
 refine HL.out.mono ?_
 rintro e w1 ⟨rfl,rfl⟩
 go_wp2_with fail
 go_ret2
 exact⟨rfl,rfl⟩
set_option maxRecDepth 100000 in
set_option maxHeartbeats 1000000 in
theorem qnext_some(q gw gp g:Nat)(vc:Nat)(ws ns:List Nat)(w:World)(h:QS w q gw gp (some ⟨g,0,none⟩) vc ws ns)(hne:ns≠[])(hl:ns.length<=900) :
 Calls Tryz.prog 98 #[.pointer (some ⟨q,0,none⟩)] w fun e w'=>e=.returned (.tuple #[.int .i64 ((popL ws ns).getD (ns.length - 1) 0:Nat),.bool true])/\QS w' q gw gp (some ⟨g,0,none⟩) vc ws ((popL ws ns).take (ns.length - 1))/\Keeps [q,gp,g] w w':=by
 have t1:=ta_int
 have HL:=hide (lenS_any q gw gp _ vc ws ns w h)
 have HP:=hide (heapPop_any q gw gp g vc ws ns w h hne hl)
 have hpos:0 < ns.length:=List.length_pos_iff.2 hne
 have hz:((ns.length:Int) == 0)=false:=by simp;exact hne
 generalize (popL ws ns).getD (ns.length - 1) 0=x at *
 generalize (popL ws ns).take (ns.length - 1)=ms at *
 go_enter Tryz.func98,Tryz.ntmps98
 go_wp2_with fail
 refine HL.out.mono ?_
 rintro e w1 ⟨rfl,rfl⟩
 go_wp2_with fail
 refine HP.out.mono ?_
 rintro e w2 ⟨rfl,hQ2,hK2⟩
 go_wp2_with fail
 go_ret2
 exact⟨rfl,hQ2,hK2⟩
set_option maxRecDepth 100000 in
set_option maxHeartbeats 1000000 in
theorem qleave_out(q gw gp:Nat)(va:Option Addr)(vc:Nat)(ws ns:List Nat)(x:Nat)(w:World)(h:QS w q gw gp va vc ws ns)(hx:x ∉ ns)(hxn:x < ws.length) :
 Calls Tryz.prog 121 #[.pointer (some ⟨q,0,none⟩),.int .i64 x] w fun e w'=>e=.returned (.tuple #[])/\w'=w:=by
 obtain⟨s2,px⟩:=h.place hxn
 rw[if_neg hx]at px
 go_enter Tryz.func121,Tryz.ntmps121
 go_wp2_with fail
 go_end0
 exact⟨rfl,rfl⟩
set_option maxRecDepth 100000 in
set_option maxHeartbeats 1000000 in
theorem qleave_in(q gw gp g:Nat)(vc:Nat)(ws ns:List Nat)(x:Nat)(w:World)(h:QS w q gw gp (some ⟨g,0,none⟩) vc ws ns)(hx:x∈ns)(hl:ns.length<=900) :
 Calls Tryz.prog 121 #[.pointer (some ⟨q,0,none⟩),.int .i64 x] w fun e w'=>e=.returned (.tuple #[])/\QS w' q gw gp (some ⟨g,0,none⟩) vc ws ((remL ws ns (ns.idxOf x)).take (ns.length - 1))/\Keeps [q,gp,g] w w':=by
 obtain⟨s2,px⟩:=h.place (h.2.2 x hx)
 rw[if_pos hx]at px
 have hk:=List.idxOf_lt_length_iff.2 hx
 have hxn:=h.2.2 x hx
 have HP:=hide (heapRemove_any q gw gp g vc ws ns (ns.idxOf x) w h hk hl)
 generalize (remL ws ns (ns.idxOf x)).getD (ns.length - 1) 0=y at *
 generalize (remL ws ns (ns.idxOf x)).take (ns.length - 1)=ms at *
 generalize ns.idxOf x=k at *
 have hz:((k:Int) != -1)=true:=by simp
 go_enter Tryz.func121,Tryz.ntmps121
 go_wp2_with fail
 refine HP.out.mono ?_
 rintro e w2 ⟨rfl,hQ2,hK2⟩
 go_wp2_with fail
 go_end0
 exact⟨rfl,hQ2,hK2⟩
set_option maxRecDepth 100000 in
set_option maxHeartbeats 1000000 in
theorem qreturn_in(q gw gp:Nat)(va:Option Addr)(vc:Nat)(ws ns:List Nat)(x:Nat)(w:World)(h:QS w q gw gp va vc ws ns)(hx:x∈ns) :
 Calls Tryz.prog 115 #[.pointer (some ⟨q,0,none⟩),.int .i64 x] w fun e w'=>e=.returned (.tuple #[])/\w'=w:=by
 obtain⟨s2,px⟩:=h.place (h.2.2 x hx)
 rw[if_pos hx]at px
 have hxn:=h.2.2 x hx
 generalize ns.idxOf x=k at *
 have hz:((k:Int) == -1)=false:=by simp
 go_enter Tryz.func115,Tryz.ntmps115
 go_wp2_with fail
 go_end0
 exact⟨rfl,rfl⟩
set_option maxRecDepth 100000 in
set_option maxHeartbeats 1000000 in
theorem qreturn_out(q gw gp:Nat)(va:Option Addr)(vc:Nat)(ws ns:List Nat)(x:Nat)(w:World)(h:QS w q gw gp va vc ws ns)(hx:x ∉ ns)(hxn:x < ws.length)(hl:ns.length<=900) :
 Calls Tryz.prog 115 #[.pointer (some ⟨q,0,none⟩),.int .i64 x] w fun e w'=>e=.returned (.tuple #[])/\∃ g' vc',QS w' q gw gp (some ⟨g',0,none⟩) vc' ws (pushL ws ns x)/\(g'∈blkOf va\/w.heap.size<=g')/\Keeps (q :: gp :: blkOf va) w w':=by
 obtain⟨s2,px⟩:=h.place hxn
 rw[if_neg hx]at px
 have HP:=hide (heapPush_any q gw gp va vc ws ns x w h hx hxn hl)
 go_enter Tryz.func115,Tryz.ntmps115
 go_wp2_with fail
 refine HP.out.mono ?_
 rintro e w2 ⟨rfl,hQ2⟩
 go_wp2_with fail
 go_end0
 exact⟨rfl,hQ2⟩
end Go.Proofs.YtjebhhoibofmfaaGreat
