import Derived.Test.YtjebhhoibofmfaaGreatBMSz
import Derived.Test.YtjebhhoibofmfaaGreatBXGoA
namespace Go.Proofs.YtjebhhoibofmfaaGreat
open Go.RowKit
def FrL(s bl:Nat)(v4 v5 v6:Value)(a:Act):Prop:=∃ u1 u8 u9 u10 u11 u12 u13 u14 u15 u16 u17 u18 u19 u20 u21 u22 u23 u24 u25 u26 u27 u28 u29 u30 u31 u32 u33 u34 u35 u36 u37 u38 u39 u40 u41 u42 u43 u44 u45 u46 u47 u48 u49 u50 u51 u52 u53 u54 u55 u56 u57 u58 u59 u60 u61 u62 u63 u64 u65 u66 u67 u68 u69 u70 u71 u72:Value,a={ tmps:=#[.pointer (some ⟨s,0,none⟩),u1,.int .i64 0,.bool false,v4,v5,v6,.pointer (some ⟨bl,0,none⟩),u8,u9,u10,u11,u12,u13,u14,u15,u16,u17,u18,u19,u20,u21,u22,u23,u24,u25,u26,u27,u28,u29,u30,u31,u32,u33,u34,u35,u36,u37,u38,u39,u40,u41,u42,u43,u44,u45,u46,u47,u48,u49,u50,u51,u52,u53,u54,u55,u56,u57,u58,u59,u60,u61,u62,u63,u64,u65,u66,u67,u68,u69,u70,u71,u72],defers:=[] }
theorem fr_mk{s bl:Nat}{v4 v5 v6 u1 u8 u9 u10 u11 u12 u13 u14 u15 u16 u17 u18 u19 u20 u21 u22 u23 u24 u25 u26 u27 u28 u29 u30 u31 u32 u33 u34 u35 u36 u37 u38 u39 u40 u41 u42 u43 u44 u45 u46 u47 u48 u49 u50 u51 u52 u53 u54 u55 u56 u57 u58 u59 u60 u61 u62 u63 u64 u65 u66 u67 u68 u69 u70 u71 u72:Value}:FrL s bl v4 v5 v6 { tmps:=#[.pointer (some ⟨s,0,none⟩),u1,.int .i64 0,.bool false,v4,v5,v6,.pointer (some ⟨bl,0,none⟩),u8,u9,u10,u11,u12,u13,u14,u15,u16,u17,u18,u19,u20,u21,u22,u23,u24,u25,u26,u27,u28,u29,u30,u31,u32,u33,u34,u35,u36,u37,u38,u39,u40,u41,u42,u43,u44,u45,u46,u47,u48,u49,u50,u51,u52,u53,u54,u55,u56,u57,u58,u59,u60,u61,u62,u63,u64,u65,u66,u67,u68,u69,u70,u71,u72],defers:=[] }:=⟨_,_,_,_,_,_,_,_,_,_,_,_,_,_,_,_,_,_,_,_,_,_,_,_,_,_,_,_,_,_,_,_,_,_,_,_,_,_,_,_,_,_,_,_,_,_,_,_,_,_,_,_,_,_,_,_,_,_,_,_,_,_,_,_,_,_,rfl⟩
def LastBox(w:World)(bl:Nat)(e:En):Prop:=w.heap[bl]?=some (.cells #[.int .i64 e.pair,.int .i64 e.lit.x,.int .i64 e.lit.y,.bool e.lit.n,.int .i64 e.reason] 155 (0,0))
theorem LastBox.cells{w:World}{bl:Nat}{e:En}(h:LastBox w bl e):w.cell? ⟨bl,0,none⟩=some (.int .i64 e.pair)/\w.cell? ⟨bl,1,none⟩=some (.int .i64 e.lit.x)/\w.cell? ⟨bl,2,none⟩=some (.int .i64 e.lit.y)/\w.cell? ⟨bl,3,none⟩=some (.bool e.lit.n)/\w.cell? ⟨bl,4,none⟩=some (.int .i64 e.reason):=by
 refine⟨?_,?_,?_,?_,?_⟩ <;> (rw[cell_of_row _ _ _ _ _ _ h];rfl)
theorem LastBox.set{w:World}{bl:Nat}{e:En}(h:LastBox w bl e)(e':En):LastBox (((((w.setCell ⟨bl,0,none⟩ (.int .i64 e'.pair)).setCell ⟨bl,1,none⟩ (.int .i64 e'.lit.x)).setCell ⟨bl,2,none⟩ (.int .i64 e'.lit.y)).setCell ⟨bl,3,none⟩ (.bool e'.lit.n)).setCell ⟨bl,4,none⟩ (.int .i64 e'.reason)) bl e':=by
 have h0:(w.setCell ⟨bl,0,none⟩ (.int .i64 e'.pair)).heap[bl]?=some (.cells #[.int .i64 e'.pair,.int .i64 e.lit.x,.int .i64 e.lit.y,.bool e.lit.n,.int .i64 e.reason] 155 (0,0)):=(heap_setCell_same _ _ _ _ _ _ h).trans rfl
 have h1:((w.setCell ⟨bl,0,none⟩ (.int .i64 e'.pair)).setCell ⟨bl,1,none⟩ (.int .i64 e'.lit.x)).heap[bl]?=some (.cells #[.int .i64 e'.pair,.int .i64 e'.lit.x,.int .i64 e.lit.y,.bool e.lit.n,.int .i64 e.reason] 155 (0,0)):=(heap_setCell_same _ _ _ _ _ _ h0).trans rfl
 have h2:(((w.setCell ⟨bl,0,none⟩ (.int .i64 e'.pair)).setCell ⟨bl,1,none⟩ (.int .i64 e'.lit.x)).setCell ⟨bl,2,none⟩ (.int .i64 e'.lit.y)).heap[bl]?=some (.cells #[.int .i64 e'.pair,.int .i64 e'.lit.x,.int .i64 e'.lit.y,.bool e.lit.n,.int .i64 e.reason] 155 (0,0)):=(heap_setCell_same _ _ _ _ _ _ h1).trans rfl
 have h3:((((w.setCell ⟨bl,0,none⟩ (.int .i64 e'.pair)).setCell ⟨bl,1,none⟩ (.int .i64 e'.lit.x)).setCell ⟨bl,2,none⟩ (.int .i64 e'.lit.y)).setCell ⟨bl,3,none⟩ (.bool e'.lit.n)).heap[bl]?=some (.cells #[.int .i64 e'.pair,.int .i64 e'.lit.x,.int .i64 e'.lit.y,.bool e'.lit.n,.int .i64 e.reason] 155 (0,0)):=(heap_setCell_same _ _ _ _ _ _ h2).trans rfl
 exact(heap_setCell_same _ _ _ _ _ _ h3).trans rfl
structure RunAt (c:Sc) (F:List Nat) (W0:World) (bl:Nat) (ka:Option Addr) (kc:Nat) (G:List Nat) (S:Sr) (e:En) (w:World):Prop where
 ss:SS (c.kn ka kc) w G S
 kn:S.kn.length<=3518437208883
 off:Off [bl] G w
 box:LastBox w bl e
 fr:Fresh F G W0
 kp:Keeps F W0 w
theorem RunAt.go{c:Sc}{F:List Nat}{W0:World}{bl:Nat}{ka ka':Option Addr}{kc kc':Nat}{G G':List Nat}{S S':Sr}{e:En}{w w':World}(h:RunAt c F W0 bl ka kc G S e w)(hs:SS (c.kn ka' kc') w' G' S')(hf:Fresh G G' w)(hk:Keeps G w w')(hkn:S'.kn.length<=3518437208883):RunAt c F W0 bl ka' kc' G' S' e w':=
 ⟨hs,hkn,h.off.step hf hk.size,hk.row (h.off bl (by simp)).1 h.box,h.fr.trans hf h.kp.size,h.kp.tran hk h.fr⟩
theorem RunAt.up{c:Sc}{F:List Nat}{W0:World}{bl:Nat}{ka:Option Addr}{kc:Nat}{G:List Nat}{S:Sr}{e:En}{w w':World}(h:RunAt c F W0 bl ka kc G S e w)(hb:Below w.heap.size w w'):RunAt c F W0 bl ka kc G S e w':=
 h.go (h.ss.up hb) (Fresh.refl _ _) (Keeps.of hb) h.kn
def LookJ(c:Sc)(F:List Nat)(W0:World)(bl:Nat)(out:Option Nat)(S':Sr)(n:Nat)(a:Act)(w:World):Prop:=
 ∃ f ka kc G S e v4 v5 v6,n=2*f+1/\FrL c.s bl v4 v5 v6 a/\RunAt c F W0 bl ka kc G S e w/\runP c.E c.prs f none S=some (out,S')
def BackJ(c:Sc)(F:List Nat)(W0:World)(bl:Nat)(out:Option Nat)(S':Sr)(n:Nat)(a:Act)(w:World):Prop:=
 ∃ f ka kc G S e v5 v6,∃ k:Nat,n=2*f+1/\FrL c.s bl (.int .i64 k) v5 v6 a/\RunAt c F W0 bl ka kc G S e w/\runP c.E c.prs f (some k) S=some (out,S')
def TryJ(c:Sc)(F:List Nat)(W0:World)(bl:Nat)(out:Option Nat)(S':Sr)(n:Nat)(a:Act)(w:World):Prop:=
 ∃ f ka kc G S S2 e v4 v6,∃ p:Nat,n=2*f+2/\FrL c.s bl v4 (.int .i64 p) v6 a/\RunAt c F W0 bl ka kc G S e w/\takeP c.prs S p true (-1)=some S2/\runP c.E c.prs f none S2=some (out,S')
def TurnJ(c:Sc)(F:List Nat)(W0:World)(bl:Nat)(out:Option Nat)(S':Sr)(n:Nat)(a:Act)(w:World):Prop:=
 ∃ f ka kc G S S2 S3 e v5 v6,∃ k:Nat,n=2*f+2/\FrL c.s bl (.int .i64 k) v5 v6 a/\RunAt c F W0 bl ka kc G S e w/\learnP c.prs S k=some S2/\takeP c.prs S2 e.pair (!e.lit.n) k=some S3/\runP c.E c.prs f none S3=some (out,S')
def RunJ(c:Sc)(F:List Nat)(W0:World)(bl:Nat)(out:Option Nat)(S':Sr)(l n:Nat)(a:Act)(w:World):Prop:=
 match l with
 | 0=>BackJ c F W0 bl out S' n a w
 | 1=>LookJ c F W0 bl out S' n a w
 | 2=>TryJ c F W0 bl out S' n a w
 | 3=>TurnJ c F W0 bl out S' n a w
 | _=>False
theorem SS.nextNone{c:Sc}{w:World}{F:List Nat}{S:Sr}(h:SS c w F S)(hn:S.ns=[]) :
 Calls Tryz.prog 98 #[.pointer (some ⟨c.q,0,none⟩)] w fun e w'=>e=.returned (.tuple #[.int .i64 0,.bool false])/\w'=w:=by
 obtain⟨_,FP,FQ,ra,rc,tag,hF,ht,hs,hP,hQ,hk,hr,hp,hpl⟩:=h
 rw[hn]at hQ
 exact QQ.next_none c.q FQ S.ws w hQ
theorem SS.nextSome{c:Sc}{w:World}{F:List Nat}{S:Sr}(hc:c.Ok)(h:SS c w F S)(hn:S.ns≠[]) :
 Calls Tryz.prog 98 #[.pointer (some ⟨c.q,0,none⟩)] w (SS.Goes c w F { S with ns:=(popL S.ws S.ns).take (S.ns.length - 1) } (.tuple #[.int .i64 ((popL S.ws S.ns).getD (S.ns.length - 1) 0:Nat),.bool true])):=by
 refine h.withQ (ws':=S.ws) rfl (Post:=fun e=>e=.returned (.tuple #[.int .i64 ((popL S.ws S.ns).getD (S.ns.length - 1) 0:Nat),.bool true])) (fun FQ hQ _=>?_)
 have hl:=h.1.2.2.1
 have h45:=hc.h45
 refine(QQ.next_some c.q FQ S.ws S.ns w hQ hn (by have:=hQ.len;omega)).mono ?_
 rintro e w' ⟨rfl,h1,h2⟩
 exact⟨rfl,FQ,h1,Fresh.refl _ _,h2⟩
end Go.Proofs.YtjebhhoibofmfaaGreat
