import Derived.Test.YtjebhhoibofmfaaGreatBMSy
import Derived.Test.YtjebhhoibofmfaaGreatBXSvD
namespace Go.Proofs.YtjebhhoibofmfaaGreat
open Go.RowKit
theorem SS.clause{c:Sc}{w:World}{F:List Nat}{S:Sr}(h:SS c w F S){k:Nat}(hk:k < S.P.ss.length) :
 Calls Tryz.prog 94 #[.pointer (some ⟨c.m,0,none⟩),.int .i64 k] w fun e w'=>e=.returned (.agg #[.int .u64 (clOf S.P k).1,.int .u64 (clOf S.P k).2])/\Below w.heap.size w w':=by
 obtain⟨_,FP,FQ,ra,rc,tag,hF,ht,hs,hP,hQ,hk',hr,hp,hpl⟩:=h
 exact pclause_any c.m FP _ _ S.P k w hP hk
theorem SS.b64{c:Sc}{w:World}{F:List Nat}{S:Sr}(h:SS c w F S){k:Nat}(hk:k < S.P.ss.length):(clOf S.P k).1 < 18446744073709551616/\(clOf S.P k).2 < 18446744073709551616:=by
 obtain⟨_,FP,FQ,ra,rc,tag,hF,ht,hs,hP,hQ,hk',hr,hp,hpl⟩:=h
 exact hP.b64 hk
theorem below_pt{w W:World}{B g:Nat}(h:Below B w W)(hg:B<=g)(x:Nat)(u:Value):Below B w (W.setCell ⟨g,x,none⟩ u):=h.setCell (p:=⟨g,x,none⟩) hg u
theorem takeP_kn{prs:List Pr}{S S':Sr}{i:Nat}{n:Bool}{r:Int}(h:takeP prs S i n r=some S'):S'.kn=S.kn/\S'.P=S.P/\S'.ws=S.ws:=by
 unfold takeP at h
 split at h
 ·injection h with h;subst h;exact⟨rfl,rfl,rfl⟩
 ·cases h
theorem tkLitP_kn{prs:List Pr}{t:Lt}{k:Nat}:∀ {is:List Nat} {S S':Sr},tkLitP prs t k is S=some S'->S'.kn=S.kn/\S'.P=S.P/\S'.ws=S.ws
 | [],S,S',h=>by unfold tkLitP at h;injection h with h;subst h;exact⟨rfl,rfl,rfl⟩
 | i :: is,S,S',h=>by
   unfold tkLitP at h
   split at h
   ·cases ht:takeP prs S i t.n k with
    | none=>rw[ht]at h;cases h
    | some S1=>
      rw[ht,Option.bind_some]at h
      have h1:=takeP_kn ht
      have h2:=tkLitP_kn h
      exact⟨h2.1.trans h1.1,h2.2.1.trans h1.2.1,h2.2.2.trans h1.2.2⟩
   ·exact tkLitP_kn h
theorem zset2{V w':World}(hb:Below (V.alloc (.cells #[.int .u64 0,.int .u64 0] 95)).heap.size (V.alloc (.cells #[.int .u64 0,.int .u64 0] 95)) w') :
 w'.cell? ⟨V.heap.size,0,none⟩=some (.int .u64 0)/\w'.cell? ⟨V.heap.size,1,none⟩=some (.int .u64 0)/\w'.frozen? ⟨V.heap.size,0,none⟩=false/\w'.frozen? ⟨V.heap.size,1,none⟩=false/\Below V.heap.size V w':=by
 have h0:(V.alloc (.cells #[.int .u64 0,.int .u64 0] 95)).cell? ⟨V.heap.size,0,none⟩=some (.int .u64 0):=alloc_new rfl rfl
 have h1:(V.alloc (.cells #[.int .u64 0,.int .u64 0] 95)).cell? ⟨V.heap.size,1,none⟩=some (.int .u64 0):=alloc_new rfl rfl
 have f0:(V.alloc (.cells #[.int .u64 0,.int .u64 0] 95)).frozen? ⟨V.heap.size,0,none⟩=false:=by simp
 have f1:(V.alloc (.cells #[.int .u64 0,.int .u64 0] 95)).frozen? ⟨V.heap.size,1,none⟩=false:=by simp
 have hl:=block_lt h0
 exact⟨cell_below hb h0,cell_below hb h1,frozen_below hb hl f0,frozen_below hb hl f1,(below_alloc V _).trans (hb.mono (by simp))⟩
theorem keep5b{W w':World}{b d:Nat}{x0 x1 y0 y1:Value}(h:W.cell? ⟨b,0,none⟩=some x0/\W.cell? ⟨b,1,none⟩=some x1/\W.cell? ⟨d,6,none⟩=some y0/\W.cell? ⟨d,7,none⟩=some y1)(hk:Below W.heap.size W w') :
 w'.cell? ⟨b,0,none⟩=some x0/\w'.cell? ⟨b,1,none⟩=some x1/\w'.cell? ⟨d,6,none⟩=some y0/\w'.cell? ⟨d,7,none⟩=some y1:=
 ⟨cell_below hk h.1,cell_below hk h.2.1,cell_below hk h.2.2.1,cell_below hk h.2.2.2⟩
theorem keep5s{W:World}{b d e:Nat}{x0 x1 y0 y1:Value}(h:W.cell? ⟨b,0,none⟩=some x0/\W.cell? ⟨b,1,none⟩=some x1/\W.cell? ⟨d,6,none⟩=some y0/\W.cell? ⟨d,7,none⟩=some y1)(hb:b≠e)(hd:d≠e)(u v:Value) :
 ((W.setCell ⟨e,0,none⟩ u).setCell ⟨e,1,none⟩ v).cell? ⟨b,0,none⟩=some x0/\((W.setCell ⟨e,0,none⟩ u).setCell ⟨e,1,none⟩ v).cell? ⟨b,1,none⟩=some x1/\((W.setCell ⟨e,0,none⟩ u).setCell ⟨e,1,none⟩ v).cell? ⟨d,6,none⟩=some y0/\((W.setCell ⟨e,0,none⟩ u).setCell ⟨e,1,none⟩ v).cell? ⟨d,7,none⟩=some y1:=
 ⟨set_other (.inl hb) (set_other (.inl hb) h.1),set_other (.inl hb) (set_other (.inl hb) h.2.1),set_other (.inl hd) (set_other (.inl hd) h.2.2.1),set_other (.inl hd) (set_other (.inl hd) h.2.2.2)⟩
set_option maxRecDepth 100000 in
set_option maxHeartbeats 8000000 in
theorem takeLast_any{c:Sc}(hc:c.Ok){w:World}{F:List Nat}{S S':Sr}{out:Option Nat}(h:SS c w F S)(ht:tkLastP c.prs S.kn S=some (out,S'))(hkl:S.kn.length<=3518437208884) :
 Calls Tryz.prog 117 #[.pointer (some ⟨c.s,0,none⟩)] w (SS.Goes c w F S' (ov out)):=by
 obtain⟨s2,hk2⟩:=h.known
 have Hh:=hide h
 have Ht:=hide ht
 obtain⟨kav,hkav⟩:∃ kav,c.ka=kav:=⟨_,rfl⟩
 rw[hkav]at s2
 have Hkav:=hide hkav
 clear hkav h ht hk2
 go_enter Tryz.func117,Tryz.ntmps117
 go_wp2_with fail
 go_loopg [13] S.kn.length (fun q v wx=>∃(j:Nat) (Sj:Sr) (G:List Nat),q=S.kn.length - j/\j<=S.kn.length/\v=.int .i64 j/\Hid (tkLastP c.prs (S.kn.drop j) Sj=some (out,S'))/\Hid (SS c wx G Sj)/\Hid (Sj.kn=S.kn)/\Hid (Fresh F G w)/\Hid (Keeps F w wx))
 case atStart=>exact⟨0,S,F,rfl,Nat.zero_le _,rfl,Ht,Hh,rfl,Fresh.refl _ _,Keeps.refl _ _⟩
 case round=>
  obtain⟨j,Sj,G,rfl,hj,rfl,Hj,HSj,Hknj,Hfj,Hkj⟩:=hrel
  by_cases hlt:j < S.kn.length
  ·have hin:IntsAt wr kav (intL S.kn):=by
    have h1:=HSj.out.known.2
    rw[Hknj.out,Hkav.out,<-intL_length S.kn]at h1
    exact intsAt_of_own h1
   obtain⟨kb,ko,rfl,kcell⟩:=hin.get (i:=j) (by rw[intL_length];exact hlt)
   have k1:=kcell j (by rw[intL_length];exact hlt)
   rw[intL_get S.kn hlt]at k1
   have Hd:Hid (S.kn.drop j=S.kn.getD j 0 :: S.kn.drop (j+1)):=by
    show _=_
    rw[List.drop_eq_getElem_cons hlt,List.getD_eq_getElem?_getD,List.getElem?_eq_getElem hlt,Option.getD_some]
   have Hst:=hide Hj.out
   rw[Hd.out]at Hst
   unfold tkLastP at Hst
   generalize S.kn.getD j 0=k at *
   by_cases hk:k < Sj.P.ss.length
   ·rw[if_pos hk]at Hst
    have Hcl:=hide (HSj.out.clause hk)
    have h64:=HSj.out.b64 hk
    have t64:=HSj.out.1.2.2.2.1
    obtain⟨ka,kc,ra,rc,s0,s1,s2',s3,s4,s5,s6,s7,hk',hr⟩:=HSj.out.cells
    clear s0 s2' s3 s4 s5 hk' hr kcell
    generalize clOf Sj.P k=q at *
    obtain⟨q1,q2⟩:=q
    simp only at h64
    go_wp2_with fail
    refine Hcl.out.mono ?_
    rintro e w1 ⟨rfl,hb1⟩
    clear Hcl
    simp only
    obtain⟨W2,hW2⟩:∃ W2,W2=w1.alloc (.cells #[.int .u64 q1,.int .u64 q2] 95):=⟨_,rfl⟩
    have hbA:Below w1.heap.size w1 W2:=by rw[hW2];exact below_alloc _ _
    have hb2:Below wr.heap.size wr W2:=hb1.trans (hbA.mono hb1.size)
    have g0:W2.cell? ⟨w1.heap.size,0,none⟩=some (.int .u64 q1):=by rw[hW2];simp
    have g1:W2.cell? ⟨w1.heap.size,1,none⟩=some (.int .u64 q2):=by rw[hW2];simp
    replace s6:=cell_below hb2 s6
    replace s7:=cell_below hb2 s7
    have HS2:=hide (HSj.out.up hb2)
    have Hk2:Hid (Keeps F w W2):=Hkj.out.trans (Keeps.of (F:=[]) hb2) (by simp)
    go_upto_region 5 with fail
    rw[<-hW2]
    clear hW2 hb1 hbA s1 k1 hb2
    generalize htk1:Sj.tk.1=tk1 at *
    generalize htk2:Sj.tk.2=tk2 at *
    have Htk:=hide (And.intro htk1 htk2)
    clear htk1 htk2
    have hne:Nonempty (Up W2):=⟨⟨W2,Below.refl _ _⟩⟩
    have d0:∀ u:Up W2,u.world.cell? ⟨w1.heap.size,0,none⟩=some (.int .u64 q1):=fun u=>u.cell g0
    have d1:∀ u:Up W2,u.world.cell? ⟨w1.heap.size,1,none⟩=some (.int .u64 q2):=fun u=>u.cell g1
    have d6:∀ u:Up W2,u.world.cell? ⟨c.s,6,none⟩=some (.int .u64 tk1):=fun u=>u.cell s6
    have d7:∀ u:Up W2,u.world.cell? ⟨c.s,7,none⟩=some (.int .u64 tk2):=fun u=>u.cell s7
    refine wp_region_up (by kernel_rfl) (by kernel_rfl) ?_
    repeat (go_big_quiet_step (fail))
    go_big_quiet_step ((go_at_call 134; exact calls_up (meets_any q1 q2 tk1 tk2 _ h64.1 h64.2 t64.1 t64.2)))
    repeat (go_big_quiet_step (fail))
    refine wpQuiet_nil ?_
    intro _ hw'
    obtain⟨nq,hw''⟩:=hw'
    subst hw''
    have hb3:=nq.above
    clear d0 d1 d6 d7 hne
    replace g0:=cell_below hb3 g0
    replace g1:=cell_below hb3 g1
    replace s6:=cell_below hb3 s6
    replace s7:=cell_below hb3 s7
    have HS3:=hide (HS2.out.up hb3)
    have Hk3:Hid (Keeps F w nq.world):=Hk2.out.trans (Keeps.of (F:=[]) hb3) (by simp)
    clear hb3
    generalize nq.world=W3 at *
    generalize hm:meetsB q1 q2 tk1 tk2=mt at *
    have Hm:=hide hm
    clear hm
    cases mt
    ·rw[if_neg (by simp)]at Hst
     have hbut:=And.intro (butN_lt (y:=tk2) h64.1) (butN_lt (y:=tk1) h64.2)
     have Hmin:Hid (∀ W,Calls Tryz.prog 135 #[.agg #[.int .u64 q1,.int .u64 q2],.agg #[.int .u64 tk2,.int .u64 tk1]] W fun e w'=>e=.returned (.agg #[.int .u64 (butN q1 tk2:Nat),.int .u64 (butN q2 tk1:Nat)])/\Below W.heap.size W w'):=
      fun W=>minus_any q1 q2 tk2 tk1 W h64.1 h64.2 t64.2 t64.1
     have hlf:leftOf (q1,q2) Sj.tk=(butN q1 tk2,butN q2 tk1):=by unfold leftOf;rw[Htk.out.1,Htk.out.2]
     rw[hlf]at Hst
     simp only at Hst
     clear hlf
     generalize butN q1 tk2=lf1 at *
     generalize butN q2 tk1=lf2 at *
     go_upto_region 6 with fail
     go_cut [7]from 29 to 35 (fun s7 wx=>∃ b,s7=.pointer (some ⟨b,0,none⟩)/\wx.cell? ⟨b,0,none⟩=some (.int .u64 lf1)/\wx.cell? ⟨b,1,none⟩=some (.int .u64 lf2)/\Below W3.heap.size W3 wx)
     case first=>
      have e0:=World.new_ne W3 _ g0
      have e1:=World.new_ne W3 _ s6
      have hlw:=block_lt g0
      have hls:=block_lt s6
      go_region_held3 (fun w'=>w'.cell? ⟨w1.heap.size,0,none⟩=some (.int .u64 q1)/\w'.cell? ⟨w1.heap.size,1,none⟩=some (.int .u64 q2)/\w'.cell? ⟨c.s,6,none⟩=some (.int .u64 tk1)/\w'.cell? ⟨c.s,7,none⟩=some (.int .u64 tk2))
       (first | exact hS | exact keep5b hS (below_alloc _ _) | exact keep5s hS (by omega) (by omega) _ _ | go_keep)
       (first
         | (go_at_call 95
            refine(contraries_any _ _ _).mono ?_
            rintro e w4 ⟨rfl,hb⟩
            have hS:=keep5b (by assumption) hb
            first
             | (have hz:=zset hb;obtain⟨z0,z1,zf0,zf1,hbq⟩:=hz)
             | (have hbq:=below_drew1 hb)
            have hsq:=hbq.size)
         | (go_at_call 135
            refine(Hmin.out _).mono ?_
            rintro e w5 ⟨rfl,hb'⟩
            have hS1:=hS
            have hS:=keep5b (by assumption) hb'
            first
             | (have hz:=zset2 hb'; obtain⟨z0,z1,zf0,zf1,hbq'⟩:=hz)
             | (have hlz:=block_lt z0;have zf0:=frozen_below hb' hlz zf0;have zf1:=frozen_below hb' hlz zf1;have z0:=cell_below hb' z0;have z1:=cell_below hb' z1;have hbq':=hb')
             | (have hbq':=hb')))
      all_goals
       go_wp2_with fail
       go_meet
       have hbq2:Below W3.heap.size W3 w5:=hbq.trans (hbq'.mono hbq.size)
       first
        | exact⟨_,rfl,alloc_new' rfl,alloc_new' rfl,hbq2.trans ((below_alloc w5 _).mono hbq2.size)⟩
        | exact⟨_,rfl,set_other (.inr (by decide)) (set_same z0),set_same (set_other (.inr (by decide)) z1),below_pt (below_pt hbq2 (Nat.le_refl _) _ _) (Nat.le_refl _) _ _⟩
        | exact⟨_,rfl,set_other (.inr (by decide)) (set_same z0),set_same (set_other (.inr (by decide)) z1),below_pt (below_pt hbq2 hsq _ _) hsq _ _⟩
     case rest=>
      obtain⟨b,rfl,y0,y1,hb4⟩:=hcut
      have HS4:=hide (HS3.out.up hb4)
      have Hk4:Hid (Keeps F w wc):=Hk3.out.trans (Keeps.of (F:=[]) hb4) (by simp)
      clear hb4 g0 g1 s6 s7 Hmin
      generalize wc=W4 at *
      go_wp2_with fail
      refine(isEmpty_any lf1 lf2 W4).mono ?_
      rintro e w5 ⟨rfl,hb5⟩
      replace y0:=cell_below hb5 y0
      replace y1:=cell_below hb5 y1
      have HS5:=hide (HS4.out.up hb5)
      have Hk5:Hid (Keeps F w w5):=Hk4.out.trans (Keeps.of (F:=[]) hb5) (by simp)
      clear hb5
      generalize hem:emptyB lf1 lf2=em at *
      have Hem:=hide hem
      clear hem
      cases em
      ·rw[if_neg (by simp)]at Hst
       go_wp2_with fail
       refine(count_any lf1 lf2 w5 hbut.1 hbut.2).mono ?_
       rintro e w6 ⟨rfl,hb6⟩
       replace y0:=cell_below hb6 y0
       replace y1:=cell_below hb6 y1
       have HS6:=hide (HS5.out.up hb6)
       have Hk6:Hid (Keeps F w w6):=Hk5.out.trans (Keeps.of (F:=[]) hb6) (by simp)
       clear hb6
       by_cases hone:onesN lf1+onesN lf2=1
       ·rw[if_pos hone]at Hst
        rw[hone]
        have Hin:=inOrder_any lf1 lf2 w6 hbut.1 hbut.2
        have Hin':=hide Hin
        clear Hin
        cases hio:inOrd lf1 lf2 with
        | nil=>have:=Hst.out;rw[hio]at this;cases this
        | cons t tl=>
        rw[hio]at Hst Hin'
        simp only at Hst
        cases htl:tkLitP c.prs t k (List.range c.prs.length) Sj with
        | none=>have:=Hst.out;rw[htl]at this;cases this
        | some S2=>
        rw[htl,Option.bind_some]at Hst
        have Hkn2:Hid (S2.kn=S.kn):=(tkLitP_kn htl).1.trans Hknj.out
        have Htl:=hide htl
        clear htl hio
        go_wp2_with fail
        refine Hin'.out.mono ?_
        rintro e w7 ⟨lsa,lsc,rfl,hown,hb7⟩
        have hli:=litsAt_of_own hown
        obtain⟨lb,lo,hla,lcell⟩:=hli.get (i:=0) (by simp)
        obtain⟨l0,l1,l2⟩:=lcell 0 (by simp)
        subst hla
        simp only[List.getD_cons_zero,Nat.zero_mul,Nat.add_zero]at l0 l1 l2
        have HS7:=HS6.out.up hb7
        have Hk7:Hid (Keeps F w w7):=Hk6.out.trans (Keeps.of (F:=[]) hb7) (by simp)
        have Hc:=hide (takeLit_any hc HS7 t k Htl.out)
        clear hown hb7 hli lcell HS7 Hin' y0 y1
        have hlen1:0 < (t :: tl).length:=by simp
        generalize (t :: tl).length=lln at *
        go_wp2_with fail
        refine Hc.out.mono ?_
        rintro e w8 ⟨rfl,G8,hS8,hf8,hk8⟩
        have HS8:=hide hS8
        have h3:Hid (Fresh F G8 w):=Fresh.trans Hfj.out hf8 Hk7.out.size
        have h4:Hid (Keeps F w w8):=Hk7.out.tran hk8 Hfj.out
        clear hS8 hf8 hk8 Hc l0 l1 l2
        go_wp2_with fail
        go_roundg (S.kn.length - (j+1))
        case measure=>omega
        case rel=>exact⟨j+1,S2,G8,rfl,by omega,by go_num,Hst,HS8,Hkn2,h3,h4⟩
       ·rw[if_neg hone]at Hst
        generalize hcc:onesN lf1+onesN lf2=cc at *
        have hnb:((cc:Int) == 1)=false:=by simp;omega
        have hcc':(cc:Int)≠1:=by omega
        go_wp2_with fail
        go_roundg (S.kn.length - (j+1))
        case measure=>omega
        case rel=>exact⟨j+1,Sj,G,rfl,by omega,by go_num,Hst,HS6,Hknj,Hfj,Hk6⟩
      ·rw[if_pos rfl]at Hst
       have Hfin:Hid (some k=out/\Sj=S'):=by
        have:=Hst.out
        injection this with this
        injection this with e1 e2
        exact⟨e1,e2⟩
       go_wp2_with fail
       go_ret2
       rw[<-Hfin.out.1,<-Hfin.out.2]
       exact⟨rfl,G,HS5.out,Hfj.out,Hk5.out⟩
    ·rw[if_pos rfl]at Hst
     go_wp2_with fail
     go_roundg (S.kn.length - (j+1))
     case measure=>omega
     case rel=>exact⟨j+1,Sj,G,rfl,by omega,by go_num,Hst,HS3,Hknj,Hfj,Hk3⟩
   ·rw[if_neg hk]at Hst
    have:=Hst.out
    cases this
  ·have Hfin:Hid (none=out/\Sj=S'):=by
    have:=Hj.out
    rw[List.drop_of_length_le (by omega)]at this
    unfold tkLastP at this
    injection this with this
    injection this with e1 e2
    exact⟨e1,e2⟩
   go_wp2_with fail
   go_ret2
   rw[<-Hfin.out.1,<-Hfin.out.2]
   exact⟨rfl,G,HSj.out,Hfj.out,Hkj.out⟩
end Go.Proofs.YtjebhhoibofmfaaGreat
namespace Go.Proofs.YtjebhhoibofmfaaGreat
open Go.RowKit
theorem whyEqP_kn{E:Env}{S S':Sr}{t:Lt}{k:Nat}(h:whyEqP E S t=some (k,S')):S'.kn=S.kn/\S'.ws=S.ws/\S'.ns=S.ns/\S'.row=S.row/\S'.tk=S.tk/\∃ P',S'={ S with P:=P' }/\whyP E S.P (eqsOf S.row) t.x.toNat t.y.toNat=some (k,P'):=by
 unfold whyEqP at h
 cases hw:whyP E S.P (eqsOf S.row) t.x.toNat t.y.toNat with
 | none=>rw[hw]at h;cases h
 | some r=>
   obtain⟨k',P'⟩:=r
   rw[hw,Option.map_some]at h
   injection h with h
   injection h with h1 h2
   subst h1
   subst h2
   exact⟨rfl,rfl,rfl,rfl,rfl,P',rfl,rfl⟩
theorem tkEqP_kn{E:Env}{prs:List Pr}{c:List Int}:∀ {is:List Nat} {S S':Sr} {o:Option Nat},tkEqP E prs c is S=some (o,S')->S'.kn=S.kn/\S'.ws=S.ws
 | [],S,S',o,h=>by unfold tkEqP at h;injection h with h;injection h with _ h;subst h;exact⟨rfl,rfl⟩
 | i :: is,S,S',o,h=>by
   unfold tkEqP at h
   split at h
   ·split at h
    ·cases hw:whyEqP E S (litI prs i true)with
     | none=>rw[hw]at h;cases h
     | some r=>
       obtain⟨k,S1⟩:=r
       rw[hw,Option.map_some]at h
       injection h with h
       injection h with _ h
       subst h
       have:=whyEqP_kn hw
       exact⟨this.1,this.2.1⟩
    ·split at h
     ·exact tkEqP_kn h
     ·cases ht:takeP prs S i false (-2)with
      | none=>rw[ht]at h;cases h
      | some S1=>
        rw[ht,Option.bind_some]at h
        have h1:=takeP_kn ht
        have h2:=tkEqP_kn h
        exact⟨h2.1.trans h1.1,h2.2.trans h1.2.2⟩
   ·exact tkEqP_kn h
theorem tkLastP_kn{prs:List Pr}:∀ {ks:List Nat} {S S':Sr} {o:Option Nat},tkLastP prs ks S=some (o,S')->S'.kn=S.kn/\S'.P=S.P/\S'.ws=S.ws
 | [],S,S',o,h=>by unfold tkLastP at h;injection h with h;injection h with _ h;subst h;exact⟨rfl,rfl,rfl⟩
 | k :: ks,S,S',o,h=>by
   unfold tkLastP at h
   split at h
   ·split at h
    ·exact tkLastP_kn h
    ·split at h
     ·injection h with h;injection h with _ h;subst h;exact⟨rfl,rfl,rfl⟩
     ·split at h
      ·split at h
       ·cases h
       ·rename_i t tl hio
        cases ht:tkLitP prs t k (List.range prs.length) S with
        | none=>rw[ht]at h;cases h
        | some S1=>
          rw[ht,Option.bind_some]at h
          have h1:=tkLitP_kn ht
          have h2:=tkLastP_kn h
          exact⟨h2.1.trans h1.1,h2.2.1.trans h1.2.1,h2.2.2.trans h1.2.2⟩
      ·exact tkLastP_kn h
   ·cases h
set_option maxRecDepth 100000 in
set_option maxHeartbeats 8000000 in
theorem takeForced_any{c:Sc}(hc:c.Ok){w:World}{F:List Nat}{S S':Sr}{out:Option Nat}{f:Nat}(h:SS c w F S)(ht:forcedP c.E c.prs f S=some (out,S'))(hkl:S.kn.length<=3518437208884) :
 Calls Tryz.prog 97 #[.pointer (some ⟨c.s,0,none⟩)] w (SS.Goes c w F S' (ov out)):=by
 have Hh:=hide h
 have Ht:=hide ht
 clear h ht
 go_enter Tryz.func97,Tryz.ntmps97
 go_wp2_with fail
 go_loopg [4] f (fun q v wx=>∃(fj:Nat) (Sj:Sr) (G:List Nat),q=0+fj/\Hid (forcedP c.E c.prs fj Sj=some (out,S'))/\Hid (SS c wx G Sj)/\Hid (Sj.kn=S.kn)/\Hid (Fresh F G w)/\Hid (Keeps F w wx))
 case atStart=>exact⟨f,S,F,by omega,Ht,Hh,rfl,Fresh.refl _ _,Keeps.refl _ _⟩
 case round=>
  obtain⟨fj,Sj,G,rfl,Hj,HSj,Hknj,Hfj,Hkj⟩:=hrel
  cases fj with
  | zero=>have:=Hj.out;unfold forcedP at this;cases this
  | succ fj=>
  have Hst:=hide Hj.out
  unfold forcedP at Hst
  cases he:tkEqP c.E c.prs (c.E.cl (eqsOf Sj.row)) (List.range c.prs.length) Sj with
  | none=>have:=Hst.out;rw[he]at this;cases this
  | some r=>
  obtain⟨o1,S1⟩:=r
  rw[he,Option.bind_some]at Hst
  have Hc1:=hide (takeEqual_any hc HSj.out he)
  have Hkn1:Hid (S1.kn=S.kn):=(tkEqP_kn he).1.trans Hknj.out
  clear he
  go_wp2_with fail
  refine Hc1.out.mono ?_
  rintro e w1 ⟨rfl,G1,hS1,hf1,hk1⟩
  have HS1:=hide hS1
  have Hf1:Hid (Fresh F G1 w):=Fresh.trans Hfj.out hf1 Hkj.out.size
  have Hk1:Hid (Keeps F w w1):=Hkj.out.tran hk1 Hfj.out
  clear Hc1 hf1 hk1
  unfold ov
  cases o1 with
  | some k=>
    simp only at Hst
    have Hfin:Hid (some k=out/\S1=S'):=by
     have:=Hst.out
     injection this with this
     injection this with e1 e2
     exact⟨e1,e2⟩
    clear hS1
    simp only[Option.getD_some,Option.isSome_some]
    go_wp2_with fail
    go_ret2
    rw[<-Hfin.out.1,<-Hfin.out.2]
    exact⟨rfl,G1,HS1.out,Hf1.out,Hk1.out⟩
  | none=>
    simp only at Hst
    obtain⟨ka,kc,ra,rc,s0,s1,s2,s3,s4,s5,s6,s7,hk,hr⟩:=hS1.cells
    cases he2:tkLastP c.prs S1.kn S1 with
    | none=>have:=Hst.out;rw[he2]at this;cases this
    | some r=>
    obtain⟨o2,S2⟩:=r
    rw[he2,Option.bind_some]at Hst
    have Hc2:=hide (takeLast_any hc hS1 he2 (by rw[Hkn1.out];exact hkl))
    have Hkn2:Hid (S2.kn=S.kn):=(tkLastP_kn he2).1.trans Hkn1.out
    clear he2 hS1 s0 s1 s2 s3 s4 s6 s7 hk hr
    simp only[Option.getD_none,Option.isSome_none]
    go_wp2_with fail
    refine Hc2.out.mono ?_
    rintro e w2 ⟨rfl,G2,hS2,hf2,hk2⟩
    have HS2:=hide hS2
    have Hf2:Hid (Fresh F G2 w):=Fresh.trans Hf1.out hf2 Hk1.out.size
    have Hk2:Hid (Keeps F w w2):=Hk1.out.tran hk2 Hf1.out
    clear Hc2 hf2 hk2 s5
    unfold ov
    cases o2 with
    | some k=>
      simp only at Hst
      have Hfin:Hid (some k=out/\S2=S'):=by
       have:=Hst.out
       injection this with this
       injection this with e1 e2
       exact⟨e1,e2⟩
      clear hS2
      simp only[Option.getD_some,Option.isSome_some]
      go_wp2_with fail
      go_ret2
      rw[<-Hfin.out.1,<-Hfin.out.2]
      exact⟨rfl,G2,HS2.out,Hf2.out,Hk2.out⟩
    | none=>
      simp only at Hst
      obtain⟨ka2,kc2,ra2,rc2,s0,s1,s2,s3,s4,s5,s6,s7,hk,hr⟩:=hS2.cells
      have l1:=HS1.out.1.2.2.2.2.2
      have l2:=HS2.out.1.2.2.2.2.2
      clear s0 s1 s2 s3 s4 s6 s7 hk hr hS2
      simp only[Option.getD_none,Option.isSome_none]
      by_cases hl:S2.row.length=S1.row.length
      ·rw[if_pos hl]at Hst
       have Hfin:Hid (none=out/\S2=S'):=by
        have:=Hst.out
        injection this with this
        injection this with e1 e2
        exact⟨e1,e2⟩
       rw[hl]at s5
       go_wp2_with fail
       go_ret2
       rw[<-Hfin.out.1,<-Hfin.out.2]
       exact⟨rfl,G2,HS2.out,Hf2.out,Hk2.out⟩
      ·rw[if_neg hl]at Hst
       have hnb:((S2.row.length:Int) == (S1.row.length:Int))=false:=by simp;omega
       have hl':(S2.row.length:Int)≠(S1.row.length:Int):=by omega
       generalize S2.row.length=n2 at *
       generalize S1.row.length=n1 at *
       go_wp2_with fail
       go_roundg (0+fj)
       case measure=>omega
       case rel=>exact⟨fj,S2,G2,by omega,Hst,HS2,Hkn2,Hf2,Hk2⟩
end Go.Proofs.YtjebhhoibofmfaaGreat
namespace Go.Proofs.YtjebhhoibofmfaaGreat
open Go.RowKit
theorem growL_len(sh:Nat):∀(met ws ns:List Nat),(growL sh met ws ns).1.length=ws.length
 | [],ws,ns=>rfl
 | x :: xs,ws,ns=>by unfold growL;rw[growL_len sh xs];simp
def Sc.kn(c:Sc)(ka:Option Addr)(kc:Nat):Sc:={ c with ka:=ka,kc:=kc }
theorem Sc.Ok.kn{c:Sc}(h:c.Ok)(ka:Option Addr)(kc:Nat):(c.kn ka kc).Ok:=⟨h.hX,h.hE,h.hts,h.hcl,h.ht,h.hcs,h.hp,h.h45⟩
theorem intCells_snoc(xs:List Nat)(k:Nat):intCells (intL (xs++[k]))=intCells (intL xs)++[.int .i64 k]:=by simp[intCells,intL]
theorem SS.pushKn{c:Sc}{w W1 w2:World}{F:List Nat}{S:Sr}(h:SS c w F S){k:Nat}(hb:Below w.heap.size w W1){v:Value}
 (hown:w2.ownsRow 0 3 1 v (S.kn.length+1) (intCells (intL S.kn)++[.int .i64 k])) (hgr:W1.grownBy w2 (Value.slice c.ka S.kn.length c.kc).ownBlock)
 (hat:v.ownBlock=(Value.slice c.ka S.kn.length c.kc).ownBlock\/v.ownBlock=some W1.heap.size) :
 ∃ ka kc F',v=.slice ka (S.kn.length+1) kc/\SS (c.kn ka kc) (w2.setCell ⟨c.s,2,none⟩ v) F' { S with kn:=S.kn++[k] }/\Fresh F F' w/\Keeps F w (w2.setCell ⟨c.s,2,none⟩ v):=by
 have hlt:=h.lt
 obtain⟨⟨h1,h2,h3⟩,FP,FQ,ra,rc,tag,hF,ht,hs,hP,hQ,hk,hr,hp,hpl⟩:=h
 obtain⟨t0,t1,t2,t3,t4,t5⟩:=ht
 obtain⟨g,gc,rfl,hg⟩:=app_addr' (W:=w) hb.size hown hat
 have hk2:=app_keep' hb hgr
 have hsn:c.s ∉ blkOf c.ka:=fun hx=>by have:=t3 _ hx;omega
 have hs2:=hk2.row hsn hs
 have hK:Keeps (c.s :: blkOf c.ka) w (w2.setCell ⟨c.s,2,none⟩ (.slice (some ⟨g,0,none⟩) (S.kn.length+1) gc)):=(hk2.mono (fun k hk=>List.mem_cons_of_mem _ hk)).set (by simp) _
 have hKF:Keeps F w (w2.setCell ⟨c.s,2,none⟩ (.slice (some ⟨g,0,none⟩) (S.kn.length+1) gc)):=hK.mono (by
  intro b hb
  rw[hF]
  rcases List.mem_cons.1 hb with rfl | hb
  ·simp
  ·simp[hb])
 have hng:g≠c.s:=fun e=>own_not hown hs2 (fun cur e=>by injection e with _ e;exact absurd e (by decide)) (by simp[blkOf,e])
 have hfr:Fresh F (c.s :: (FP++(FQ++(blkOf (some (⟨g,0,none⟩:Addr))++blkOf ra)))) w:=by
  intro b hb
  rw[hF]
  simp only[List.mem_cons,List.mem_append]at hb ⊢
  rcases hb with rfl | hb | hb | hb | hb
  ·simp
  ·simp[hb]
  ·simp[hb]
  ·simp[blkOf]at hb
   subst hb
   rcases hg with h7 | h7
   ·simp[h7]
   ·exact .inr h7
  ·simp[hb]
 have ofs:∀ {A:List Nat} {i:Nat},(∀ b∈A,tag b=i)->i≠0->i≠3->∀ b∈A,b ∉ c.s :: blkOf c.ka:=by
  intro A i hA hi0 hi4 b hb hx
  rcases List.mem_cons.1 hx with rfl | hx
  ·have:=hA _ hb;omega
  ·have h7:=hA _ hb
   have h8:=t3 _ hx
   omega
 have hfra:Fresh (blkOf c.ka) (blkOf (some (⟨g,0,none⟩:Addr))) w:=by
  intro b hb
  simp[blkOf]at hb
  subst hb
  exact hg
 refine⟨some ⟨g,0,none⟩,gc,c.s :: (FP++(FQ++(blkOf (some (⟨g,0,none⟩:Addr))++blkOf ra))),rfl,⟨⟨hKF.below h1 h1.size h2,?_,h3.1,h3.2.1,h3.2.2.1,h3.2.2.2⟩,FP,FQ,ra,rc,tagNew tag w 3,rfl,⟨?_,?_,?_,?_,?_,?_⟩,?_,hP.keep hK (ofs t1 (by decide) (by decide)),hQ.keep hK (ofs t2 (by decide) (by decide)),?_,own_keep hr hK (ofs t4 (by decide) (by decide)),hp.keep hK (ofs t5 (by decide) (by decide)),fun b hb=>Nat.lt_of_lt_of_le (hpl b hb) hK.size⟩,hfr,hKF⟩
 ·intro b hb
  rcases hfr b hb with h7 | h7
  ·exact h2 b h7
  ·exact Nat.le_trans h1.size h7
 ·show tagNew tag w 3 c.s=0
  rw[tagNew_old (hlt _ (by rw[hF];simp))];exact t0
 ·intro b hb;rw[tagNew_old (hP.lt b hb)];exact t1 b hb
 ·intro b hb;rw[tagNew_old (hQ.lt b hb)];exact t2 b hb
 ·exact tagNew_fresh t3 (fun b hb=>(own_lt hk b hb).2) hfra
 ·intro b hb;rw[tagNew_old (own_lt hr b hb).2];exact t4 b hb
 ·intro b hb;rw[tagNew_old (hpl b hb)];exact t5 b hb
 ·show(w2.setCell ⟨c.s,2,none⟩ _).heap[c.s]?=_
  rw[heap_setCell_same _ _ _ _ _ _ hs2]
  simp[Sc.kn]
 ·show(w2.setCell ⟨c.s,2,none⟩ _).ownsRow 0 3 1 (.slice _ (S.kn++[k]).length _) (S.kn++[k]).length (intCells (intL (S.kn++[k])))
  rw[List.length_append,intCells_snoc]
  exact hown.kept (set_grown w2 c.s 2 _) (.inr (fun e=>hng (by injection e)))
set_option maxRecDepth 100000 in
set_option maxHeartbeats 8000000 in
theorem learn_any{c:Sc}(hc:c.Ok){w:World}{F:List Nat}{S S':Sr}{k:Nat}(h:SS c w F S)(ht:learnP c.prs S k=some S') :
 Calls Tryz.prog 104 #[.pointer (some ⟨c.s,0,none⟩),.int .i64 k] w fun e w'=>e=.returned (.tuple #[])/\∃ ka kc F',SS (c.kn ka kc) w' F' S'/\Fresh F F' w/\Keeps F w w':=by
 obtain⟨i1,hi1,hy0,hy1,hy2⟩:=info_parts info_int
 unfold learnP at ht
 by_cases hcond:(S.kn.length < stepsMax && decide (k < S.P.ss.length))=true
 ·rw[if_pos hcond]at ht
  rw[Bool.and_eq_true]at hcond
  have hkl:S.kn.length < 3518437208883:=of_decide_eq_true hcond.1
  have hk:=of_decide_eq_true hcond.2
  injection ht with ht
  have HS':=hide ht.symm
  clear ht hcond
  obtain⟨s2,hown⟩:=h.known
  have hs1:c.s < w.heap.size:=block_lt s2
  have Hh:=hide h
  have Hown:=hide hown
  have f2:=h.frozen 2
  have Hsr:Hid (∀ W' w3:World,Below w.heap.size w W'->W'.grownBy w3 (Value.slice c.ka S.kn.length c.kc).ownBlock->w3.cell? ⟨c.s,2,none⟩=some (.slice c.ka S.kn.length c.kc)/\w3.frozen? ⟨c.s,2,none⟩=false):=by
   intro W' w3 hb' hg'
   obtain⟨_,FP,FQ,ra',rc',tag,hF,ht,hs,hP,hQ,hk',hr',hp,hpl⟩:=Hh.out
   have hx:=own_not Hown.out hs (fun cur e=>by injection e with _ e;exact absurd e (by decide))
   have hk3:=app_keep' hb' hg'
   exact⟨hk3.cell hx Hh.out.known.1,frozen_of_row _ _ _ _ _ (hk3.row hx hs)⟩
  clear h hown
  go_enter Tryz.func104,Tryz.ntmps104
  go_upto_region 1 with(at_builtin;refine wpList_append_own_at _ rfl (.tmp 11) (.tmp 13) 29 rfl 0 3 i1 (.int .i64 0) 1 8 Tryz.underlying29 hi1 hy0 hy1 hy2 rfl (by decide) (.slice c.ka S.kn.length c.kc) S.kn.length (intCells (intL S.kn)) rfl (Hown.out.alloc _) ⟨w.heap.size,0,none⟩ 1 1 [.int .i64 k] rfl rfl (by simpa using new_one w (.int .i64 k) 3) (fun u hu=>by simp at hu;subst hu;rfl) (by unfold maxLen;omega) (by omega) (by simp) ?_;intro v3 w3 hown3 hgrow3 hz3 hat3;clear hz3;obtain⟨g,gc,rfl,hg⟩:=app_addr' (W:=w) (by simp) hown3 hat3;obtain⟨y1,y2⟩:=Hsr.out _ _ (below_alloc _ _) hgrow3)
  obtain⟨ka,kc,F1,hv,hS1,hf1,hk1⟩:=Hh.out.pushKn (k:=k) (below_alloc _ _) hown3 hgrow3 hat3
  injection hv with hv1 hv2 hv3
  subst hv1
  subst hv3
  generalize hW1:w3.setCell ⟨c.s,2,none⟩ (.slice (some ⟨g,0,none⟩) (S.kn.length+1) gc)=W1 at *
  clear hW1 y1 y2 hown3 hgrow3 hat3 s2 f2 Hsr Hown
  have hcl:=hS1.clause (k:=k) hk
  have h64:=hS1.b64 (k:=k) hk
  obtain⟨ka',kc',ra,rc,s0,s1,s2,s3,s4,s5,s6,s7,hk',hr⟩:=hS1.cells
  simp only[Sc.kn]at s0 s1 s2 s3 s4 s5 s6 s7
  have Hcl:Hid (Calls Tryz.prog 94 #[.pointer (some ⟨c.m,0,none⟩),.int .i64 k] W1 fun e w'=>e=.returned (.agg #[.int .u64 (clOf S.P k).1,.int .u64 (clOf S.P k).2])/\Below W1.heap.size W1 w'):=hcl
  have H64:Hid ((clOf S.P k).1 < 18446744073709551616/\(clOf S.P k).2 < 18446744073709551616):=h64
  have Hlit:Hid (∀(i:Nat) (n:Bool) (W':World),i < c.prs.length->Below W1.heap.size W1 W'->Calls Tryz.prog 120 #[.pointer (some ⟨c.s,0,none⟩),.int .i64 i,.bool n] W' fun e w'=>e=.returned (.agg #[.int .i64 (litI c.prs i n).x,.int .i64 (litI c.prs i n).y,.bool n])/\Below W'.heap.size W' w'):=
   fun i n W' hi hb=>lit_any (hS1.up hb) i n hi
  have HS1:=hide hS1
  have Hf1:=hide hf1
  have Hk1:=hide hk1
  have h45:=hc.h45
  obtain⟨pav,hpav⟩:∃ pav,c.pa=pav:=⟨_,rfl⟩
  rw[hpav]at s3
  clear hcl h64 hS1 hf1 hk1 s0 s2 s5 s6 s7 hk' hr hpav hv2
  have Hmet:Hid (metOf c.prs (clOf S.P k)=(List.range c.prs.length).filter fun i=>hasS (clOf S.P k).1 (clOf S.P k).2 (litI c.prs i false) || hasS (clOf S.P k).1 (clOf S.P k).2 (litI c.prs i true)):=rfl
  generalize hq:clOf S.P k=q at *
  obtain⟨q1,q2⟩:=q
  have Hq:=hide hq
  clear hq
  simp only at Hcl H64 Hmet
  go_wp2_with fail
  refine Hcl.out.mono ?_
  rintro e w4 ⟨rfl,hb4⟩
  clear Hcl
  obtain⟨W5,hW5⟩:∃ W5,W5=w4.alloc (.cells #[.int .u64 q1,.int .u64 q2] 95):=⟨_,rfl⟩
  have hbA:Below w4.heap.size w4 W5:=by rw[hW5];exact below_alloc _ _
  have hb5:Below W1.heap.size W1 W5:=hb4.trans (hbA.mono hb4.size)
  have g0:W5.cell? ⟨w4.heap.size,0,none⟩=some (.int .u64 q1):=by rw[hW5];simp
  have g1:W5.cell? ⟨w4.heap.size,1,none⟩=some (.int .u64 q2):=by rw[hW5];simp
  replace s3:=cell_below hb5 s3
  replace s4:=cell_below hb5 s4
  have Hb5:=hide hb5
  have hown0:W5.ownsRow W5.heap.size 3 1 (.slice none 0 0) 0 (intCells (intL [])):=⟨rfl,.inl ⟨rfl,rfl⟩⟩
  go_upto_region 2 with fail
  rw[<-hW5]
  clear hW5 hb4 hbA s1 hb5
  go_wp2_with fail
  go_loopg [5,28] c.prs.length (fun q v s wx=>∃(j:Nat) (va:Option Addr) (vc:Nat) (o:List Nat),q=c.prs.length - j/\j<=c.prs.length/\s=.int .i64 j/\v=.slice va o.length vc/\o.length<=j /\
   Hid ((List.range j).filter (fun i=>hasS q1 q2 (litI c.prs i false) || hasS q1 q2 (litI c.prs i true))=o)/\wx.ownsRow W5.heap.size 3 1 (.slice va o.length vc) o.length (intCells (intL o))/\Below W5.heap.size W5 wx)
  case atStart=>exact⟨0,none,0,[],rfl,Nat.zero_le _,rfl,rfl,Nat.le_refl _,rfl,hown0,Below.refl _ _⟩
  case round=>
   obtain⟨j,va,vc,o,rfl,hj,rfl,rfl,hol,Ho,hown,hb⟩:=hrel
   by_cases hlt:j < c.prs.length
   ·have hlow:∀ n,LowL c.ts.length (litI c.prs j n):=fun n=>hc.hp j hlt
    have hl9:=fun n=>low9 hc (hlow n)
    have Hst:Hid ((List.range (j+1)).filter (fun i=>hasS q1 q2 (litI c.prs i false) || hasS q1 q2 (litI c.prs i true))=if(hasS q1 q2 (litI c.prs j false) || hasS q1 q2 (litI c.prs j true))then o++[j]else o):=by
     show _=_
     rw[List.range_succ,List.filter_append,Ho.out]
     cases hh:(hasS q1 q2 (litI c.prs j false) || hasS q1 q2 (litI c.prs j true)) <;> simp[hh]
    have h6:=cell_below hb g0
    have h7:=cell_below hb g1
    have hne:Nonempty (Up wr):=⟨⟨wr,Below.refl _ _⟩⟩
    have d0:∀ u:Up wr,u.world.cell? ⟨w4.heap.size,0,none⟩=some (.int .u64 q1):=fun u=>u.cell h6
    have d1:∀ u:Up wr,u.world.cell? ⟨w4.heap.size,1,none⟩=some (.int .u64 q2):=fun u=>u.cell h7
    have Hl:Hid (∀(n:Bool) (u:Up wr),Calls Tryz.prog 120 #[.pointer (some ⟨c.s,0,none⟩),.int .i64 j,.bool n] u.world fun e w'=>e=.returned (.agg #[.int .i64 (litI c.prs j n).x,.int .i64 (litI c.prs j n).y,.bool n])/\Below u.world.heap.size u.world w'):=by
     intro n u
     have h8:=hb.trans (u.above.mono hb.size)
     exact Hlit.out j n _ hlt (Hb5.out.trans (h8.mono Hb5.out.size))
    have Hhas:Hid (∀(n:Bool) (W:World),Calls Tryz.prog 75 #[.agg #[.int .u64 q1,.int .u64 q2],.agg #[.int .i64 (litI c.prs j n).x,.int .i64 (litI c.prs j n).y,.bool n]] W fun e w'=>e=.returned (.bool (hasS q1 q2 (litI c.prs j n)))/\Below W.heap.size W w'):=
     fun n W=>has_any _ _ n q1 q2 W (hl9 n).1 (hl9 n).2.1 (hl9 n).2.2.1 (hl9 n).2.2.2 H64.out.1 H64.out.2
    have Hlx:=hide (And.intro (Hl.out false) (Hl.out true))
    have Hhx:=hide (And.intro (Hhas.out false) (Hhas.out true))
    clear hlow hl9 Hl Hhas
    generalize hasS q1 q2 (litI c.prs j false)=h1 at *
    generalize hasS q1 q2 (litI c.prs j true)=h2 at *
    have Hg:Hid (∀ w',Below wr.heap.size wr w'->w'.ownsRow W5.heap.size 3 1 (.slice va o.length vc) o.length (intCells (intL o))/\Below W5.heap.size W5 w'):=fun w' hb'=>⟨own_below hown hb',hb.trans (hb'.mono hb.size)⟩
    clear h6 h7
    go_upto_region 6 with fail
    cases h1
    ·refine wp_region_up (by kernel_rfl) (by kernel_rfl) ?_
     repeat (go_big_quiet_step (fail))
     go_big_quiet_step ((go_at_call 120; exact calls_up (Hlx.out.1 _)))
     repeat (go_big_quiet_step (fail))
     go_big_quiet_step ((go_at_call 75; exact calls_up (Hhx.out.1 _)))
     repeat (go_big_quiet_step (fail))
     go_big_quiet_step ((go_at_call 120; exact calls_up (Hlx.out.2 _)))
     repeat (go_big_quiet_step (fail))
     go_big_quiet_step ((go_at_call 75; exact calls_up (Hhx.out.2 _)))
     repeat (go_big_quiet_step (fail))
     refine wpQuiet_nil ?_
     intro _ hw'
     obtain⟨nq,hw''⟩:=hw'
     subst hw''
     obtain⟨j1,j2⟩:=Hg.out _ nq.above
     clear d0 d1 hne hown hb
     generalize nq.world=W7 at *
     cases h2
     ·rw[if_neg (by simp)]at Hst
      go_wp2_with fail
      go_roundg (c.prs.length - (j+1))
      case measure=>omega
      case rel=>exact⟨j+1,va,vc,o,rfl,by omega,by go_num,rfl,by omega,Hst,j1,j2⟩
     ·rw[if_pos (by simp)]at Hst
      have hsz:W5.heap.size<=W7.heap.size:=j2.size
      go_upto_region 8 with(at_builtin;refine wpList_append_own _ rfl (.tmp 43) (.tmp 45) 29 rfl W5.heap.size 3 i1 (.int .i64 0) 1 8 Tryz.underlying29 hi1 hy0 hy1 hy2 rfl (by decide) (.slice va o.length vc) o.length (intCells (intL o)) rfl (j1.alloc _) ⟨W7.heap.size,0,none⟩ 1 1 [.int .i64 j] rfl rfl (by simpa using new_one W7 (.int .i64 j) 3) (fun u hu=>by simp at hu;subst hu;rfl) (by unfold maxLen;omega) (by omega) (by simp;omega) ?_)
      intro qv w8 hown8 hgr8 hz8
      clear hz8
      have hkA:=app_keep hgr8
      have hb8:Below W5.heap.size W5 w8:=hkA.below j2 hsz (fun b hb=>(own_lt j1 b hb).1)
      obtain⟨va',vc',hqv⟩:=own_val hown8
      subst hqv
      clear hgr8 j1 hkA
      go_wp2_with fail
      go_roundg (c.prs.length - (j+1))
      case measure=>omega
      case rel=>exact⟨j+1,va',vc',o++[j],rfl,by omega,by go_num,by simp,by simp;omega,Hst,by rw[intCells_snoc];simpa using hown8,hb8⟩
    ·refine wp_region_up (by kernel_rfl) (by kernel_rfl) ?_
     repeat (go_big_quiet_step (fail))
     go_big_quiet_step ((go_at_call 120; exact calls_up (Hlx.out.1 _)))
     repeat (go_big_quiet_step (fail))
     go_big_quiet_step ((go_at_call 75; exact calls_up (Hhx.out.1 _)))
     repeat (go_big_quiet_step (fail))
     refine wpQuiet_nil ?_
     intro _ hw'
     obtain⟨nq,hw''⟩:=hw'
     subst hw''
     obtain⟨j1,j2⟩:=Hg.out _ nq.above
     clear d0 d1 hne hown hb
     generalize nq.world=W7 at *
     rw[if_pos (by simp)]at Hst
     have hsz:W5.heap.size<=W7.heap.size:=j2.size
     go_upto_region 8 with(at_builtin;refine wpList_append_own _ rfl (.tmp 43) (.tmp 45) 29 rfl W5.heap.size 3 i1 (.int .i64 0) 1 8 Tryz.underlying29 hi1 hy0 hy1 hy2 rfl (by decide) (.slice va o.length vc) o.length (intCells (intL o)) rfl (j1.alloc _) ⟨W7.heap.size,0,none⟩ 1 1 [.int .i64 j] rfl rfl (by simpa using new_one W7 (.int .i64 j) 3) (fun u hu=>by simp at hu;subst hu;rfl) (by unfold maxLen;omega) (by omega) (by simp;omega) ?_)
     intro qv w8 hown8 hgr8 hz8
     clear hz8
     have hkA:=app_keep hgr8
     have hb8:Below W5.heap.size W5 w8:=hkA.below j2 hsz (fun b hb=>(own_lt j1 b hb).1)
     obtain⟨va',vc',hqv⟩:=own_val hown8
     subst hqv
     clear hgr8 j1 hkA
     go_wp2_with fail
     go_roundg (c.prs.length - (j+1))
     case measure=>omega
     case rel=>exact⟨j+1,va',vc',o++[j],rfl,by omega,by go_num,by simp,by simp;omega,Hst,by rw[intCells_snoc];simpa using hown8,hb8⟩
   ·have Hfin:Hid (metOf c.prs (q1,q2)=o):=by
     show _=_
     have e:j=c.prs.length:=by omega
     rw[Hmet.out,<-Ho.out,e]
    have hin:IntsAt wr va (intL o):=by
     rw[<-intL_length o]at hown
     exact intsAt_of_own hown
    have hbw:Below W1.heap.size W1 wr:=Hb5.out.trans (hb.mono Hb5.out.size)
    have hSr:=HS1.out.up hbw
    have Hgrow:Hid (Calls Tryz.prog 125 #[.pointer (some ⟨c.q,0,none⟩),.slice va o.length vc] wr (SS.Goes (c.kn (some ⟨g,0,none⟩) gc) wr F1 S' (.tuple #[]))):=by
     rw[HS'.out,Hfin.out]
     refine hSr.withQ (growL_len _ _ _ _) (Post:=fun e=>e=.returned (.tuple #[])) (fun FQ hQ hFQ=>?_)
     have hwl:S.ws.length=c.prs.length:=HS1.out.1.2.2.1
     refine(qgrow_any c.q FQ S.ws S.ns o va vc wr hQ hin ?_ ?_ ?_ ?_).mono ?_
     ·intro b hb7 hx
      have h8:=(own_lt hown b hb7).1
      have h9:=HS1.out.lt b (hFQ b hx)
      have h10:=Hb5.out.size
      omega
     ·intro x hx
      rw[<-Ho.out]at hx
      have:=List.mem_range.1 (List.mem_filter.1 hx).1
      show x < S.ws.length
      omega
     ·have:S.ns.length<=S.ws.length:=hQ.len
      show S.ns.length<=900
      omega
     ·omega
     ·rintro e w' ⟨rfl,h1,h2⟩
      exact⟨rfl,FQ,h1,Fresh.refl _ _,h2⟩
    have s4':=cell_below hb s4
    have Hbw:=hide hbw
    clear hSr hbw hin hown s3 g0 g1
    go_wp2_with fail
    refine Hgrow.out.mono ?_
    rintro e w7 ⟨rfl,F7,hS7,hf7,hk7⟩
    have HF:=hide (And.intro hS7 (And.intro hf7 hk7))
    clear hS7 hf7 hk7 Hgrow s4' s4
    go_wp2_with fail
    go_end0
    exact⟨rfl,_,_,F7,HF.out.1,Hf1.out.trans (HF.out.2.1.up Hbw.out.size) Hk1.out.size,Hk1.out.tran ((Keeps.of (F:=F1) Hbw.out).trans HF.out.2.2 (fun b hb=>.inl hb)) Hf1.out⟩
 ·rw[if_neg hcond]at ht;cases ht
end Go.Proofs.YtjebhhoibofmfaaGreat
