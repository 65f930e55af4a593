import Derived.Test.YtjebhhoibofmfaaGreatBXSeL
namespace Go.Proofs.YtjebhhoibofmfaaGreat
open Go.RowKit
def rv(o:Option Nat):Value:=.tuple #[.int .i64 ((o.getD 0:Nat):Int),.bool o.isNone]
theorem forcedP_kn{E:Env}{prs:List Pr}:∀ {f:Nat} {S S':Sr} {o:Option Nat},forcedP E prs f S=some (o,S')->S'.kn=S.kn/\S'.ws=S.ws
 | 0,S,S',o,h=>by unfold forcedP at h;cases h
 | f+1,S,S',o,h=>by
   unfold forcedP at h
   cases h1:tkEqP E prs (E.cl (eqsOf S.row)) (List.range prs.length) S with
   | none=>rw[h1]at h;cases h
   | some r=>
     obtain⟨o1,S1⟩:=r
     rw[h1,Option.bind_some]at h
     have e1:=tkEqP_kn h1
     cases o1 with
     | some k=>injection h with h;injection h with _ h;subst h;exact e1
     | none=>
       simp only at h
       cases h2:tkLastP prs S1.kn S1 with
       | none=>rw[h2]at h;cases h
       | some r=>
         obtain⟨o2,S2⟩:=r
         rw[h2,Option.bind_some]at h
         have e2:=tkLastP_kn h2
         cases o2 with
         | some k=>injection h with h;injection h with _ h;subst h;exact⟨e2.1.trans e1.1,e2.2.2.trans e1.2⟩
         | none=>
           simp only at h
           split at h
           ·injection h with h;injection h with _ h;subst h;exact⟨e2.1.trans e1.1,e2.2.2.trans e1.2⟩
           ·have e3:=forcedP_kn h
            exact⟨e3.1.trans (e2.1.trans e1.1),e3.2.trans (e2.2.2.trans e1.2)⟩
theorem learnP_kn{prs:List Pr}{S S':Sr}{k:Nat}(h:learnP prs S k=some S'):S'.kn.length<=3518437208883:=by
 unfold learnP at h
 split at h
 ·rename_i hc
  rw[Bool.and_eq_true]at hc
  have h1:S.kn.length < 3518437208883:=of_decide_eq_true hc.1
  injection h with h
  subst h
  show(S.kn++[k]).length<=_
  rw[List.length_append]
  simp
  omega
 ·cases h
set_option maxRecDepth 100000 in
set_option maxHeartbeats 8000000 in
theorem run_any{c:Sc}(hc:c.Ok){w:World}{F:List Nat}{S S':Sr}{out:Option Nat}{f:Nat}(h:SS c w F S)(hrun:runP c.E c.prs f none S=some (out,S'))(hkn:S.kn.length<=3518437208883) :
 Calls Tryz.prog 78 #[.pointer (some ⟨c.s,0,none⟩)] w fun e w'=>e=.returned (rv out)/\∃ ka kc F',SS (c.kn ka kc) w' F' S'/\Fresh F F' w/\Keeps F w w':=by
 obtain⟨W,hW⟩:∃ W,W=w.alloc (.cells #[.int .i64 0,.int .i64 0,.int .i64 0,.bool false,.int .i64 0] 155):=⟨_,rfl⟩
 have hbW:Below w.heap.size w W:=by rw[hW];exact below_alloc _ _
 have hbox:LastBox W w.heap.size ⟨0,⟨0,0,false⟩,0⟩:=by rw[hW];exact heap_at_new _ _ _ rfl
 have hR:RunAt c F w w.heap.size c.ka c.kc F S ⟨0,⟨0,0,false⟩,0⟩ W:=⟨h.up hbW,hkn,fun b hb=>by
  simp at hb
  subst hb
  exact⟨fun hx=>by have:=h.lt _ hx;omega,(Array.getElem?_eq_some_iff.1 hbox).1⟩,hbox,Fresh.refl _ _,Keeps.of hbW⟩
 have Hlook:Hid (∃ f ka kc G S e,RunAt c F w w.heap.size ka kc G S e W/\runP c.E c.prs f none S=some (out,S')):=⟨f,c.ka,c.kc,F,S,_,hR,hrun⟩
 have Hfin:Hid (∀ w' ka kc F',SS (c.kn ka kc) w' F' S'->Fresh F F' w->Keeps F w w'->∃ ka kc F',SS (c.kn ka kc) w' F' S'/\Fresh F F' w/\Keeps F w w'):=
  fun w' ka kc F' h1 h2 h3=>⟨ka,kc,F',h1,h2,h3⟩
 have Hpa:Hid (w.heap.size ∉ blkOf c.pa/\c.w0.heap.size<=w.heap.size):=⟨fun hx=>by have:=h.paLt _ hx;omega,h.1.1.size⟩
 clear h hrun hbox hR hbW hkn
 generalize hbl:w.heap.size=bl at *
 have Hbl:=hide hbl
 clear hbl
 go_enter Tryz.func78,Tryz.ntmps78
 go_wp2_with fail
 refine wp_scope_into (RunJ c F w bl out S') ?_ ?_
 ·intro l n a w1 hJ
  match l,hJ with
  | 0,hJ=>
    refine⟨_,rfl,?_⟩
    obtain⟨f1,ka,kc,G,Sj,en,v5,v6,k,rfl,hfr,hA,hrun⟩:=hJ
    unfold FrL at hfr
    obtain⟨u1,u8,u9,u10,u11,u12,u13,u14,u15,u16,u17,u18,u19,u20,u21,u22,u23,u24,u25,u26,u27,u28,u29,u30,u31,u32,u33,u34,u35,u36,u37,u38,u39,u40,u41,u42,u43,u44,u45,u46,u47,u48,u49,u50,u51,u52,u53,u54,u55,u56,u57,u58,u59,u60,u61,u62,u63,u64,u65,u66,u67,u68,u69,u70,u71,u72,rfl⟩:=hfr
    cases f1 with
    | zero=>unfold runP at hrun;cases hrun
    | succ f1=>
    unfold runP at hrun
    by_cases hk:k < Sj.P.ss.length
    ·rw[if_pos hk]at hrun
     have h64:=hA.ss.b64 hk
     have Hcl:Hid (Calls Tryz.prog 94 #[.pointer (some ⟨c.m,0,none⟩),.int .i64 k] w1 fun e w'=>e=.returned (.agg #[.int .u64 (clOf Sj.P k).1,.int .u64 (clOf Sj.P k).2])/\Below w1.heap.size w1 w'):=hA.ss.clause hk
     obtain⟨ka5,kc5,ra5,rc5,s0,s1,s2,s3,s4,s5,s6,s7,hk5,hr5⟩:=hA.ss.cells
     have s1':w1.cell? ⟨c.s,1,none⟩=some (.pointer (some ⟨c.m,0,none⟩)):=s1
     have HA:=hide hA
     have Hk:=hide hk
     clear hA s0 s1 s2 s3 s4 s5 s6 s7 hk5 hr5 hk
     generalize hq:clOf Sj.P k=q at *
     obtain⟨q1,q2⟩:=q
     have Hq:=hide hq
     clear hq
     simp only at h64 hrun
     have H64:=hide h64
     have Hrun:=hide hrun
     clear h64 hrun
     go_wp2_with fail
     refine Hcl.out.mono ?_
     rintro e w2 ⟨rfl,hb2⟩
     clear Hcl
     have HA2:=hide (HA.out.up hb2)
     clear hb2 s1'
     go_wp2_with fail
     refine(isEmpty_any q1 q2 w2).mono ?_
     rintro e w3 ⟨rfl,hb3⟩
     have HA3:=hide (HA2.out.up hb3)
     clear hb3
     generalize hem:emptyB q1 q2=em at *
     have Hem:=hide hem
     clear hem
     cases em
     ·rw[if_neg (by simp)]at Hrun
      cases hun:untakeP Sj with
      | none=>have:=Hrun.out;rw[hun]at this;cases this
      | some r=>
      obtain⟨e,S1⟩:=r
      rw[hun,Option.bind_some]at Hrun
      simp only at Hrun
      have hS1:S1.kn=Sj.kn/\S1.P=Sj.P/\e∈Sj.row:=by
       unfold untakeP at hun
       cases hl:Sj.row.getLast? with
       | none=>rw[hl]at hun;cases hun
       | some x=>
         rw[hl]at hun
         injection hun with hun
         injection hun with e1 e2
         subst e1
         subst e2
         exact⟨rfl,rfl,List.mem_of_getLast? hl⟩
      have hlow:=(HA3.out.ss.1.2.2.2.2.1 e hS1.2.2).1
      have Hun:Hid (Calls Tryz.prog 100 #[.pointer (some ⟨c.s,0,none⟩)] w3 (SS.Goes (c.kn ka kc) w3 G S1 (.agg #[.int .i64 e.pair,.int .i64 e.lit.x,.int .i64 e.lit.y,.bool e.lit.n,.int .i64 e.reason]))):=untake_any (hc.kn ka kc) HA3.out.ss hun
      have Hkn1:Hid (S1.kn.length<=3518437208883):=by show _<=_;rw[hS1.1];exact HA3.out.kn
      have HS1:=hide hS1
      have Hlow:Hid (LowL c.ts.length e.lit):=hlow
      clear hun hS1 hlow
      go_wp2_with fail
      refine Hun.out.mono ?_
      rintro x w4 ⟨rfl,G4,hS4,hf4,hk4⟩
      have hA4:=HA3.out.go hS4 hf4 hk4 Hkn1.out
      clear hS4 hf4 hk4 Hun
      obtain⟨b0,b1,b2,b3,b4⟩:=hA4.box.cells
      have g0:w4.frozen? ⟨bl,0,none⟩=false:=frozen_of_row _ _ _ _ _ hA4.box
      have g1:w4.frozen? ⟨bl,1,none⟩=false:=frozen_of_row _ _ _ _ _ hA4.box
      have g2:w4.frozen? ⟨bl,2,none⟩=false:=frozen_of_row _ _ _ _ _ hA4.box
      have g3:w4.frozen? ⟨bl,3,none⟩=false:=frozen_of_row _ _ _ _ _ hA4.box
      have g4:w4.frozen? ⟨bl,4,none⟩=false:=frozen_of_row _ _ _ _ _ hA4.box
      obtain⟨W5,hW5⟩:∃ W5,W5=(((((w4.setCell ⟨bl,0,none⟩ (.int .i64 e.pair)).setCell ⟨bl,1,none⟩ (.int .i64 e.lit.x)).setCell ⟨bl,2,none⟩ (.int .i64 e.lit.y)).setCell ⟨bl,3,none⟩ (.bool e.lit.n)).setCell ⟨bl,4,none⟩ (.int .i64 e.reason)):=⟨_,rfl⟩
      have hK5:Keeps [bl] w4 W5:=by rw[hW5];exact(((((Keeps.refl _ _).set (by simp) _).set (by simp) _).set (by simp) _).set (by simp) _).set (by simp) _
      have HA5:Hid (RunAt c F w bl ka kc G4 S1 e W5):=by
       refine⟨hA4.ss.keepOut hK5 (fun b hb=>?_),Hkn1.out,hA4.off.step (Fresh.refl _ _) hK5.size,by rw[hW5];exact hA4.box.set e,hA4.fr,hA4.kp.trans hK5 (fun b hb=>.inr (by simp at hb;rw[hb,<-Hbl.out];exact Nat.le_refl _))⟩
       simp at hb
       subst hb
       refine⟨(hA4.off b (by simp)).1,?_,?_⟩
       ·exact Hpa.out.1
       ·exact Hpa.out.2
      have Hx:=hide hA4
      clear hA4 hK5
      go_upto_region 13 with fail
      rw[<-hW5]
      clear hW5 b0 b1 b2 b3 b4 g0 g1 g2 g3 g4 Hx
      obtain⟨ka6,kc6,ra6,rc6,s0,s1,s2,s3,s4,s5,s6,s7,hk6,hr6⟩:=HA5.out.ss.cells
      have s1':W5.cell? ⟨c.s,1,none⟩=some (.pointer (some ⟨c.m,0,none⟩)):=s1
      obtain⟨b0,b1,b2,b3,b4⟩:=HA5.out.box.cells
      clear s0 s1 s2 s3 s4 s5 s6 s7 hk6 hr6
      have hne:Nonempty (Up W5):=⟨⟨W5,Below.refl _ _⟩⟩
      have d1:∀ u:Up W5,u.world.cell? ⟨c.s,1,none⟩=some (.pointer (some ⟨c.m,0,none⟩)):=fun u=>u.cell s1'
      have d2:∀ u:Up W5,u.world.cell? ⟨bl,1,none⟩=some (.int .i64 e.lit.x):=fun u=>u.cell b1
      have d3:∀ u:Up W5,u.world.cell? ⟨bl,2,none⟩=some (.int .i64 e.lit.y):=fun u=>u.cell b2
      have d4:∀ u:Up W5,u.world.cell? ⟨bl,3,none⟩=some (.bool e.lit.n):=fun u=>u.cell b3
      have Hcl5:Hid (∀ u:Up W5,Calls Tryz.prog 94 #[.pointer (some ⟨c.m,0,none⟩),.int .i64 k] u.world fun e w'=>e=.returned (.agg #[.int .u64 q1,.int .u64 q2])/\Below u.world.heap.size u.world w'):=by
       intro u
       have h1:=(HA5.out.ss.up u.above).clause (k:=k) (by rw[HS1.out.2.1];exact Hk.out)
       rw[HS1.out.2.1,Hq.out]at h1
       exact h1
      have hl9:=low9 hc Hlow.out
      have Hha:Hid (∀ W,Calls Tryz.prog 75 #[.agg #[.int .u64 q1,.int .u64 q2],.agg #[.int .i64 e.lit.x,.int .i64 e.lit.y,.bool (!e.lit.n)]] W fun x w'=>x=.returned (.bool (hasS q1 q2 (conL e.lit)))/\Below W.heap.size W w'):=
       fun W=>has_any e.lit.x e.lit.y (!e.lit.n) q1 q2 W hl9.1 hl9.2.1 hl9.2.2.1 hl9.2.2.2 H64.out.1 H64.out.2
      have Hco:Hid (∀ W,Calls Tryz.prog 101 #[.agg #[.int .i64 e.lit.x,.int .i64 e.lit.y,.bool e.lit.n]] W fun x w'=>x=.returned (.agg #[.int .i64 e.lit.x,.int .i64 e.lit.y,.bool (!e.lit.n)])/\Below W.heap.size W w'):=fun W=>contrary_any e.lit W
      clear s1' b0 b1 b2 b3 b4 hl9
      refine wp_region_up (by kernel_rfl) (by kernel_rfl) ?_
      repeat (go_big_quiet_step (fail))
      go_big_quiet_step ((go_at_call 94; exact calls_up (Hcl5.out _)))
      repeat (go_big_quiet_step (fail))
      go_big_quiet_step ((go_at_call 101; exact calls_up (Hco.out _)))
      repeat (go_big_quiet_step (fail))
      go_big_quiet_step ((go_at_call 75; exact calls_up (Hha.out _)))
      repeat (go_big_quiet_step (fail))
      refine wpQuiet_nil ?_
      intro _ hw'
      obtain⟨nq,hw''⟩:=hw'
      subst hw''
      have HA6:=hide (HA5.out.up nq.above)
      clear d1 d2 d3 d4 hne Hcl5 Hco Hha
      generalize nq.world=W6 at *
      generalize hhh:hasS q1 q2 (conL e.lit)=hh at *
      have Hhh:=hide hhh
      clear hhh
      cases hh
      ·rw[if_neg (by simp)]at Hrun
       go_wp2_with fail
       go_step3
       exact⟨2*f1+1,by omega,f1,ka,kc,G4,S1,e,_,_,k,rfl,fr_mk,HA6.out,Hrun.out⟩
      ·rw[if_pos rfl]at Hrun
       obtain⟨b0,b1,b2,b3,b4⟩:=HA6.out.box.cells
       by_cases hre:e.reason=-1
       ·rw[if_pos hre]at Hrun
        cases hle:learnP c.prs S1 k with
        | none=>have:=Hrun.out;rw[hle]at this;cases this
        | some S2=>
        rw[hle,Option.bind_some]at Hrun
        cases htk:takeP c.prs S2 e.pair (!e.lit.n) k with
        | none=>have:=Hrun.out;rw[htk]at this;cases this
        | some S3=>
        rw[htk,Option.bind_some]at Hrun
        have HL:=hide (And.intro hle htk)
        clear hle htk b0 b1 b2 b3
        rw[hre]at b4
        go_wp2_with fail
        go_step3
        exact⟨2*f1+2,by omega,f1,ka,kc,G4,S1,S2,S3,e,_,_,k,rfl,fr_mk,HA6.out,HL.out.1,HL.out.2,Hrun.out⟩
       ·rw[if_neg hre]at Hrun
        cases hrp:reasonP c.E S1 e with
        | none=>have:=Hrun.out;rw[hrp]at this;cases this
        | some r=>
        obtain⟨j2,S2⟩:=r
        rw[hrp,Option.bind_some]at Hrun
        simp only at Hrun
        cases had:addP c.E S2.P (cutS j2 k e.lit)with
        | none=>have:=Hrun.out;rw[had]at this;cases this
        | some r=>
        obtain⟨k3,P3⟩:=r
        rw[had,Option.bind_some]at Hrun
        simp only at Hrun
        have Hkn2:Hid (S2.kn.length<=3518437208883):=by
         show _<=_
         unfold reasonP at hrp
         split at hrp
         ·rw[(whyEqP_kn hrp).1];exact Hkn1.out
         ·split at hrp
          ·injection hrp with hrp
           injection hrp with _ hrp
           subst hrp
           exact Hkn1.out
          ·cases hrp
        have Hre:Hid (∀ W',Below W6.heap.size W6 W'->Calls Tryz.prog 103 #[.pointer (some ⟨c.s,0,none⟩),.agg #[.int .i64 e.pair,.int .i64 e.lit.x,.int .i64 e.lit.y,.bool e.lit.n,.int .i64 e.reason]] W' (SS.Goes (c.kn ka kc) W' G4 S2 (.int .i64 j2))):=
         fun W' hb'=>reason_any (hc.kn ka kc) (HA6.out.ss.up hb') e Hlow.out hrp
        have Hcu:Hid (∀(w7:World) (G7:List Nat),SS (c.kn ka kc) w7 G7 S2->Calls Tryz.prog 102 #[.pointer (some ⟨c.m,0,none⟩),.int .i64 j2,.int .i64 k,.agg #[.int .i64 e.lit.x,.int .i64 e.lit.y,.bool e.lit.n]] w7 (SS.Goes (c.kn ka kc) w7 G7 { S2 with P:=P3 } (.int .i64 k3))):=by
         intro w7 G7 hS7
         refine hS7.withP (Post:=fun x=>x=.returned (.int .i64 k3)) (fun FP hP hFP=>?_)
         exact pcut_any hc.hX hc.hE.toEnvOf c.m FP c.ta c.sa c.tc c.sc S2.P P3 j2 k e.lit k3 w7 (hc.ht.below hS7.1.1) (hc.hcs.below hS7.1.1) hc.hts hc.hcl hP had
        obtain⟨ka6,kc6,ra6,rc6,s0,s1,s2,s3,s4,s5,s6,s7,hk6,hr6⟩:=HA6.out.ss.cells
        have s1':W6.cell? ⟨c.s,1,none⟩=some (.pointer (some ⟨c.m,0,none⟩)):=s1
        have hox:=(HA6.out.off bl (by simp)).1
        have hblt:=(HA6.out.off bl (by simp)).2
        have hsG:∀ {w7 G7},SS (c.kn ka kc) w7 G7 S2->w7.cell? ⟨c.s,1,none⟩=some (.pointer (some ⟨c.m,0,none⟩)):=fun h=>by
         obtain⟨_,_,_,_,_,h1,_⟩:=h.cells
         exact h1
        have hsG3:∀ {w7 G7},SS (c.kn ka kc) w7 G7 { S2 with P:=P3 }->w7.cell? ⟨c.s,1,none⟩=some (.pointer (some ⟨c.m,0,none⟩)):=fun h=>by
         obtain⟨_,_,_,_,_,h1,_⟩:=h.cells
         exact h1
        clear s0 s1 s2 s3 s4 s5 s6 s7 hk6 hr6 hrp had
        have hnb:(e.reason == -1)=false:=by simp[hre]
        go_upto_region 15 with fail
        go_region_held3 (fun w'=>w'.cell? ⟨c.s,1,none⟩=some (.pointer (some ⟨c.m,0,none⟩))/\w'.cell? ⟨bl,0,none⟩=some (.int .i64 e.pair)/\w'.cell? ⟨bl,1,none⟩=some (.int .i64 e.lit.x)/\w'.cell? ⟨bl,2,none⟩=some (.int .i64 e.lit.y)/\w'.cell? ⟨bl,3,none⟩=some (.bool e.lit.n)/\w'.cell? ⟨bl,4,none⟩=some (.int .i64 e.reason))
         (first | exact hS | go_keep)
         (first
           | (go_at_call 103
              refine(Hre.out _ (by exact(Below.refl _ _).drew)).mono ?_
              rintro x w7 ⟨rfl,G7,hS7,hf7,hk7⟩
              have hS:=And.intro (hsG hS7) (And.intro (hk7.cell hox b0) (And.intro (hk7.cell hox b1) (And.intro (hk7.cell hox b2) (And.intro (hk7.cell hox b3) (hk7.cell hox b4))))))
           | (go_at_call 102
              have hox7:bl ∉ G7:=(Off.step (D:=[bl]) (w:=W6.drew) (fun b hb=>by simp at hb;subst hb;exact⟨hox,hblt⟩) hf7 hk7.size bl (by simp)).1
              have hS1:=hS
              refine(Hcu.out w7 G7 hS7).mono ?_
              rintro x w8 ⟨rfl,G8,hS8,hf8,hk8⟩
              have hS:=And.intro (hsG3 hS8) (And.intro (hk8.cell hox7 hS1.2.1) (And.intro (hk8.cell hox7 hS1.2.2.1) (And.intro (hk8.cell hox7 hS1.2.2.2.1) (And.intro (hk8.cell hox7 hS1.2.2.2.2.1) (hk8.cell hox7 hS1.2.2.2.2.2)))))))
        all_goals
         have HA8:=hide (((HA6.out.up (Below.refl _ _).drew).go hS7 hf7 hk7 Hkn2.out).go hS8 hf8 hk8 Hkn2.out)
         clear hS7 hf7 hk7 hS8 hf8 hk8
         go_wp2_with fail
         go_step3
         exact⟨2*f1+1,by omega,f1,ka,kc,G8,_,e,_,_,k3,rfl,fr_mk,HA8.out,Hrun.out⟩
     ·rw[if_pos rfl]at Hrun
      have HO:Hid (some k=out/\Sj=S'):=by
       have:=Hrun.out
       injection this with this
       injection this with e1 e2
       exact⟨e1,e2⟩
      go_wp2_with fail
      simp only[jumpA]
      go_ret2
      rw[<-HO.out.1]
      refine⟨rfl,?_⟩
      rw[<-HO.out.2]at Hfin
      rw[<-HO.out.2]
      exact Hfin.out _ ka kc G HA3.out.ss HA3.out.fr HA3.out.kp
    ·rw[if_neg hk]at hrun;cases hrun
  | 1,hJ=>
    refine⟨_,rfl,?_⟩
    obtain⟨f1,ka,kc,G,Sj,en,v4,v5,v6,rfl,hfr,hA,hrun⟩:=hJ
    unfold FrL at hfr
    obtain⟨u1,u8,u9,u10,u11,u12,u13,u14,u15,u16,u17,u18,u19,u20,u21,u22,u23,u24,u25,u26,u27,u28,u29,u30,u31,u32,u33,u34,u35,u36,u37,u38,u39,u40,u41,u42,u43,u44,u45,u46,u47,u48,u49,u50,u51,u52,u53,u54,u55,u56,u57,u58,u59,u60,u61,u62,u63,u64,u65,u66,u67,u68,u69,u70,u71,u72,rfl⟩:=hfr
    cases f1 with
    | zero=>unfold runP at hrun;cases hrun
    | succ f1=>
    unfold runP at hrun
    cases hfo:forcedP c.E c.prs 100 Sj with
    | none=>rw[hfo]at hrun;cases hrun
    | some r=>
    obtain⟨o1,S1⟩:=r
    rw[hfo,Option.bind_some]at hrun
    have Hrun:=hide hrun
    have HA:=hide hA
    have Hfo:Hid (Calls Tryz.prog 97 #[.pointer (some ⟨c.s,0,none⟩)] w1 (SS.Goes (c.kn ka kc) w1 G S1 (ov o1))):=takeForced_any (hc.kn ka kc) hA.ss hfo (by have:=hA.kn;omega)
    have Hkn:Hid (S1.kn.length<=3518437208883):=by show _<=_;rw[(forcedP_kn hfo).1];exact hA.kn
    clear hrun hA hfo
    go_wp2_with fail
    refine Hfo.out.mono ?_
    rintro e w2 ⟨rfl,G2,hS2,hf2,hk2⟩
    have HA2:=hide (HA.out.go hS2 hf2 hk2 Hkn.out)
    obtain⟨ka5,kc5,ra5,rc5,s0,s1,s2,s3,s4,s5,s6,s7,hk5,hr5⟩:=hS2.cells
    have s4':w2.cell? ⟨c.s,4,none⟩=some (.pointer (some ⟨c.q,0,none⟩)):=s4
    clear hS2 hf2 hk2 Hfo s0 s1 s2 s3 s4 s5 s6 s7 hk5 hr5
    unfold ov
    cases o1 with
    | some k=>
      simp only at Hrun
      simp only[Option.getD_some,Option.isSome_some]
      go_wp2_with fail
      go_step3
      exact⟨2*f1+1,by omega,f1,ka,kc,G2,S1,en,_,_,k,rfl,fr_mk,HA2.out,Hrun.out⟩
    | none=>
      simp only at Hrun
      simp only[Option.getD_none,Option.isSome_none]
      by_cases hns:S1.ns=[]
      ·rw[if_pos hns]at Hrun
       have Hnx:Hid (Calls Tryz.prog 98 #[.pointer (some ⟨c.q,0,none⟩)] w2 fun e w'=>e=.returned (.tuple #[.int .i64 0,.bool false])/\w'=w2):=HA2.out.ss.nextNone hns
       have HO:Hid (none=out/\S1=S'):=by
        have:=Hrun.out
        injection this with this
        injection this with e1 e2
        exact⟨e1,e2⟩
       go_wp2_with fail
       refine Hnx.out.mono ?_
       rintro e w3 ⟨rfl,rfl⟩
       go_wp2_with fail
       simp only[jumpA]
       go_ret2
       rw[<-HO.out.1]
       refine⟨rfl,?_⟩
       rw[<-HO.out.2]at Hfin
       rw[<-HO.out.2]
       exact Hfin.out _ ka kc G2 HA2.out.ss HA2.out.fr HA2.out.kp
      ·rw[if_neg hns]at Hrun
       cases htk:takeP c.prs { S1 with ns:=(popL S1.ws S1.ns).take (S1.ns.length - 1) } ((popL S1.ws S1.ns).getD (S1.ns.length - 1) 0) true (-1)with
       | none=>have:=Hrun.out;rw[htk]at this;cases this
       | some S3=>
       rw[htk,Option.bind_some]at Hrun
       have Htk:=hide htk
       have Hnx:Hid (Calls Tryz.prog 98 #[.pointer (some ⟨c.q,0,none⟩)] w2 (SS.Goes (c.kn ka kc) w2 G2 { S1 with ns:=(popL S1.ws S1.ns).take (S1.ns.length - 1) } (.tuple #[.int .i64 ((popL S1.ws S1.ns).getD (S1.ns.length - 1) 0:Nat),.bool true]))):=HA2.out.ss.nextSome (hc.kn ka kc) hns
       clear htk
       generalize (popL S1.ws S1.ns).getD (S1.ns.length - 1) 0=p at *
       go_wp2_with fail
       refine Hnx.out.mono ?_
       rintro e w3 ⟨rfl,G3,hS3,hf3,hk3⟩
       have HA3:=hide (HA2.out.go hS3 hf3 hk3 HA2.out.kn)
       clear hS3 hf3 hk3 Hnx s4'
       go_wp2_with fail
       go_step3
       exact⟨2*f1+2,by omega,f1,ka,kc,G3,_,S3,en,_,_,p,rfl,fr_mk,HA3.out,Htk.out,Hrun.out⟩
  | 2,hJ=>
    refine⟨_,rfl,?_⟩
    obtain⟨f1,ka,kc,G,Sj,S2,en,v4,v6,p,rfl,hfr,hA,htk,hrun⟩:=hJ
    unfold FrL at hfr
    obtain⟨u1,u8,u9,u10,u11,u12,u13,u14,u15,u16,u17,u18,u19,u20,u21,u22,u23,u24,u25,u26,u27,u28,u29,u30,u31,u32,u33,u34,u35,u36,u37,u38,u39,u40,u41,u42,u43,u44,u45,u46,u47,u48,u49,u50,u51,u52,u53,u54,u55,u56,u57,u58,u59,u60,u61,u62,u63,u64,u65,u66,u67,u68,u69,u70,u71,u72,rfl⟩:=hfr
    have Hrun:=hide hrun
    have HA:=hide hA
    have Hkn:Hid (S2.kn.length<=3518437208883):=by show _<=_;rw[(takeP_kn htk).1];exact hA.kn
    have Htk:Hid (Calls Tryz.prog 99 #[.pointer (some ⟨c.s,0,none⟩),.int .i64 p,.bool true,.int .i64 (-1)] w1 (SS.Goes (c.kn ka kc) w1 G S2 (.tuple #[]))):=take_any (hc.kn ka kc) hA.ss p true (-1) htk
    clear hrun hA htk
    go_wp2_with fail
    refine Htk.out.mono ?_
    rintro e w2 ⟨rfl,G2,hS2,hf2,hk2⟩
    have HA2:=hide (HA.out.go hS2 hf2 hk2 Hkn.out)
    clear hS2 hf2 hk2 Htk
    go_wp2_with fail
    go_step3
    exact⟨2*f1+1,by omega,f1,ka,kc,G2,S2,en,_,_,_,rfl,fr_mk,HA2.out,Hrun.out⟩
  | 3,hJ=>
    refine⟨_,rfl,?_⟩
    obtain⟨f1,ka,kc,G,Sj,S2,S3,en,v5,v6,k,rfl,hfr,hA,hle,htk,hrun⟩:=hJ
    unfold FrL at hfr
    obtain⟨u1,u8,u9,u10,u11,u12,u13,u14,u15,u16,u17,u18,u19,u20,u21,u22,u23,u24,u25,u26,u27,u28,u29,u30,u31,u32,u33,u34,u35,u36,u37,u38,u39,u40,u41,u42,u43,u44,u45,u46,u47,u48,u49,u50,u51,u52,u53,u54,u55,u56,u57,u58,u59,u60,u61,u62,u63,u64,u65,u66,u67,u68,u69,u70,u71,u72,rfl⟩:=hfr
    have Hrun:=hide hrun
    have HA:=hide hA
    have Hkn:Hid (S2.kn.length<=3518437208883):=learnP_kn hle
    have Hkn3:Hid (S3.kn.length<=3518437208883):=by show _<=_;rw[(takeP_kn htk).1];exact Hkn.out
    have Hle:Hid (Calls Tryz.prog 104 #[.pointer (some ⟨c.s,0,none⟩),.int .i64 k] w1 fun e w'=>e=.returned (.tuple #[])/\∃ ka2 kc2 F',SS (c.kn ka2 kc2) w' F' S2/\Fresh G F' w1/\Keeps G w1 w'):=learn_any (hc.kn ka kc) hA.ss hle
    have Htk:=hide htk
    clear hrun hA hle htk
    go_wp2_with fail
    refine Hle.out.mono ?_
    rintro e w2 ⟨rfl,ka2,kc2,G2,hS2,hf2,hk2⟩
    have HA2:=hide (HA.out.go hS2 hf2 hk2 Hkn.out)
    clear hS2 hf2 hk2 Hle HA
    obtain⟨b0,b1,b2,b3,b4⟩:=HA2.out.box.cells
    have Htk2:Hid (Calls Tryz.prog 99 #[.pointer (some ⟨c.s,0,none⟩),.int .i64 en.pair,.bool (!en.lit.n),.int .i64 (k:Int)] w2 (SS.Goes (c.kn ka2 kc2) w2 G2 S3 (.tuple #[]))):=take_any (hc.kn ka2 kc2) HA2.out.ss en.pair (!en.lit.n) k Htk.out
    clear b1 b2 b4
    generalize en.lit.n=bn at *
    go_wp2_with fail
    refine Htk2.out.mono ?_
    rintro e w3 ⟨rfl,G3,hS3,hf3,hk3⟩
    have HA3:=hide (HA2.out.go hS3 hf3 hk3 Hkn3.out)
    clear hS3 hf3 hk3 Htk2 b0 b3
    go_wp2_with fail
    go_step3
    exact⟨2*f1+1,by omega,f1,ka2,kc2,G3,S3,en,_,_,_,rfl,fr_mk,HA3.out,Hrun.out⟩
  | n+4,hJ=>exact hJ.elim
 ·intro Hp
  obtain⟨f1,ka,kc,G,Sj,en,hA,hrun⟩:=Hlook.out
  have HJ:Hid (∀ a,FrL c.s bl (.int .i64 0) (.int .i64 0) (.bool false) a->RunJ c F w bl out S' 1 (2*f1+1) a W):=fun a ha=>⟨f1,ka,kc,G,Sj,en,_,_,_,rfl,ha,hA,hrun⟩
  have HP:=hide Hp
  clear hA hrun Hp
  go_wp2_with fail
  go_step3
  rw[<-hW,Hbl.out]
  obtain⟨r,hr,hwp⟩:=HP.out 1 _ _ _ (HJ.out _ fr_mk)
  cases (show some (Code.skip.seq _)=some (Code.skip.seq r)from hr)
  have hwp2:=hwp
  first
   | (apply_assumption;exact hwp2)
   | (rename_i hK;exact hK _ _ hwp2)
   | (rename_i hK _;exact hK _ _ hwp2)
   | (rename_i hK _ _;exact hK _ _ hwp2)
end Go.Proofs.YtjebhhoibofmfaaGreat
