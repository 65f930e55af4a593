import Derived.Test.YtjebhhoibofmfaaGreatBMCl
import Derived.Test.YtjebhhoibofmfaaGreatBMMd
import Derived.Test.YtjebhhoibofmfaaGreatBMWh
namespace Go.Proofs.YtjebhhoibofmfaaGreat
open Go.RowKit
def rowF(ts:List Tm)(m:List Int)(i:Nat):Option (Nat×Nat):=((List.range i).find? fun j=>forcedB ts m i j).map fun j=>(i,j)
def firstF(ts:List Tm)(m:List Int):Option (Nat×Nat):=(List.range ts.length).findSome? (rowF ts m)
def link1(n:Nat):List Pr->List Pr->List Pr
 | [],L=>L
 | p :: ps,L=>if(mksOf n L).getD p.x.toNat 0=(mksOf n L).getD p.y.toNat 0 then link1 n ps L else link1 n ps (L++[p])
def link2(ts:List Tm):Nat->List Pr->Option (List Pr)
 | 0,_=>none
 | f+1,L=>match firstF ts (mksOf ts.length L)with
   | none=>some L
   | some (i,j)=>link2 ts f (L++[⟨i,j⟩])
def linksF(ts:List Tm)(ps:List Pr):List Pr:=(link2 ts 20 (link1 ts.length ps [])).getD []
theorem range_split{i n:Nat}(h:i < n):∃ l,List.range n=List.range i++i :: l:=by
 obtain⟨k,rfl⟩:∃ k,n=(i+1)+k:=⟨n - (i+1),by omega⟩
 exact⟨(List.range k).map (i+1+·),by rw[List.range_add,List.range_succ,List.append_assoc];rfl⟩
theorem rowF_none{ts:List Tm}{m:List Int}{i:Nat}(h:∀ j,j < i->forcedB ts m i j=false):rowF ts m i=none:=by
 unfold rowF
 rw[Option.map_eq_none_iff,List.find?_eq_none]
 intro j hj
 rw[h j (List.mem_range.1 hj)];simp
theorem firstF_none{ts:List Tm}{m:List Int}(h:∀ i j,j < i->i < ts.length->forcedB ts m i j=false):firstF ts m=none:=by
 unfold firstF
 rw[List.findSome?_eq_none_iff]
 intro i hi
 exact rowF_none (fun j hj=>h i j hj (List.mem_range.1 hi))
theorem firstF_some{ts:List Tm}{m:List Int}{i j:Nat}(hi:i < ts.length)(hj:j < i)(h1:∀ x y,y < x->x < i->forcedB ts m x y=false)(h2:∀ y,y < j->forcedB ts m i y=false)(h3:forcedB ts m i j=true):firstF ts m=some (i,j):=by
 unfold firstF
 obtain⟨l,e⟩:=range_split hi
 rw[e,List.findSome?_append,List.findSome?_cons]
 have hn:(List.range i).findSome? (rowF ts m)=none:=by
  rw[List.findSome?_eq_none_iff]
  intro x hx
  exact rowF_none (fun y hy=>h1 x y hy (List.mem_range.1 hx))
 have hr:rowF ts m i=some (i,j):=by
  unfold rowF
  obtain⟨l2,e2⟩:=range_split hj
  have hn2:(List.range j).find? (fun j=>forcedB ts m i j)=none:=by
   rw[List.find?_eq_none]
   intro y hy
   rw[h2 y (List.mem_range.1 hy)];simp
  rw[e2,List.find?_append,hn2,List.find?_cons,h3]
  rfl
 rw[hn,hr]
 rfl
set_option maxHeartbeats 800000 in
theorem findForced_first(ta ca:Option Addr)(tc cc:Nat)(ts:List Tm)(c:List Int)(w:World)(ht:TermsAt w ta ts)(hc:IntsAt w ca c)
 (hl:ts.length<=c.length) (h9:ts.length<=9) (hin:ArgsIn ts c.length) :
 Calls Tryz.prog 81 #[.slice ta ts.length tc,.slice ca c.length cc] w fun e w'=>∃(i j:Nat) (f:Bool),e=.returned (.tuple #[.int .i64 i,.int .i64 j,.bool f]) /\
  (f=true->j < i/\i < ts.length/\forcedB ts c i j=true/\firstF ts c=some (i,j))/\(f=false->(∀ i j,j < i->i < ts.length->forcedB ts c i j=false)/\firstF ts c=none)/\Below w.heap.size w w':=by
 have Hin:=hide hin
 clear hin
 go_enter Tryz.func81,Tryz.ntmps81
 go_wp2_with fail
 go_loopg [11] ts.length (fun g s wr=>∃ i:Nat,g=ts.length - i/\i<=ts.length/\s=.int .i64 i/\Hid (∀ x y,y < x->x < i->forcedB ts c x y=false)/\Below w.heap.size w wr)
 case atStart=>exact⟨0,by omega,Nat.zero_le _,rfl,(fun x y _ h=>by omega),Below.refl _ _⟩
 case round=>
  obtain⟨i,rfl,hi,rfl,Hi,hb⟩:=hrel
  by_cases hlt:i < ts.length
  ·go_wp2_with fail
   go_loopg [15] i (fun g s wr=>∃ j:Nat,g=i - j/\j<=i/\s=.int .i64 j/\Hid (∀ y,y < j->forcedB ts c i y=false)/\Below w.heap.size w wr)
   case atStart=>exact⟨0,by omega,Nat.zero_le _,rfl,(fun y h=>by omega),hb⟩
   case round=>
    obtain⟨j,rfl,hj,rfl,Hj,hb2⟩:=hrel
    by_cases hjt:j < i
    ·obtain⟨cb,co,rfl,ccell⟩:=(hc.below hb2).get (i:=i) (by omega)
     have c1:=ccell i (by omega)
     have c2:=ccell j (by omega)
     have ht':=ht.below hb2
     have hc':=hc.below hb2
     have hst:forcedB ts c i j=(!decide (c.getD i 0=c.getD j 0) && mustB ts c i j):=rfl
     generalize c.getD i 0=vi at *
     generalize c.getD j 0=vj at *
     have Hst:=hide hst
     clear ccell hst
     by_cases he:vi=vj
     ·have hb1:(vi != vj)=false:=by simp[he]
      have He:=hide he
      clear he
      go_upto_region 7 with fail
      go_quiet (fail)
      go_wp2_with fail
      go_roundg (i - (j+1))
      case measure=>omega
      case rel=>exact⟨j+1,rfl,by omega,by go_num,upto_succ Hj.out (by rw[Hst.out];simp[He.out]),below_drewN hb2 _⟩
     ·have hb1:(vi != vj)=true:=by simp[he]
      have He:=hide he
      clear he
      have hne:Nonempty (Up wr):=⟨⟨wr,Below.refl _ _⟩⟩
      have d1:∀ u:Up wr,u.world.cell? ⟨cb,co+i,none⟩=some (.int .i64 vi):=fun u=>u.cell c1
      have d2:∀ u:Up wr,u.world.cell? ⟨cb,co+j,none⟩=some (.int .i64 vj):=fun u=>u.cell c2
      go_upto_region 7 with fail
      refine wp_region_up (by kernel_rfl) (by kernel_rfl) ?_
      repeat (go_big_quiet_step ((go_at_call 106; exact calls_up (must_any ta _ tc cc ts c i j _ (ht'.below (Up.above _)) (hc'.below (Up.above _)) (by omega) (by omega) Hin.out))))
      refine wpQuiet_nil ?_
      intro _ hw'
      obtain⟨nq,hw''⟩:=hw'
      subst hw''
      have hb3:=hb2.trans (nq.above.mono hb2.size)
      have hf':forcedB ts c i j=mustB ts c i j:=by rw[Hst.out];simp[He.out]
      have Hf:=hide hf'
      clear d1 d2 hf' hne
      cases hf:mustB ts c i j
      ·go_wp2_with fail
       go_roundg (i - (j+1))
       case measure=>omega
       case rel=>exact⟨j+1,rfl,by omega,by go_num,upto_succ Hj.out (by rw[Hf.out,hf]),hb3⟩
      ·go_wp2_with fail
       go_ret3
       exact⟨i,j,true,rfl,fun _=>⟨hjt,hlt,by rw[Hf.out,hf],firstF_some hlt hjt Hi.out Hj.out (by rw[Hf.out,hf])⟩,(fun h=>by cases h),hb3⟩
    ·go_wp2_with fail
     go_roundg (ts.length - (i+1))
     case measure=>omega
     case rel=>exact⟨i+1,rfl,by omega,by go_num,(fun x y h1 h2=>by
      rcases Nat.lt_succ_iff_lt_or_eq.1 h2 with h3 | h3
      ·exact Hi.out x y h1 h3
      ·subst h3;exact Hj.out y (by omega)),hb2⟩
  ·go_wp2_with fail
   go_ret3
   exact⟨0,0,false,rfl,(fun h=>by cases h),(fun _=>⟨fun x y h1 h2=>Hi.out x y h1 (by omega),firstF_none (fun x y h1 h2=>Hi.out x y h1 (by omega))⟩),hb⟩
end Go.Proofs.YtjebhhoibofmfaaGreat
namespace Go.Proofs.YtjebhhoibofmfaaGreat
open Go.RowKit
set_option maxRecDepth 100000 in
set_option maxHeartbeats 2000000 in
theorem joinAll_exact(ta pa:Option Addr)(tc pc:Nat)(ts:List Tm)(ps:List Pr)(w:World)(ht:TermsAt w ta ts)(hp:PairsAt w pa ps)(h9:ts.length<=9)(hin:ArgsIn ts ts.length)(hpin:PairsIn ps ts.length) :
 Calls Tryz.prog 71 #[.slice ta ts.length tc,.slice pa ps.length pc] w fun e w'=>∃ m L v,e=.returned (.tuple #[.slice (some ⟨w.heap.size,0,none⟩) ts.length ts.length,v]) /\
  JW w m L v w'/\CI ts ps m ps.length/\soundB ts m=true/\JL ts ps m L/\L=linksF ts ps:=by
 obtain⟨i1,hi1,hy0,hy1,hy2⟩:=info_parts info_pair
 have Hin:=hide hin
 have Hpin:=hide hpin
 have h60:=hpin.1
 clear hin hpin
 go_enter Tryz.func71,Tryz.ntmps71
 go_wp2_with fail
 refine(allApart_any ts.length w h9).mono ?_
 rintro e w1 ⟨rfl,hrow1,hb1⟩
 have hown1:w1.ownsRow (w.heap.size+1) 58 2 (.slice none 0 0) 0 (psCells []):=⟨rfl,.inl ⟨rfl,rfl⟩⟩
 have HJ1:Hid (JW w (apart ts.length) [] (.slice none 0 0) w1):=⟨hrow1,hown1,hb1⟩
 go_wp2_with fail
 go_loopg [7,18] ps.length (fun q v s wx=>∃(k:Nat) (m:List Int) (L:List Pr),q=ps.length - k/\k<=ps.length/\s=.int .i64 k/\Hid (CI ts ps m k)/\Hid (JL ts ps m L/\link1 ts.length (ps.drop k) L=link1 ts.length ps [])/\JW w m L v wx)
 case atStart=>exact⟨0,_,[],rfl,by omega,rfl,CI.start ts ps,⟨JL.start ts ps,rfl⟩,HJ1.out⟩
 case round=>
  obtain⟨k,m,L,rfl,hk,rfl,Hci,Hjl,hJ⟩:=hrel
  have hrow:=hJ.1
  have hbx:=hJ.2.2
  obtain⟨va,vc,rfl⟩:=own_val hJ.2.1
  by_cases hlt:k < ps.length
  ·obtain⟨pb,po,rfl,pcell⟩:=(hp.below hbx).get hlt
   obtain⟨p1,p2⟩:=pcell k hlt
   obtain⟨⟨b1,b2⟩,b3,b4⟩:=Hpin.out.2 k hlt
   obtain⟨nx,hnx⟩:=Int.eq_ofNat_of_zero_le b1
   obtain⟨ny,hny⟩:=Int.eq_ofNat_of_zero_le b3
   have Hnx:=hide hnx
   have Hny:=hide hny
   have Hlm:Hid (m.length=ts.length):=Hci.out.1
   rw[hnx]at p1 b2
   rw[hny]at p2 b4
   have hx1:nx < ts.length:=by omega
   have hx2:ny < ts.length:=by omega
   have cx:=hrow.cell (k:=nx) (by rw[Hlm.out];omega)
   have cy:=hrow.cell (k:=ny) (by rw[Hlm.out];omega)
   have HP:Hid (ps.getD k pr0=⟨nx,ny⟩):=by
    show _=_
    rw[<-hnx,<-hny]
   have Hdr:Hid (ps.drop k=ps.getD k pr0 :: ps.drop (k+1)):=by
    show _=_
    rw[List.drop_eq_getElem_cons hlt,List.getD_eq_getElem?_getD,List.getElem?_eq_getElem hlt,Option.getD_some]
   generalize hgx:m.getD nx 0=gx at *
   generalize hgy:m.getD ny 0=gy at *
   have HX:=hide hgx
   have HY:=hide hgy
   clear hnx hny pcell b1 b3 hgx hgy
   obtain⟨wA,hwA⟩:∃ wA,wA=wr.alloc (.cells #[.int .i64 nx,.int .i64 ny] 58):=⟨_,rfl⟩
   have hbA:Below wr.heap.size wr wA:=by rw[hwA];exact(Below.refl _ _).alloc (Nat.le_refl _) _
   have q0:wA.cell? ⟨wr.heap.size,0,none⟩=some (.int .i64 nx):=by rw[hwA];simp
   have q1:wA.cell? ⟨wr.heap.size,1,none⟩=some (.int .i64 ny):=by rw[hwA];simp
   have hJA:=hJ.below hbA
   have cxA:=cell_below hbA cx
   have cyA:=cell_below hbA cy
   have hltA:wr.heap.size < wA.heap.size:=block_lt q0
   go_upto_region 6 with fail
   rw[<-hwA]
   clear hwA cx cy hbA
   by_cases hne:gx=gy
   ·subst hne
    have hnb:(gx != gx)=false:=by simp
    go_quiet (fail)
    go_wp2_with fail
    go_roundg (ps.length - (k+1))
    case measure=>omega
    case rel=>exact⟨k+1,m,L,rfl,by omega,by go_num,Hci.out.same Hnx.out Hny.out (by rw[HX.out,HY.out]),⟨Hjl.out.1,by
     rw[<-Hjl.out.2,Hdr.out,link1,HP.out,<-Hjl.out.1.2.1]
     simp only[Int.toNat_natCast]
     rw[if_pos (by rw[HX.out,HY.out])]⟩,hJA.below (below_drewN (Below.refl _ _) _)⟩
   ·have hnb:(gx != gy)=true:=by simp[hne]
    have Hne:=hide hne
    clear hne
    go_quiet (fail)
    go_wp2_with fail
    generalize hwB:wA.drewN _=wB
    have hbB:Below wA.heap.size wA wB:=by rw[<-hwB];exact below_drewN (Below.refl _ _) _
    have q0B:=cell_below hbB q0
    have q1B:=cell_below hbB q1
    have hJB:=hJA.below hbB
    clear hwB q0 q1 cxA cyA hJA
    have hjn:=join_any w.heap.size m nx ny wB hJB.1 (by rw[Hlm.out];exact h9) (by rw[Hlm.out];omega) (by rw[Hlm.out];omega)
    rw[Hlm.out,HX.out,HY.out]at hjn
    refine hjn.mono ?_
    clear hjn
    rintro e w2 ⟨rfl,hrow3,hgr⟩
    have hsB:=hbB.size
    have hltw:=hJ.1.lt
    have hnq:some wr.heap.size≠some w.heap.size:=fun e=>by
     injection e with e
     omega
    have q0C:=hgr.cell q0B hnq
    have q1C:=hgr.cell q1B hnq
    have hJC:=hJB.join hrow3 hgr
    have Hci2:=hide (Hci.out.pair Hpin.out hlt Hnx.out Hny.out)
    have Hjl2:=hide (And.intro (Hjl.out.1.snoc Hci.out hx1 hx2 (by rw[HX.out,HY.out];exact Hne.out) (.inl ⟨k,hlt,HP.out⟩)) (show link1 ts.length (ps.drop (k+1)) (L++[⟨nx,ny⟩])=link1 ts.length ps [] by
     rw[<-Hjl.out.2,Hdr.out,link1,HP.out,<-Hjl.out.1.2.1]
     simp only[Int.toNat_natCast]
     rw[if_neg (by rw[HX.out,HY.out];exact Hne.out)]))
    rw[HX.out,HY.out]at Hci2 Hjl2
    generalize joinL m gx gy=m3 at *
    clear hrow3 hgr hJB q0B q1B
    have hL9:L.length<=9:=by have:=Hjl.out.1.2.2;omega
    obtain⟨p,hpp⟩:∃ p:Pr,p=⟨nx,ny⟩:=⟨_,rfl⟩
    have hszC:w.heap.size+1<=w2.heap.size:=hJC.1.lt
    go_wp2_with (at_builtin;refine wpList_append_own _ rfl (.tmp 39) (.tmp 41) 46 rfl (w.heap.size+1) 58 i1 (.agg #[.int .i64 0,.int .i64 0]) 2 16 Tryz.underlying46 hi1 hy0 hy1 hy2 rfl (by decide) (.slice va L.length vc) L.length (psCells L) rfl (hJC.2.1.alloc _) ⟨w2.heap.size,0,none⟩ 1 1 (prCells ⟨nx,ny⟩) rfl rfl (by simpa using new_pr w2 ⟨nx,ny⟩ 58) (prCells_one _) (by unfold maxLen;omega) (by omega) (by simp;omega) ?_)
    intro qv w3 hown2 hgr2 hz2
    clear hz2
    have hJD:=(hJC.below ((Below.refl _ _).alloc (Nat.le_refl _) _)).append (p:=⟨nx,ny⟩) hgr2 hown2
    clear hown2 hgr2 hJC
    obtain⟨qa,qc,hqv⟩:=own_val hJD.2.1
    subst hqv
    go_wp2_with fail
    go_roundg (ps.length - (k+1))
    case measure=>omega
    case rel=>exact⟨k+1,m3,_,rfl,by omega,by go_num,Hci2,Hjl2,by simpa using hJD⟩
  ·have Hci':Hid (CI ts ps m ps.length):=by have e:k=ps.length:=(by omega);rw[e]at Hci;exact Hci
   have Hlm:Hid (m.length=ts.length):=Hci.out.1
   have hff:=findForced_first ta _ tc ts.length ts m wr (ht.below hbx) hrow.at (by rw[Hlm.out];exact Nat.le_refl _) h9 (by rw[Hlm.out];exact Hin.out)
   rw[Hlm.out]at hff
   have Hff:=hide hff
   clear hff
   go_wp2_with fail
   refine Hff.out.mono ?_
   rintro e w2 ⟨i,j,f,rfl,hf1,hf2,hbf⟩
   have hJ2:=hJ.below hbf
   clear hbf hrow
   go_wp2_with fail
   go_loopg [7,10,11,12] (marksN ts.length m) (fun q v s8 s9 s10 wx=>∃(m:List Int) (L:List Pr) (i j:Nat) (f:Bool),q=marksN ts.length m/\s8=.int .i64 i/\s9=.int .i64 j/\s10=.bool f /\
    Hid (CI ts ps m ps.length)/\Hid (JL ts ps m L/\∃ fu,marksN ts.length m < fu/\link2 ts fu L=link2 ts 20 (link1 ts.length ps []))/\Hid (f=true->j < i/\i < ts.length/\forcedB ts m i j=true/\firstF ts m=some (i,j))/\Hid (f=false->(∀ i j,j < i->i < ts.length->forcedB ts m i j=false)/\firstF ts m=none)/\JW w m L v wx)
   case atStart=>exact⟨m,L,i,j,f,rfl,rfl,rfl,rfl,Hci',⟨Hjl.out.1,20,by have:=marksN_le ts.length m;omega,by
    have:=Hjl.out.2
    rw[List.drop_of_length_le (by omega)]at this
    rw[<-this]
    rfl⟩,hf1,hf2,hJ2⟩
   case round=>
    obtain⟨m2,L2,i2,j2,f2,rfl,rfl,rfl,rfl,Hc2,Hjl2,Ht,He,hJw⟩:=hrel
    have Hlm2:Hid (m2.length=ts.length):=Hc2.out.1
    obtain⟨va2,vc2,rfl⟩:=own_val hJw.2.1
    cases f2
    ·have hsd:=hide (soundB_yes (He.out rfl).1)
     have Hlk:Hid (L2=linksF ts ps):=by
      obtain⟨j1,fu,hfu,e⟩:=Hjl2.out
      show L2=linksF ts ps
      unfold linksF
      rw[<-e]
      cases fu with
      | zero=>omega
      | succ fu=>
        unfold link2
        rw[<-j1.2.1,(He.out rfl).2]
        rfl
     go_wp2_with fail
     go_ret2
     exact⟨m2,L2,_,rfl,hJw,Hc2.out,hsd.out,Hjl2.out.1,Hlk.out⟩
    ·obtain⟨q1,q2,q3,q4⟩:=Ht.out rfl
     have Hq4:=hide q4
     clear q4
     have Hq3:=hide q3
     obtain⟨n1,n2⟩:=Hc2.out.forced Hpin.out (Nat.le_refl _) Hin.out q1 q2 q3
     have hjn:=join_any w.heap.size m2 i2 j2 _ hJw.1 (by rw[Hlm2.out];exact h9) (by rw[Hlm2.out];omega) (by rw[Hlm2.out];omega)
     rw[Hlm2.out]at hjn
     have Hjn:=hide hjn
     have N1:=hide n1
     have N2:=hide n2
     have HJ3:Hid (JL ts ps (joinL m2 (m2.getD i2 0) (m2.getD j2 0)) (L2++[⟨i2,j2⟩])/\∃ fu,marksN ts.length (joinL m2 (m2.getD i2 0) (m2.getD j2 0)) < fu/\link2 ts fu (L2++[⟨i2,j2⟩])=link2 ts 20 (link1 ts.length ps [])):=by
      have hf:=Hq3.out
      simp only[forcedB,Bool.and_eq_true,Bool.not_eq_true',decide_eq_false_iff_not]at hf
      refine⟨Hjl2.out.1.snoc Hc2.out q2 (by omega) hf.1 (.inr ⟨q1,hf.2⟩),?_⟩
      obtain⟨j1,fu,hfu,e⟩:=Hjl2.out
      cases fu with
      | zero=>omega
      | succ fu=>
        refine⟨fu,by have:=n2;omega,?_⟩
        rw[<-e]
        conv=>rhs;unfold link2
        rw[<-j1.2.1,Hq4.out]
     clear hjn n1 n2 q3 Hq3
     go_wp2_with fail
     refine Hjn.out.mono ?_
     rintro e w5 ⟨rfl,hrw5,hgr⟩
     generalize joinL m2 (m2.getD i2 0) (m2.getD j2 0)=m3 at *
     have hJ5:=hJw.join hrw5 hgr
     clear hrw5 hgr
     have hL9:L2.length<=9:=by have:=Hjl2.out.1.2.2;omega
     have hsz5:w.heap.size+1<=w5.heap.size:=hJ5.1.lt
     go_upto_region 14 with(at_builtin;refine wpList_append_own _ rfl (.tmp 56) (.tmp 60) 46 rfl (w.heap.size+1) 58 i1 (.agg #[.int .i64 0,.int .i64 0]) 2 16 Tryz.underlying46 hi1 hy0 hy1 hy2 rfl (by decide) (.slice va2 L2.length vc2) L2.length (psCells L2) rfl (hJ5.2.1.alloc _) ⟨w5.heap.size,0,none⟩ 1 1 (prCells ⟨i2,j2⟩) rfl rfl (by simpa using new_pr w5 ⟨i2,j2⟩ 58) (prCells_one _) (by unfold maxLen;omega) (by omega) (by simp;omega) ?_;intro qv w6 hown2 hgr2 hz2;clear hz2)
     have hJ6:=(hJ5.below ((Below.refl _ _).alloc (Nat.le_refl _) _)).append (p:=⟨i2,j2⟩) hgr2 hown2
     clear hown2 hgr2 hJ5
     obtain⟨qa,qc,hqv⟩:=own_val hJ6.2.1
     subst hqv
     have Hlm3:Hid (m3.length=ts.length):=N1.out.1
     have hff3:=findForced_first ta _ tc ts.length ts m3 w6 (ht.below hJ6.2.2) hJ6.1.at (by rw[Hlm3.out];exact Nat.le_refl _) h9 (by rw[Hlm3.out];exact Hin.out)
     rw[Hlm3.out]at hff3
     have Hff3:=hide hff3
     clear hff3
     go_wp2_with fail
     refine Hff3.out.mono ?_
     rintro e w7 ⟨i6,j6,f6,rfl,hf61,hf62,hb6⟩
     have hJ7:=hJ6.below hb6
     have HF1:=hide hf61
     have HF2:=hide hf62
     clear hf61 hf62 hb6
     go_wp2_with fail
     go_roundg (marksN ts.length m3)
     case measure=>exact N2.out
     case rel=>exact⟨m3,_,i6,j6,f6,rfl,rfl,rfl,rfl,N1,HJ3,HF1,HF2,by simpa using hJ7⟩
set_option maxRecDepth 100000 in
set_option maxHeartbeats 1000000 in
theorem eqClose_exact(ta pa:Option Addr)(tc pc:Nat)(ts:List Tm)(ps:List Pr)(w:World)(ht:TermsAt w ta ts)(hp:PairsAt w pa ps)(h9:ts.length<=9)(hin:ArgsIn ts ts.length)(hpin:PairsIn ps ts.length) :
 Calls Tryz.prog 43 #[.slice ta ts.length tc,.slice pa ps.length pc] w fun e w'=>∃ g c,e=.returned (.slice (some ⟨g,0,none⟩) ts.length ts.length)/\Row w' g c/\w.heap.size<=g/\(CloseOf ts ps c/\c=clsAll (mksOf ts.length (linksF ts ps)))/\Below w.heap.size w w':=by
 have Hin:=hide hin
 have Hpin:=hide hpin
 clear hin hpin
 go_enter Tryz.func43,Tryz.ntmps43
 go_wp2_with fail
 refine(joinAll_exact ta pa tc pc ts ps w ht hp h9 Hin.out Hpin.out).mono ?_
 rintro e w1 ⟨m,L,v,rfl,hJ,hci,hsd,hjl,hlk⟩
 have hlm:m.length=ts.length:=hci.1
 have hcl:CloseOf ts ps (clsAll m)/\clsAll m=clsAll (mksOf ts.length (linksF ts ps)):=⟨closeOf_cls h9 hlm Hin.out Hpin.out hsd (allB_yes hci.2.2.2) hci.2.2.1,by rw[hjl.2.1,hlk]⟩
 have htc:=toClasses_any _ ts.length m w1 hJ.1.at (by rw[hlm];exact h9)
 rw[hlm]at htc
 have Htc:=hide htc
 have Hcl:=hide hcl
 clear htc hcl hci hsd hjl hlk
 go_wp2_with fail
 refine Htc.out.mono ?_
 rintro e w5 ⟨rfl,hrw5,hb5⟩
 go_wp2_with fail
 go_ret
 exact⟨_,_,rfl,hrw5,hJ.2.2.size,Hcl.out,hJ.2.2.trans (hb5.mono hJ.2.2.size)⟩
set_option maxRecDepth 100000 in
set_option maxHeartbeats 1000000 in
theorem links_exact(ta pa:Option Addr)(tc pc:Nat)(ts:List Tm)(ps:List Pr)(w:World)(ht:TermsAt w ta ts)(hp:PairsAt w pa ps)(h9:ts.length<=9)(hin:ArgsIn ts ts.length)(hpin:PairsIn ps ts.length) :
 Calls Tryz.prog 144 #[.slice ta ts.length tc,.slice pa ps.length pc] w fun e w'=>∃ L a cap,e=.returned (.slice a L.length cap)/\PairsAt w' a L/\(∀ b∈blkOf a,w.heap.size<=b/\b < w'.heap.size)/\L=linksF ts ps/\LinksOk ts ps L/\L.length<=9 /\
  soundB ts (mksOf ts.length L)=true/\CI ts ps (mksOf ts.length L) ps.length/\Below w.heap.size w w':=by
 have Hin:=hide hin
 have Hpin:=hide hpin
 clear hin hpin
 go_enter Tryz.func144,Tryz.ntmps144
 go_wp2_with fail
 refine(joinAll_exact ta pa tc pc ts ps w ht hp h9 Hin.out Hpin.out).mono ?_
 rintro e w1 ⟨m,L,v,rfl,hJ,hci,hsd,hjl,hlk⟩
 obtain⟨va,vc,rfl⟩:=own_val hJ.2.1
 have hpa:=pairsAt_of_own hJ.2.1
 have hbl:∀ b∈blkOf va,w.heap.size<=b/\b < w1.heap.size:=fun b hb=>⟨by have:=(own_lt hJ.2.1 b hb).1;omega,(own_lt hJ.2.1 b hb).2⟩
 have Hbl:=hide hbl
 have Hlk:=hide hlk
 clear hbl hlk
 obtain⟨j1,j2,j3⟩:=hjl
 have hL:L.length<=9:=by omega
 subst j2
 have H1:=hide hci
 have H2:=hide hsd
 have H3:=hide j1
 clear hci hsd j1 j3
 go_wp2_with fail
 go_ret
 exact⟨L,va,vc,rfl,hpa,Hbl.out,Hlk.out,H3.out,hL,H2.out,H1.out,hJ.2.2⟩
end Go.Proofs.YtjebhhoibofmfaaGreat
