/-
  alone 74, walked.
-/
import Derived.Test.YtcfcjljapamcoaaGreatDoorMptv
namespace Go.Proofs
open Go.RowKit Go.Shelf
set_option maxRecDepth 100000
attribute [local go_sem] Oper.semAt_some
set_option maxHeartbeats 16000000 in
theorem alone_any (rv av kv pv cv:Value) (rs:List Rl) (r:Rl) (w:World) (h:PsR w rv rs) (hr:RR w av kv pv cv r) (hn:rs.length≤256) (hos:∀ x∈rs,Ok x) (ho:Ok r) :
 Calls Tryz.prog 74 #[.agg #[rv],.agg #[.bool r.bg,av,kv,pv,.bool r.en,cv,.int .i64 r.cu]] w fun e w'=>e = .returned (.int .i64 (ralE rs r))∧Below w.heap.size w w':=by
 obtain ⟨E,hE⟩:∃ E,ralE rs r=E:=⟨_,rfl⟩
 obtain ⟨W1,hW1⟩:∃ W1,(w.alloc (.cells #[rv] 24)).alloc (.cells #[.bool r.bg,av,kv,pv,.bool r.en,cv,.int .i64 r.cu] 60)=W1:=⟨_,rfl⟩
 have hb1:Below w.heap.size w W1:=by rw [←hW1];exact ((Below.refl _ w).alloc (Nat.le_refl _) _).alloc (by rw [World.size_alloc];omega) _
 have hk1:W1.heap[w.heap.size]? = some (.cells #[rv] 24 (0,0)):=by rw [←hW1];exact al_old _ _ (al_new _ _ rfl)
 have hk2:W1.heap[w.heap.size+1]? = some (.cells #[.bool r.bg,av,kv,pv,.bool r.en,cv,.int .i64 r.cu] 60 (0,0)):=by rw [←hW1];exact al_new _ _ (by simp only [World.size_alloc])
 have HC:Hid (AlC w W1 rs r rv av kv pv cv E):=⟨hb1,h,hr,ho,hos,hn,hE,fun W hb=>⟨(hb.block _ (blk_lt hk1)).trans hk1,(hb.block _ (blk_lt hk2)).trans hk2⟩⟩
 obtain ⟨ra,rc,rfl,_,_⟩:=h
 obtain ⟨aa,an,ac,rfl⟩:=hr.a.sl
 obtain ⟨ka,kn,kc,rfl⟩:=hr.k.sl
 obtain ⟨pa,pn,pc,rfl⟩:=hr.p.sl
 obtain ⟨ta,tc,rfl,htc,_⟩:=hr.r
 have hla:=hr.a.lens
 have hlk:=hr.k.lens
 have hlp:=hr.p.lens
 obtain ⟨tn,htn⟩:∃ tn,r.res.length=tn:=⟨_,rfl⟩
 obtain ⟨rn,hrn⟩:∃ rn,rs.length=rn:=⟨_,rfl⟩
 have HL:Hid (an=r.ante.length∧kn=r.key.length∧pn=r.post.length∧r.res.length=tn∧rs.length=rn):=⟨hla.1,hlk.1,hlp.1,htn,hrn⟩
 have hka8:kn≤8:=by have:=ho.k8;omega
 have haa8:an≤8:=by have:=ho.a8;omega
 have hpp8:pn≤8:=by have:=ho.p8;omega
 have htt:tn≤16:=by have:=ho.r16;omega
 have hkc:=hlk.2
 have hac:=hla.2
 have hpc:=hlp.2
 have htc':tn≤tc:=by omega
 rw [hE]
 obtain ⟨cu,hcu⟩:∃ cu,r.cu=cu:=⟨_,rfl⟩
 have HCU:Hid (r.cu=cu):=hcu
 rw [hrn,htn] at HC
 rw [hrn,htn,hcu] at hW1
 rw [hrn,htn,hcu]
 obtain ⟨x0,y0,y1,y2,y3,y4,y5,y6⟩:=HC.out.cells (Below.refl _ W1)
 rw [hcu] at y6
 clear hr ho hos hn hE hb1 hk1 hk2 hla hlk hlp htn hrn hcu htc
 have Hfin:Hid (∀ (X:Int) (W:World),Below W1.heap.size W1 W→E=X→(Ending.returned (.int .i64 X)=Ending.returned (.int .i64 E)∧Below w.heap.size w W)):=fun X W hb e=>⟨by rw [e],HC.out.bel.trans (hb.mono HC.out.bel.size)⟩
 go_enter Tryz.func74,Tryz.ntmps74
 by_cases hP:tn=0
 · have d1:((tn:Int) == 0)=true:=by simp [hP]
   have HX:Hid (E=191):=by
    show E=191
    rw [←HC.out.e,ralE,if_pos (.inl (by rw [HL.out.2.2.2.1,hP]))]
   clear hP
   go_wp2
   go_ret
   exact Hfin.out 191 _ (Below.refl _ _) HX.out
 by_cases hQ:cu<(tn:Int)
 · have d1:((tn:Int) == 0)=false:=by simp;omega
   have HX:Hid (E=191):=by
    show E=191
    rw [←HC.out.e,ralE,if_pos (.inr (by rw [HL.out.2.2.2.1,HCU.out];exact hQ))]
   clear hP
   go_wp2
   go_ret
   exact Hfin.out 191 _ (Below.refl _ _) HX.out
 have d1:((tn:Int) == 0)=false:=by simp;omega
 have HE1:Hid (E=if (img r).any (fun l=>metB l straysL)=true then 191 else if 8<tn then 194 else if telB r r.key.length=false then 192 else if r.ante.any (cmeet rs)=true then 190 else if r.post.any (cmeet rs)=true then 190 else 0):=by
  show E=_
  rw [←HC.out.e,ralE,if_neg (by rw [HL.out.2.2.2.1,HCU.out];omega),HL.out.2.2.2.1]
 have HIM:Hid (Calls Tryz.prog 46 #[.agg #[.bool r.bg,.slice aa an ac,.slice ka kn kc,.slice pa pn pc,.bool r.en,.slice ta tn tc,.int .i64 cu]] W1 fun e w'=>∃ y1 y2 y3,e = .returned (.slice y1 y2 y3)∧SR w' (.slice y1 y2 y3) (img r)∧Below W1.heap.size W1 w'):=by
  have:=rimageR_any r _ _ _ _ w W1 HC.out.rr HC.out.bel HC.out.ok
  rw [HCU.out] at this
  refine this.mono ?_
  rintro e w' ⟨y1,y2,y3,rfl,h1,h2⟩
  exact ⟨y1,y2,y3,rfl,h1.now,h2⟩
 clear hP
 go_wp2_with fail
 refine HIM.out.mono ?_
 rintro e w2 ⟨ia,im,ic,rfl,hsr,hb2⟩
 have hil:=hsr.lens
 have hic:=hil.2
 have him:im≤16:=by rw [hil.1,img_len,HL.out.2.2.2.1];exact htt
 have H2:Hid (SR w2 (.slice ia im ic) (img r)∧Below W1.heap.size W1 w2∧im=(img r).length):=⟨hsr,hb2,hil.1⟩
 have HA0:Hid (Below w2.heap.size w2 w2∧∀ (i:Nat) l,i<0→(img r)[i]? = some l→metB l straysL=false):=⟨Below.refl _ _,fun i l h=>by omega⟩
 clear hsr hb2 hil HIM x0 y0 y1 y2 y3 y4 y5 y6 hW1
 go_wp2
 go_loopw [6] (fun vi wr=>∃ k:Nat,vi = .int .i64 k∧k≤im∧Hid (Below w2.heap.size w2 wr∧∀ (i:Nat) l,i<k→(img r)[i]? = some l→metB l straysL=false)) (fun vi _=>im - (intOf vi).toNat)
 case atStart=>exact ⟨0,rfl,by omega,HA0.out⟩
 case round=>
  obtain ⟨k,rfl,hk,HB⟩:=hrel
  obtain ⟨wa,hwa⟩:∃ x,x=wr:=⟨_,rfl⟩
  subst hwa
  clear HA0
  by_cases hlt:k<im
  · have hlt':(k:Int)<(im:Int):=by omega
    have hpos:(0:Int)≤(k:Int):=by omega
    have hkl:k<(img r).length:=by rw [←H2.out.2.2];exact hlt
    obtain ⟨g5,o5,u1,u2,u3,rfl,hcl,hRs⟩:=H2.out.1.at hkl
    have cl:=cell_below hcl HB.out.1 (Nat.le_refl _)
    obtain ⟨l,hl⟩:∃ l,(img r)[k]'hkl=l:=⟨_,rfl⟩
    have hat:=List.getElem?_eq_getElem hkl
    rw [hl] at hRs hat
    have hokl:=img_ok HC.out.ok l (List.mem_of_getElem? hat)
    obtain ⟨M,hM⟩:∃ M,metB l straysL=M:=⟨_,rfl⟩
    have HM:Hid (∀ W s1 s2 s3,Below wa.heap.size wa W→Rs W (.slice s1 s2 s3) straysL→Calls Tryz.prog 104 #[.slice u1 u2 u3,.slice s1 s2 s3] W fun e w'=>e = .returned (.bool M)∧Below W.heap.size W w'):=fun W s1 s2 s3 hb hs=>by
     rw [←hM]
     exact rmeetT_any W _ _ l straysL (hRs.below (HB.out.1.trans (hb.mono HB.out.1.size)) (Nat.le_refl _)) hs (okS_up hokl) straysL_up (by have:=okS_512 hokl;omega) (by simp [straysL])
    have HLL:Hid ((img r)[k]? = some l∧metB l straysL=M):=⟨hat,hM⟩
    have HST:=Hid.mk' (fun W=>rstrays_any W)
    have cl':∀ W,Below wa.heap.size wa W→W.cell? ⟨g5,o5+k,none⟩=some (.slice u1 u2 u3):=fun W hb=>cell_below cl hb (Nat.le_refl _)
    have HCL:=hidT cl'
    clear hcl hRs hl hat hokl hM hkl cl'
    go_upto_region 7 with fail
    go_cut [37] (fun s wx=>s = .bool M∧Hid (Below wa.heap.size wa wx))
    case first=>
     go_region_law (first
      | (go_simp;go_at_call 105;go_must (refine (HST.out _).mono ?_;rintro e w5 ⟨s1,s2,s3,rfl,hs5,hb5⟩;have H5:Hid (Rs w5 (.slice s1 s2 s3) straysL∧Below wa.heap.size wa w5):=(by first | exact ⟨hs5,hb5⟩ | exact ⟨hs5,((Below.refl _ wa).drew).trans hb5⟩);have cl5:=HCL.out w5 H5.out.2;clear hs5 hb5))
      | (go_simp;go_at_call 104;go_must (refine (HM.out w5 s1 s2 s3 H5.out.2 H5.out.1).mono ?_;rintro e w6 ⟨rfl,hb6⟩;have H6:=hidT (H5.out.2.trans (hb6.mono H5.out.2.size));clear hb6)))
     all_goals
      go_wp2
      go_meet
      exact ⟨rfl,H6.out⟩
    case rest=>
     obtain ⟨hcs,hcw⟩:=hcut
     subst hcs
     have HB3:Hid (Below w2.heap.size w2 wc):=HB.out.1.trans (hcw.out.mono HB.out.1.size)
     clear hcw HM HST HCL cl
     cases M with
     | true=>
      have HX:Hid (E=191):=by
       show E=191
       rw [HE1.out,if_pos (any_yes HLL.out.1 HLL.out.2)]
      clear HB
      go_wp2
      go_ret
      exact Hfin.out 191 _ (H2.out.2.1.trans (HB3.out.mono H2.out.2.1.size)) HX.out
     | false=>
      have HF:Hid (Below w2.heap.size w2 wc∧∀ (i:Nat) l,i<k+1→(img r)[i]? = some l→metB l straysL=false):=⟨HB3.out,fun i l' hi h=>by
       by_cases h1:i<k
       · exact HB.out.2 i l' h1 h
       · have h2:i=k:=by omega
         subst h2
         have:=HLL.out.1.symm.trans h
         injection this with this
         rw [←this,HLL.out.2]⟩
      clear HB HLL
      go_wp2
      exact ⟨⟨k+1,by go_num,by omega,HF⟩,by simp [intOf];omega⟩
  · have HE2:Hid (E=if 8<tn then 194 else if telB r r.key.length=false then 192 else if r.ante.any (cmeet rs)=true then 190 else if r.post.any (cmeet rs)=true then 190 else 0):=by
     show E=_
     rw [HE1.out,any_no (fun i l hi h=>HB.out.2 i l (by have:=H2.out.2.2;omega) h),if_neg (by simp)]
    have HBA:Hid (Below W1.heap.size W1 wa):=H2.out.2.1.trans (HB.out.1.mono H2.out.2.1.size)
    obtain ⟨x0,y0,y1,y2,y3,y4,y5,y6⟩:=HC.out.cells HBA.out
    rw [HCU.out] at y6
    clear HB HE1 H2
    by_cases h8:8<tn
    · have h8':(8:Int)<(tn:Int):=by omega
      have HX:Hid (E=194):=by
       show E=194
       rw [HE2.out,if_pos h8]
      clear h8
      go_wp2
      go_ret
      exact Hfin.out 194 _ HBA.out HX.out
    have h8':¬ (8:Int)<(tn:Int):=by omega
    have HE3:Hid (E=if telB r r.key.length=false then 192 else if r.ante.any (cmeet rs)=true then 190 else if r.post.any (cmeet rs)=true then 190 else 0):=by
     show E=_
     rw [HE2.out,if_neg h8]
    have HK0:Hid (Below wa.heap.size wa wa∧∀ (p:Nat) S,p<0→r.key[p]? = some S→plcB r S p=true):=⟨Below.refl _ _,fun p S h=>by omega⟩
    clear HE2 h8
    go_wp2
    clear x0 y0 y1 y2 y3 y4 y5 y6
    go_loopw [7] (fun vi wr=>∃ k:Nat,vi = .int .i64 k∧k≤kn∧Hid (Below wa.heap.size wa wr∧∀ (p:Nat) S,p<k→r.key[p]? = some S→plcB r S p=true)) (fun vi _=>kn - (intOf vi).toNat)
    case atStart=>exact ⟨0,rfl,by omega,HK0.out⟩
    case round=>
     obtain ⟨j,rfl,hj,HJ⟩:=hrel
     obtain ⟨wb,hwb⟩:∃ x,x=wr:=⟨_,rfl⟩
     subst hwb
     clear HK0
     have HBB:Hid (Below W1.heap.size W1 wb∧Below w.heap.size w wb):=by
      have h1:=HBA.out.trans (HJ.out.1.mono HBA.out.size)
      exact ⟨h1,HC.out.bel.trans (h1.mono HC.out.bel.size)⟩
     obtain ⟨x0,y0,y1,y2,y3,y4,y5,y6⟩:=HC.out.cells HBB.out.1
     rw [HCU.out] at y6
     by_cases hjl:j<kn
     · have hjl':(j:Int)<(kn:Int):=by omega
       have hjpos:(0:Int)≤(j:Int):=by omega
       have hjk:j<r.key.length:=by rw [←HL.out.2.1];exact hjl
       obtain ⟨g5,o5,u1,u2,u3,rfl,hcl,hRs⟩:=HC.out.rr.k.at hjk
       obtain ⟨S,hS⟩:∃ S,r.key[j]'hjk=S:=⟨_,rfl⟩
       have hat:=List.getElem?_eq_getElem hjk
       rw [hS] at hRs hat
       obtain ⟨L,hL⟩:∃ L,(spk r j r.res.length).getLastD (-1)=L:=⟨_,rfl⟩
       obtain ⟨N,hN⟩:∃ N,(spk r j r.res.length).length=N:=⟨_,rfl⟩
       have hN16:N≤16:=by have:=spk_len r j r.res.length;have:=HC.out.ok.r16;omega
       obtain ⟨G,hG⟩:∃ G,decide (lenU S=1)=G:=⟨_,rfl⟩
       have HSP:Hid (Calls Tryz.prog 77 #[.agg #[.bool r.bg,.slice aa an ac,.slice (some ⟨g5,o5,none⟩) kn kc,.slice pa pn pc,.bool r.en,.slice ta tn tc,.int .i64 cu],.int .i64 j] wb fun e w'=>e = .returned (.tuple #[.int .i64 L,.int .i64 N])∧Below wb.heap.size wb w'):=by
        have:=rspeaks_any r _ _ _ _ j wb (HC.out.rr.below HBB.out.2 (Nat.le_refl _)) HC.out.ok.r16
        rw [HCU.out,hL,hN] at this
        exact this
       have HSG:Hid (∀ W,Below wb.heap.size wb W→Calls Tryz.prog 76 #[.slice u1 u2 u3] W fun e w'=>e = .returned (.bool G)∧Grown W w'):=fun W hb=>by
        rw [←hG]
        exact rsingle_any _ S W (hRs.below (HBB.out.2.trans (hb.mono HBB.out.2.size)) (Nat.le_refl _))
       have HSS:Hid (r.key[j]? = some S∧plcB r S j=(G || decide (N=1))∧(∀ W,Below wb.heap.size wb W→W.cell? ⟨g5,o5+j,none⟩=some (.slice u1 u2 u3))):=⟨hat,by rw [plcB,hG,hN],fun W hb=>cell_below hcl (HBB.out.2.trans (hb.mono HBB.out.2.size)) (Nat.le_refl _)⟩
       clear hcl hRs hS hat hL hN hG hjk
       go_wp2_with fail
       refine HSP.out.mono ?_
       rintro e w3 ⟨rfl,hb3⟩
       have HB3:Hid (Below wb.heap.size wb w3∧Below W1.heap.size W1 w3):=⟨hb3,HBB.out.1.trans (hb3.mono HBB.out.1.size)⟩
       have cu3:=HSS.out.2.2 w3 hb3
       clear x0 y0 y1 y2 y3 y4 y5 y6 hb3 HSP
       obtain ⟨x0,y0,y1,y2,y3,y4,y5,y6⟩:=HC.out.cells HB3.out.2
       go_wp2_with fail
       refine (HSG.out w3 HB3.out.1).mono ?_
       rintro e w4 ⟨rfl,hg4⟩
       have HB4:Hid (Below wa.heap.size wa w4∧Below W1.heap.size W1 w4):=⟨HJ.out.1.trans ((HB3.out.1.trans (hg4.below.mono HB3.out.1.size)).mono HJ.out.1.size),HB3.out.2.trans (hg4.below.mono HB3.out.2.size)⟩
       clear x0 y0 y1 y2 y3 y4 y5 y6 hg4 HSG cu3
       have hmore:plcB r S j=true→Hid (Below wa.heap.size wa w4∧∀ (p:Nat) S,p<j+1→r.key[p]? = some S→plcB r S p=true):=fun hp=>⟨HB4.out.1,fun p S' hi h=>by
        by_cases h1:p<j
        · exact HJ.out.2 p S' h1 h
        · have h2:p=j:=by omega
          subst h2
          have:=HSS.out.1.symm.trans h
          injection this with this
          rw [←this];exact hp⟩
       have HMO:=hidT hmore
       clear hmore
       cases G with
       | true=>
        have HF:=HMO.out (by rw [HSS.out.2.1];rfl)
        clear HJ HSS HMO
        go_wp2
        exact ⟨⟨j+1,by go_num,by omega,HF⟩,by simp [intOf];omega⟩
       | false=>
        by_cases hN1:N=1
        · have d2:((N:Int) != 1)=false:=by simp [hN1]
          have HF:=HMO.out (by rw [HSS.out.2.1,hN1];rfl)
          clear HJ HSS HMO hN1
          go_wp2
          exact ⟨⟨j+1,by go_num,by omega,HF⟩,by simp [intOf];omega⟩
        · have d2:((N:Int) != 1)=true:=by simp;omega
          have HX:Hid (E=192):=by
           show E=192
           rw [HE3.out,if_pos (telB_no r HSS.out.1 (by rw [HSS.out.2.1];simp [hN1]))]
          clear HJ HSS HMO hN1
          go_wp2
          go_ret
          exact Hfin.out 192 _ HB4.out.2 HX.out
     · have HE4:Hid (E=if r.ante.any (cmeet rs)=true then 190 else if r.post.any (cmeet rs)=true then 190 else 0):=by
        show E=_
        rw [HE3.out,if_neg (by
         have:telB r r.key.length=true:=by
          unfold telB
          rw [List.all_eq_true]
          intro p hp
          have hp':=List.mem_range.1 hp
          rw [List.getElem?_eq_getElem hp']
          exact HJ.out.2 p _ (by have:=HL.out.2.1;omega) (List.getElem?_eq_getElem hp')
         rw [this];simp)]
       have HC0:Hid (Below wb.heap.size wb wb∧∀ (i:Nat) l,i<0→r.ante[i]? = some l→cmeet rs l=false):=⟨Below.refl _ _,fun i l h=>by omega⟩
       clear HJ HE3
       go_wp2
       clear x0 y0 y1 y2 y3 y4 y5 y6
       go_loopw [10] (fun vi wr=>∃ k:Nat,vi = .int .i64 k∧k≤an∧Hid (Below wb.heap.size wb wr∧∀ (i:Nat) l,i<k→r.ante[i]? = some l→cmeet rs l=false)) (fun vi _=>an - (intOf vi).toNat)
       case atStart=>exact ⟨0,rfl,by omega,HC0.out⟩
       case round=>
        obtain ⟨k1,rfl,hk1,HI⟩:=hrel
        obtain ⟨wd,hwd⟩:∃ x,x=wr:=⟨_,rfl⟩
        subst hwd
        clear HC0
        have HBD:Hid (Below W1.heap.size W1 wd∧Below w.heap.size w wd):=by
         have h1:=HBB.out.1.trans (HI.out.1.mono HBB.out.1.size)
         exact ⟨h1,HC.out.bel.trans (h1.mono HC.out.bel.size)⟩
        obtain ⟨x0,y0,y1,y2,y3,y4,y5,y6⟩:=HC.out.cells HBD.out.1
        rw [HCU.out] at y6
        by_cases hkl1:k1<an
        · have hkl1':(k1:Int)<(an:Int):=by omega
          have hkpos1:(0:Int)≤(k1:Int):=by omega
          have hka:k1<r.ante.length:=by rw [←HL.out.1];exact hkl1
          obtain ⟨g5,o5,u1,u2,u3,rfl,hcl,hRs⟩:=HC.out.rr.a.at hka
          obtain ⟨S,hS⟩:∃ S,r.ante[k1]'hka=S:=⟨_,rfl⟩
          have hat:=List.getElem?_eq_getElem hka
          rw [hS] at hRs hat
          obtain ⟨M,hM⟩:∃ M,cmeet rs S=M:=⟨_,rfl⟩
          have cl:=cell_below hcl HBD.out.2 (Nat.le_refl _)
          have HM:Hid (∀ W,Below wd.heap.size wd W→Calls Tryz.prog 106 #[.agg #[.slice ra rn rc],.slice u1 u2 u3] W fun e w'=>e = .returned (.bool M)∧Below W.heap.size W w'):=fun W hb=>
           HC.out.meets (HBD.out.1.trans (hb.mono HBD.out.1.size)) (hRs.below (HBD.out.2.trans (hb.mono HBD.out.2.size)) (Nat.le_refl _)) (List.all_eq_true.1 HC.out.ok.aS _ (List.mem_of_getElem? hat)) hM
          have HLL:Hid (r.ante[k1]? = some S∧cmeet rs S=M):=⟨hat,hM⟩
          clear hcl hRs hS hat hM hka
          go_upto_region 20 with fail
          go_cut [79] (fun s wx=>s = .bool M∧Hid (Below wd.heap.size wd wx))
          case first=>
           go_region_law (go_simp;go_at_call 106;go_must (refine (HM.out _ (by first | exact Below.refl _ _ | exact (Below.refl _ wd).drew)).mono ?_;rintro e w6 ⟨rfl,hb6⟩;have H6:Hid (Below wd.heap.size wd w6):=(by first | exact hb6 | exact ((Below.refl _ wd).drew).trans hb6);clear hb6))
           all_goals
            go_wp2
            go_meet
            exact ⟨rfl,H6.out⟩
          case rest=>
           obtain ⟨hcs,hcw⟩:=hcut
           subst hcs
           have HB6:Hid (Below wb.heap.size wb wc∧Below W1.heap.size W1 wc):=⟨HI.out.1.trans (hcw.out.mono HI.out.1.size),HBD.out.1.trans (hcw.out.mono HBD.out.1.size)⟩
           clear hcw HM cl x0 y0 y1 y2 y3 y4 y5 y6
           cases M with
           | true=>
            have HX:Hid (E=190):=by
             show E=190
             rw [HE4.out,if_pos (any_yes HLL.out.1 HLL.out.2)]
            clear HI
            go_wp2
            go_ret
            exact Hfin.out 190 _ HB6.out.2 HX.out
           | false=>
            have HF:Hid (Below wb.heap.size wb wc∧∀ (i:Nat) l,i<k1+1→r.ante[i]? = some l→cmeet rs l=false):=⟨HB6.out.1,fun i l' hi h=>by
             by_cases h1:i<k1
             · exact HI.out.2 i l' h1 h
             · have h2:i=k1:=by omega
               subst h2
               have:=HLL.out.1.symm.trans h
               injection this with this
               rw [←this,HLL.out.2]⟩
            clear HI HLL
            go_wp2
            exact ⟨⟨k1+1,by go_num,by omega,HF⟩,by simp [intOf];omega⟩
        · have HE5:Hid (E=if r.post.any (cmeet rs)=true then 190 else 0):=by
           show E=_
           rw [HE4.out,any_no (fun i l hi h=>HI.out.2 i l (by have:=HL.out.1;omega) h),if_neg (by simp)]
          have HC1:Hid (Below wd.heap.size wd wd∧∀ (i:Nat) l,i<0→r.post[i]? = some l→cmeet rs l=false):=⟨Below.refl _ _,fun i l h=>by omega⟩
          clear HI HE4
          go_wp2
          clear x0 y0 y1 y2 y3 y4 y5 y6
          go_loopw [11] (fun vi wr=>∃ k:Nat,vi = .int .i64 k∧k≤pn∧Hid (Below wd.heap.size wd wr∧∀ (i:Nat) l,i<k→r.post[i]? = some l→cmeet rs l=false)) (fun vi _=>pn - (intOf vi).toNat)
          case atStart=>exact ⟨0,rfl,by omega,HC1.out⟩
          case round=>
           obtain ⟨k2,rfl,hk2,HJ2⟩:=hrel
           obtain ⟨we,hwe⟩:∃ x,x=wr:=⟨_,rfl⟩
           subst hwe
           clear HC1
           have HBE:Hid (Below W1.heap.size W1 we∧Below w.heap.size w we):=by
            have h1:=HBD.out.1.trans (HJ2.out.1.mono HBD.out.1.size)
            exact ⟨h1,HC.out.bel.trans (h1.mono HC.out.bel.size)⟩
           obtain ⟨x0,y0,y1,y2,y3,y4,y5,y6⟩:=HC.out.cells HBE.out.1
           rw [HCU.out] at y6
           by_cases hkl2:k2<pn
           · have hkl2':(k2:Int)<(pn:Int):=by omega
             have hkpos2:(0:Int)≤(k2:Int):=by omega
             have hkb:k2<r.post.length:=by rw [←HL.out.2.2.1];exact hkl2
             obtain ⟨g5,o5,u1,u2,u3,rfl,hcl,hRs⟩:=HC.out.rr.p.at hkb
             obtain ⟨S,hS⟩:∃ S,r.post[k2]'hkb=S:=⟨_,rfl⟩
             have hat:=List.getElem?_eq_getElem hkb
             rw [hS] at hRs hat
             obtain ⟨M,hM⟩:∃ M,cmeet rs S=M:=⟨_,rfl⟩
             have cl:=cell_below hcl HBE.out.2 (Nat.le_refl _)
             have HM:Hid (∀ W,Below we.heap.size we W→Calls Tryz.prog 106 #[.agg #[.slice ra rn rc],.slice u1 u2 u3] W fun e w'=>e = .returned (.bool M)∧Below W.heap.size W w'):=fun W hb=>
              HC.out.meets (HBE.out.1.trans (hb.mono HBE.out.1.size)) (hRs.below (HBE.out.2.trans (hb.mono HBE.out.2.size)) (Nat.le_refl _)) (List.all_eq_true.1 HC.out.ok.pS _ (List.mem_of_getElem? hat)) hM
             have HLL:Hid (r.post[k2]? = some S∧cmeet rs S=M):=⟨hat,hM⟩
             clear hcl hRs hS hat hM hkb
             go_upto_region 25 with fail
             go_cut [93] (fun s wx=>s = .bool M∧Hid (Below we.heap.size we wx))
             case first=>
              go_region_law (go_simp;go_at_call 106;go_must (refine (HM.out _ (by first | exact Below.refl _ _ | exact (Below.refl _ we).drew)).mono ?_;rintro e w6 ⟨rfl,hb6⟩;have H6:Hid (Below we.heap.size we w6):=(by first | exact hb6 | exact ((Below.refl _ we).drew).trans hb6);clear hb6))
              all_goals
               go_wp2
               go_meet
               exact ⟨rfl,H6.out⟩
             case rest=>
              obtain ⟨hcs,hcw⟩:=hcut
              subst hcs
              have HB6:Hid (Below wd.heap.size wd wc∧Below W1.heap.size W1 wc):=⟨HJ2.out.1.trans (hcw.out.mono HJ2.out.1.size),HBE.out.1.trans (hcw.out.mono HBE.out.1.size)⟩
              clear hcw HM cl x0 y0 y1 y2 y3 y4 y5 y6
              cases M with
              | true=>
               have HX:Hid (E=190):=by
                show E=190
                rw [HE5.out,if_pos (any_yes HLL.out.1 HLL.out.2)]
               clear HJ2
               go_wp2
               go_ret
               exact Hfin.out 190 _ HB6.out.2 HX.out
              | false=>
               have HF:Hid (Below wd.heap.size wd wc∧∀ (i:Nat) l,i<k2+1→r.post[i]? = some l→cmeet rs l=false):=⟨HB6.out.1,fun i l' hi h=>by
                by_cases h1:i<k2
                · exact HJ2.out.2 i l' h1 h
                · have h2:i=k2:=by omega
                  subst h2
                  have:=HLL.out.1.symm.trans h
                  injection this with this
                  rw [←this,HLL.out.2]⟩
               clear HJ2 HLL
               go_wp2
               exact ⟨⟨k2+1,by go_num,by omega,HF⟩,by simp [intOf];omega⟩
           · have HX:Hid (E=0):=by
              show E=0
              rw [HE5.out,any_no (fun i l hi h=>HJ2.out.2 i l (by have:=HL.out.2.2.1;omega) h),if_neg (by simp)]
             clear HJ2 HE5
             go_wp2
             go_ret
             exact Hfin.out 0 _ HBE.out.1 HX.out
end Go.Proofs
