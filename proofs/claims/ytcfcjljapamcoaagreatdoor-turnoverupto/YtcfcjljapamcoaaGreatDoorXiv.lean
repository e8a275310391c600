/-
  check 40: what stands in the way: the document's.
-/
import Derived.Test.YtcfcjljapamcoaaGreatDoorXhv
import Derived.Test.YtcfcjljapamcoaaGreatDoorMgkv
namespace Go.Proofs
open Go.RowKit Go.Shelf
set_option maxRecDepth 100000
attribute [local go_sem] Oper.semAt_some
inductive ChkG (f:Rl→Int) (rs:List Rl):Int→Int→Prop
 | wrong (k:Nat) (r:Rl):rs[k]? = some r→(∀ i x,i<k→rs[i]? = some x→f x=0)→f r≠0→ChkG f rs k (f r)
 | clash (k i:Nat) (r x:Rl):(∀ y∈rs,f y=0)→rs[k]? = some r→rs[i]? = some x→i<k→NC rs k→(∀ i' x',i'<i→rs[i']? = some x'→clsE x' r=0)→clsE x r≠0→ChkG f rs k (clsE x r)
 | fine:(∀ y∈rs,f y=0)→NC rs rs.length→ChkG f rs 0 0
def RchP (rs:List Rl) (n c:Int):Prop:=((chkW rs).2≠0∧n=(chkW rs).1∧c=(chkW rs).2)∨((chkW rs).2=0∧ChkG (ralE rs) rs n c)
def RchQ (w:World) (rs:List Rl) (e:Ending) (w':World):Prop:=∃ n c,e = .returned (.tuple #[.int .i64 n,.int .i64 c])∧RchP rs n c∧Below w.heap.size w w'
set_option maxHeartbeats 16000000 in
theorem rchk40_any (rv:Value) (rs:List Rl) (w:World) (h:PsR w rv rs):Calls Tryz.prog 40 #[.agg #[rv]] w (RchQ w rs):=by
 obtain ⟨ra,rc,rfl,hrc,hro⟩:=h
 obtain ⟨n,hn⟩:∃ n,rs.length=n:=⟨_,rfl⟩
 have hps:PsR w (.slice ra n rc) rs:=⟨ra,rc,by rw [hn],hrc,hro⟩
 obtain ⟨W1,hW1⟩:∃ W1,w.alloc (.cells #[.slice ra n rc] 24)=W1:=⟨_,rfl⟩
 have hb1:Below w.heap.size w W1:=by rw [←hW1];exact (Below.refl _ w).alloc (Nat.le_refl _) _
 have hk1:W1.heap[w.heap.size]? = some (.cells #[.slice ra n rc] 24 (0,0)):=by rw [←hW1];exact al_new _ _ rfl
 obtain ⟨E1,hE1⟩:∃ E1,(chkW rs).1=E1:=⟨_,rfl⟩
 obtain ⟨E2,hE2⟩:∃ E2,(chkW rs).2=E2:=⟨_,rfl⟩
 have HC:Hid (Calls Tryz.prog 22 #[.agg #[.slice ra n rc]] W1 fun e w'=>e = .returned (.tuple #[.int .i64 E1,.int .i64 E2])∧Below W1.heap.size W1 w'):=by
  have:=rchkA _ rs W1 (hps.below hb1 (Nat.le_refl _))
  rw [hE1,hE2] at this
  exact this
 have x0:W1.cell? ⟨w.heap.size,0,none⟩=some (.slice ra n rc):=by rw [cell_of hk1];rfl
 have H:Hid (rs.length=n∧Below w.heap.size w W1∧(∀ W,Below W1.heap.size W1 W→W.cell? ⟨w.heap.size,0,none⟩=some (.slice ra n rc))∧PsR w (.slice ra n rc) rs∧(rs=[]∨∃ g o,ra=some ⟨g,o,none⟩∧∀ (j:Nat) (hj:j<rs.length),RAt w g (o+j*7) rs[j])∧(chkW rs).1=E1∧(chkW rs).2=E2):=⟨hn,hb1,fun W hb=>cell_below x0 hb (Nat.le_refl _),hps,hro,hE1,hE2⟩
 have hncap:n≤rc:=by omega
 rw [hn]
 clear hps hb1 hk1 hE1 hE2 hro hrc hn
 go_enter Tryz.func40,Tryz.ntmps40
 go_wp2_with fail
 refine HC.out.mono ?_
 rintro e w1 ⟨rfl,hb⟩
 have HB1:Hid (Below W1.heap.size W1 w1∧Below w.heap.size w w1):=⟨hb,H.out.2.1.trans (hb.mono H.out.2.1.size)⟩
 clear hb HC x0 hW1
 by_cases h0:E2=0
 · have d0:(E2 != 0)=false:=by simp [h0]
   have HO:=hidT (chkW_zero (H.out.2.2.2.2.2.2.trans h0))
   have HZ:Hid ((chkW rs).2=0):=H.out.2.2.2.2.2.2.trans h0
   have hn256:n≤256:=by have h1:=HO.out.1;have h2:=H.out.1;omega
   have HA0:Hid (Below w1.heap.size w1 w1∧∀ (i:Nat) x,i<0→rs[i]? = some x→ralE rs x=0):=⟨Below.refl _ _,fun i x h=>by omega⟩
   clear h0
   go_wp2
   go_loopw [6] (fun vi wr=>∃ k:Nat,vi = .int .i64 k∧k≤n∧Hid (Below w1.heap.size w1 wr∧∀ (i:Nat) x,i<k→rs[i]? = some x→ralE rs x=0)) (fun vi _=>n - (intOf vi).toNat)
   case atStart=>exact ⟨0,rfl,by omega,HA0.out⟩
   case round=>
    obtain ⟨k,rfl,hk,HB⟩:=hrel
    obtain ⟨wa,hwa⟩:∃ x,x=wr:=⟨_,rfl⟩
    subst hwa
    clear HA0
    have HBW:Hid (Below W1.heap.size W1 wa∧Below w.heap.size w wa):=⟨HB1.out.1.trans (HB.out.1.mono HB1.out.1.size),HB1.out.2.trans (HB.out.1.mono HB1.out.2.size)⟩
    have x0:=H.out.2.2.1 wa HBW.out.1
    by_cases hlt:k<n
    · have hlt':(k:Int)<(n:Int):=by omega
      have hpos:(0:Int)≤(k:Int):=by omega
      have hkl:k<rs.length:=by rw [H.out.1];exact hlt
      obtain ⟨g,o,rfl,hRA⟩:=H.out.2.2.2.2.1.resolve_left (by rintro rfl;simp at hkl)
      obtain ⟨av,kv,pv,rv,p0,p1,p2,p3,p4,p5,p6,hRR⟩:=hRA k hkl
      have hat:=List.getElem?_eq_getElem hkl
      have hok:=HO.out.2 _ (List.getElem_mem hkl)
      have q0:=cell_below p0 HBW.out.2 (Nat.le_refl _)
      have q1:=cell_below p1 HBW.out.2 (Nat.le_refl _)
      have q2:=cell_below p2 HBW.out.2 (Nat.le_refl _)
      have q3:=cell_below p3 HBW.out.2 (Nat.le_refl _)
      have q4:=cell_below p4 HBW.out.2 (Nat.le_refl _)
      have q5:=cell_below p5 HBW.out.2 (Nat.le_refl _)
      have q6:=cell_below p6 HBW.out.2 (Nat.le_refl _)
      obtain ⟨r,hre⟩:∃ r,rs[k]'hkl=r:=⟨_,rfl⟩
      rw [hre] at q0 q4 q6 hRR hok hat
      clear p0 p1 p2 p3 p4 p5 p6
      obtain ⟨F,hF⟩:∃ F,ralE rs r=F:=⟨_,rfl⟩
      have HAL:Hid (∀ W,Below wa.heap.size wa W→Calls Tryz.prog 74 #[.agg #[.slice (some ⟨g,o,none⟩) n rc],.agg #[.bool r.bg,av,kv,pv,.bool r.en,rv,.int .i64 r.cu]] W fun e w'=>e = .returned (.int .i64 F)∧Below W.heap.size W w'):=fun W hb=>by
       have hbw:=HBW.out.2.trans (hb.mono HBW.out.2.size)
       rw [←hF]
       exact alone_any _ _ _ _ _ rs r W (H.out.2.2.2.1.below hbw (Nat.le_refl _)) (hRR.below hbw (Nat.le_refl _)) HO.out.1 HO.out.2 hok
      obtain ⟨aa,an,ac,rfl⟩:=hRR.a.sl
      obtain ⟨ka,kn,kc,rfl⟩:=hRR.k.sl
      obtain ⟨pa,pn,pc,rfl⟩:=hRR.p.sl
      obtain ⟨ta,tn,tc,rfl⟩:=hRR.r.sl
      have HR:Hid (rs[k]? = some r∧ralE rs r=F):=⟨hat,hF⟩
      clear hRA hRR hat hok hre hF hkl
      go_upto_region 7 with fail
      go_cut [7] (fun s wx=>s = .int .i64 F∧Hid (Below wa.heap.size wa wx))
      case first=>
       go_region_law (go_simp;go_at_call 74;go_must (refine (HAL.out _ (by first | exact Below.refl _ _ | exact (Below.refl _ wa).drew)).mono ?_;rintro e w6 ⟨rfl,hb6⟩;have H6:Hid (Below wa.heap.size wa w6):=(by first | exact hb6 | exact ((Below.refl _ wa).drew).trans hb6);clear hb6))
       all_goals
        go_wp2
        go_meet
        exact ⟨rfl,H6.out⟩
      case rest=>
       obtain ⟨hcs,hcw⟩:=hcut
       subst hcs
       have HB6:Hid (Below w1.heap.size w1 wc∧Below w.heap.size w wc):=⟨HB.out.1.trans (hcw.out.mono HB.out.1.size),HBW.out.2.trans (hcw.out.mono HBW.out.2.size)⟩
       clear hcw HAL q0 q1 q2 q3 q4 q5 q6 x0
       by_cases hF0:F=0
       · have d1:(F != 0)=false:=by simp [hF0]
         have HF:Hid (Below w1.heap.size w1 wc∧∀ (i:Nat) x,i<k+1→rs[i]? = some x→ralE rs x=0):=⟨HB6.out.1,fun i x hi h=>by
          by_cases h1:i<k
          · exact HB.out.2 i x h1 h
          · have h2:i=k:=by omega
            subst h2
            have:=HR.out.1.symm.trans h
            injection this with this
            rw [←this,HR.out.2,hF0]⟩
         clear HB HBW HR hF0
         go_wp2
         exact ⟨⟨k+1,by go_num,by omega,HF⟩,by simp [intOf];omega⟩
       · have d1:(F != 0)=true:=by simp [hF0]
         have HX:Hid (RchQ w rs (.returned (.tuple #[.int .i64 k,.int .i64 F])) wc):=by
          have:=ChkG.wrong (f:=ralE rs) k r HR.out.1 HB.out.2 (by rw [HR.out.2];exact hF0)
          rw [HR.out.2] at this
          exact ⟨k,F,rfl,.inr ⟨HZ.out,this⟩,HB6.out.2⟩
         clear HB HBW HR hF0
         go_wp2
         go_ret2
         exact HX.out
    · have HW0:Hid (∀ y∈rs,ralE rs y=0):=fun y hy=>by
       obtain ⟨i,hi⟩:=List.getElem?_of_mem hy
       exact HB.out.2 i y (by have h1:=(List.getElem?_eq_some_iff.1 hi).1;have:=H.out.1;omega) hi
      have HN0:Hid (Below wa.heap.size wa wa∧NC rs 0):=⟨Below.refl _ _,fun j y hj=>by omega⟩
      clear HB
      go_wp2
      clear x0
      go_loopw [8] (fun vi wr=>∃ j:Nat,vi = .int .i64 j∧j≤n∧Hid (Below wa.heap.size wa wr∧NC rs j)) (fun vi _=>n - (intOf vi).toNat)
      case atStart=>exact ⟨0,rfl,by omega,HN0.out⟩
      case round=>
       obtain ⟨j,rfl,hj,HJ⟩:=hrel
       obtain ⟨wb,hwb⟩:∃ x,x=wr:=⟨_,rfl⟩
       subst hwb
       clear HN0
       have HBB:Hid (Below W1.heap.size W1 wb∧Below w.heap.size w wb):=⟨HBW.out.1.trans (HJ.out.1.mono HBW.out.1.size),HBW.out.2.trans (HJ.out.1.mono HBW.out.2.size)⟩
       have x0:=H.out.2.2.1 wb HBB.out.1
       by_cases hjl:j<n
       · have hjl':(j:Int)<(n:Int):=by omega
         have hjpos:(0:Int)≤(j:Int):=by omega
         have hjr:j<rs.length:=by rw [H.out.1];exact hjl
         obtain ⟨g,o,rfl,hRA⟩:=H.out.2.2.2.2.1.resolve_left (by rintro rfl;simp at hjr)
         obtain ⟨av,kv,pv,rv,p0,p1,p2,p3,p4,p5,p6,hRR⟩:=hRA j hjr
         have hat:=List.getElem?_eq_getElem hjr
         have hok:=HO.out.2 _ (List.getElem_mem hjr)
         obtain ⟨r,hre⟩:∃ r,rs[j]'hjr=r:=⟨_,rfl⟩
         rw [hre] at p0 p4 p6 hRR hok hat
         obtain ⟨aa,an,ac,rfl⟩:=hRR.a.sl
         obtain ⟨ka,kn,kc,rfl⟩:=hRR.k.sl
         obtain ⟨pa,pn,pc,rfl⟩:=hRR.p.sl
         obtain ⟨ta,tn,tc,rfl⟩:=hRR.r.sl
         have HR:Hid (rs[j]? = some r∧Ok r∧RR w (.slice aa an ac) (.slice ka kn kc) (.slice pa pn pc) (.slice ta tn tc) r∧(∀ (j:Nat) (hj:j<rs.length),RAt w g (o+j*7) rs[j])):=⟨hat,hok,hRR,hRA⟩
         have HRC:Hid (∀ W,Below w.heap.size w W→W.cell? ⟨g,o+j*7,none⟩=some (.bool r.bg)∧W.cell? ⟨g,o+j*7+1,none⟩=some (.slice aa an ac)∧W.cell? ⟨g,o+j*7+2,none⟩=some (.slice ka kn kc)∧W.cell? ⟨g,o+j*7+3,none⟩=some (.slice pa pn pc)∧W.cell? ⟨g,o+j*7+4,none⟩=some (.bool r.en)∧W.cell? ⟨g,o+j*7+5,none⟩=some (.slice ta tn tc)∧W.cell? ⟨g,o+j*7+6,none⟩=some (.int .i64 r.cu)):=fun W hb=>⟨cell_below p0 hb (Nat.le_refl _),cell_below p1 hb (Nat.le_refl _),cell_below p2 hb (Nat.le_refl _),cell_below p3 hb (Nat.le_refl _),cell_below p4 hb (Nat.le_refl _),cell_below p5 hb (Nat.le_refl _),cell_below p6 hb (Nat.le_refl _)⟩
         have HI0:Hid (Below wb.heap.size wb wb∧∀ (i:Nat) x,i<0→rs[i]? = some x→clsE x r=0):=⟨Below.refl _ _,fun i x h=>by omega⟩
         clear p0 p1 p2 p3 p4 p5 p6 hRA hRR hat hok hre hjr
         go_wp2
         clear x0
         go_loopw [9] (fun vi wr=>∃ i:Nat,vi = .int .i64 i∧i≤j∧Hid (Below wb.heap.size wb wr∧∀ (i':Nat) x,i'<i→rs[i']? = some x→clsE x r=0)) (fun vi _=>j - (intOf vi).toNat)
         case atStart=>exact ⟨0,rfl,by omega,HI0.out⟩
         case round=>
          obtain ⟨i,rfl,hi,HI⟩:=hrel
          obtain ⟨wd,hwd⟩:∃ x,x=wr:=⟨_,rfl⟩
          subst hwd
          clear HI0
          have HBD:Hid (Below W1.heap.size W1 wd∧Below w.heap.size w wd):=⟨HBB.out.1.trans (HI.out.1.mono HBB.out.1.size),HBB.out.2.trans (HI.out.1.mono HBB.out.2.size)⟩
          by_cases hil:i<j
          · have hil':(i:Int)<(j:Int):=by omega
            have hipos:(0:Int)≤(i:Int):=by omega
            have hin':(i:Int)<(n:Int):=by omega
            have hir:i<rs.length:=by rw [H.out.1];omega
            have x0:=H.out.2.2.1 wd HBD.out.1
            obtain ⟨bv,lv,sv,uv,p0,p1,p2,p3,p4,p5,p6,hRR⟩:=HR.out.2.2.2 i hir
            have hat:=List.getElem?_eq_getElem hir
            have hok:=HO.out.2 _ (List.getElem_mem hir)
            obtain ⟨x,hxe⟩:∃ x,rs[i]'hir=x:=⟨_,rfl⟩
            rw [hxe] at p0 p4 p6 hRR hok hat
            obtain ⟨ba,bn,bc,rfl⟩:=hRR.a.sl
            obtain ⟨la,ln,lc,rfl⟩:=hRR.k.sl
            obtain ⟨sa,sn,sc,rfl⟩:=hRR.p.sl
            obtain ⟨ua,un,uc,rfl⟩:=hRR.r.sl
            have q0:=cell_below p0 HBD.out.2 (Nat.le_refl _)
            have q1:=cell_below p1 HBD.out.2 (Nat.le_refl _)
            have q2:=cell_below p2 HBD.out.2 (Nat.le_refl _)
            have q3:=cell_below p3 HBD.out.2 (Nat.le_refl _)
            have q4:=cell_below p4 HBD.out.2 (Nat.le_refl _)
            have q5:=cell_below p5 HBD.out.2 (Nat.le_refl _)
            have q6:=cell_below p6 HBD.out.2 (Nat.le_refl _)
            obtain ⟨y0,y1,y2,y3,y4,y5,y6⟩:=HRC.out wd HBD.out.2
            obtain ⟨F,hF⟩:∃ F,clsE x r=F:=⟨_,rfl⟩
            have HCL:Hid (∀ W,Below wd.heap.size wd W→Calls Tryz.prog 75 #[.agg #[.bool x.bg,.slice ba bn bc,.slice la ln lc,.slice sa sn sc,.bool x.en,.slice ua un uc,.int .i64 x.cu],.agg #[.bool r.bg,.slice aa an ac,.slice ka kn kc,.slice pa pn pc,.bool r.en,.slice ta tn tc,.int .i64 r.cu]] W fun e w'=>e = .returned (.int .i64 F)∧Below W.heap.size W w'):=fun W hb=>by
             have hbw:=HBD.out.2.trans (hb.mono HBD.out.2.size)
             rw [←hF]
             exact beside_any x r _ _ _ _ _ _ _ _ W (hRR.below hbw (Nat.le_refl _)) (HR.out.2.2.1.below hbw (Nat.le_refl _)) hok HR.out.2.1
            have HX:Hid (rs[i]? = some x∧clsE x r=F):=⟨hat,hF⟩
            clear p0 p1 p2 p3 p4 p5 p6 hRR hat hok hxe hF hir
            go_upto_region 16 with fail
            go_cut [10] (fun s wx=>s = .int .i64 F∧Hid (Below wd.heap.size wd wx))
            case first=>
             go_region_law (go_simp;go_at_call 75;go_must (refine (HCL.out _ (by first | exact Below.refl _ _ | exact (Below.refl _ wd).drew)).mono ?_;rintro e w6 ⟨rfl,hb6⟩;have H6:Hid (Below wd.heap.size wd w6):=(by first | exact hb6 | exact ((Below.refl _ wd).drew).trans hb6);clear hb6))
             all_goals
              go_wp2
              go_meet
              exact ⟨rfl,H6.out⟩
            case rest=>
             obtain ⟨hcs,hcw⟩:=hcut
             subst hcs
             have HB6:Hid (Below wb.heap.size wb wc∧Below w.heap.size w wc):=⟨HI.out.1.trans (hcw.out.mono HI.out.1.size),HBD.out.2.trans (hcw.out.mono HBD.out.2.size)⟩
             clear hcw HCL q0 q1 q2 q3 q4 q5 q6 y0 y1 y2 y3 y4 y5 y6 x0
             by_cases hF0:F=0
             · have d1:(F != 0)=false:=by simp [hF0]
               have HF:Hid (Below wb.heap.size wb wc∧∀ (i':Nat) x,i'<i+1→rs[i']? = some x→clsE x r=0):=⟨HB6.out.1,fun i' y hi' hy=>by
                by_cases h1:i'<i
                · exact HI.out.2 i' y h1 hy
                · have h2:i'=i:=by omega
                  subst h2
                  have:=HX.out.1.symm.trans hy
                  injection this with this
                  rw [←this,HX.out.2,hF0]⟩
               clear HI HBD HX hF0
               go_wp2
               exact ⟨⟨i+1,by go_num,by omega,HF⟩,by simp [intOf];omega⟩
             · have d1:(F != 0)=true:=by simp [hF0]
               have HQ:Hid (RchQ w rs (.returned (.tuple #[.int .i64 j,.int .i64 F])) wc):=by
                have:=ChkG.clash (f:=ralE rs) j i r x HW0.out HR.out.1 HX.out.1 hil HJ.out.2 HI.out.2 (by rw [HX.out.2];exact hF0)
                rw [HX.out.2] at this
                exact ⟨j,F,rfl,.inr ⟨HZ.out,this⟩,HB6.out.2⟩
               clear HI HBD HX hF0
               go_wp2
               go_ret2
               exact HQ.out
          · have HF:Hid (Below wa.heap.size wa wd∧NC rs (j+1)):=⟨HJ.out.1.trans (HI.out.1.mono HJ.out.1.size),fun j' y hj' hy i' x' hi' hx'=>by
             by_cases h1:j'<j
             · exact HJ.out.2 j' y h1 hy i' x' hi' hx'
             · have h2:j'=j:=by omega
               subst h2
               have:=HR.out.1.symm.trans hy
               injection this with this
               rw [←this]
               exact HI.out.2 i' x' (by omega) hx'⟩
            clear HI HJ HBD
            go_wp2
            exact ⟨⟨j+1,by go_num,by omega,HF⟩,by simp [intOf];omega⟩
       · have HQ:Hid (RchQ w rs (.returned (.tuple #[.int .i64 0,.int .i64 0])) wb):=⟨0,0,rfl,.inr ⟨HZ.out,ChkG.fine HW0.out (by
          have h1:=HJ.out.2
          have h2:=H.out.1
          rw [show j=rs.length by omega] at h1
          exact h1)⟩,HBB.out.2⟩
         clear HJ
         go_wp2
         go_ret2
         exact HQ.out
 · have d0:(E2 != 0)=true:=by simp [h0]
   have HQ:Hid (RchQ w rs (.returned (.tuple #[.int .i64 E1,.int .i64 E2])) w1):=⟨E1,E2,rfl,.inl ⟨fun h=>h0 (H.out.2.2.2.2.2.2.symm.trans h),H.out.2.2.2.2.2.1.symm,H.out.2.2.2.2.2.2.symm⟩,HB1.out.2⟩
   clear h0
   go_wp2
   go_ret2
   exact HQ.out
end Go.Proofs
