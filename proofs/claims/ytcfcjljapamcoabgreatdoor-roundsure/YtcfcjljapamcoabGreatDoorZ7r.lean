/-
  Turn 12, walked.
-/
import Derived.Test.YtcfcjljapamcoabGreatDoorZ6r
namespace Go.Proofs
open Go.RowKit Go.Shelf
set_option maxRecDepth 100000
attribute [local go_sem] Oper.semAt_some
def TrnP (rs:List Rl) (n c:Int):Prop:=((chkW rs).2≠0∧n=(chkW rs).1∧c=(chkW rs).2)∨((chkW rs).2=0∧∃ core,Up core∧(∀ u,inL core u=true↔∃ l∈rs.flatMap waS,inL l u=true)∧ChkR rs core n c)
theorem ChkR.fine0 {rs:List Rl} {core:List (Int × Int)} {n:Int} (h:ChkR rs core n 0):(∀ y∈rs,wroE y core=0)∧NC rs rs.length:=by
 generalize hc:(0:Int)=c at h
 cases h with
 | wrong k r h1 h2 h3=>exact absurd hc.symm h3
 | clash k i r x h1 h2 h3 h4 h5 h6 h7=>exact absurd hc.symm h7
 | fine h1 h2=>exact ⟨by simpa [hc] using h1,h2⟩
theorem TrnP.bk {rs:List Rl} {n:Int} (h:TrnP rs n 0):n=0∧(chkW rs).2=0∧(∀ r∈rs,Ok r∧Bk r)∧rs.length≤256:=by
 rcases h with ⟨h1,_,h2⟩ | ⟨h1,core,_,_,h2⟩
 · exact absurd h2.symm h1
 · have h3:=chkW_zero h1
   exact ⟨h2.zero,h1,fun r hr=>⟨h3.2 r hr,(wroE_bk (h2.fine0.1 r hr)).1⟩,h3.1⟩
theorem WaysR.trn {rs:List Rl} {v:Value} {n c:Int} {w':World} (h:WaysR rs v n c w'):TrnP rs n c∧(c=0→WyR w' v rs):=by
 rcases h with ⟨h1,_,h3,h4⟩ | ⟨h1,core,h2,h3,h4,h5⟩
 · exact ⟨.inl ⟨h1,h3,h4⟩,fun h=>absurd (h4.symm.trans h) h1⟩
 · refine ⟨.inr ⟨h1,core,h2,h3,h4⟩,fun hc => ?_⟩
   rcases h5 with ⟨h6,_⟩ | ⟨_,_,h6⟩
   · exact absurd hc h6
   · exact h6
def TrnQ (w:World) (rs:List Rl) (e:Ending) (w':World):Prop:=∃ y1 y2 y3 n c,e = .returned (.tuple #[.agg #[.slice y1 y2 y3],.int .i64 n,.int .i64 c])∧TrnP rs n c∧(c≠0→y1=none∧y2=0∧y3=0)∧(c=0→Rob (fun k=>k<w.heap.size) w' (fun W=>PsR W (.slice y1 y2 y3) (rs.map turnR)))∧Below w.heap.size w w'
theorem ret_turn {tmps:Array Value} {W:World} {B:Nat} {x u v:Value} {R:Ending→World→Prop} (hp:tmps.getD 2 undef = .pointer (some ⟨B,0,none⟩)) (hb:W.heap[B]? = some (.cells #[x] 24 (0,0))) (h3:tmps.getD 3 undef=u) (h4:tmps.getD 4 undef=v)
 (K:R (.returned (.tuple #[.agg #[x],u,v])) W):bodyPost Tryz.prog Tryz.f27 R Exit.ret { tmps:=tmps,defers:=[] } W:=
 bodyPost_ret (v := .tuple #[.agg #[x],u,v]) (by rw [results_cell_tmp2 rfl tmps W B _ hp (load_pass hb),h3,h4]) rfl K
set_option maxHeartbeats 8000000 in
theorem turn12_any (rv:Value) (rs:List Rl) (w:World) (hT:Tab w) (h:PsR w rv rs):Calls Tryz.prog 27 #[.agg #[rv]] w (TrnQ w rs):=by
 obtain ⟨ra,rc,rfl,hrc,hro⟩:=h
 obtain ⟨n,hn⟩:∃ n,rs.length=n:=⟨_,rfl⟩
 have hps:PsR w (.slice ra n rc) rs:=⟨ra,rc,by rw [hn],hrc,hro⟩
 rw [hn]
 obtain ⟨W1,hW1⟩:∃ W1,(w.alloc (.cells #[.slice ra n rc] 24)).alloc (.cells #[.slice none 0 0] 24)=W1:=⟨_,rfl⟩
 obtain ⟨HB1,x0,HR1⟩:=two_box w W1 (.slice ra n rc) hW1
 have hT1:Tab W1:=fun j v hv=>cell_below (hT j v hv) HB1.out (Nat.le_refl _)
 have HT1:Hid (Tab W1):=hT1
 have HC:Hid (Calls Tryz.prog 21 #[.agg #[.slice ra n rc]] W1 (WaysQ W1 rs)):=ways_any _ rs W1 hT1 (hps.below HB1.out (Nat.le_refl _))
 have HN:Hid (rs.length=n):=hn
 clear hps hro hrc hT hT1 hn
 go_enter Tryz.func27,Tryz.ntmps27
 go_wp2_with fail
 refine HC.out.mono ?_
 rintro e w2 ⟨v,i,c,rfl,hsl,hb2,hw⟩
 obtain ⟨va,vn,vc,rfl⟩:=hsl
 have htr:=hw.trn
 have HW:Hid (TrnP rs i c∧(c=0→WyR w2 (.slice va vn vc) rs)):=htr
 have HB2:Hid (Below W1.heap.size W1 w2∧Below w.heap.size w w2∧w.heap.size+1<w2.heap.size∧w2.heap[w.heap.size+1]? = some (.cells #[.slice none 0 0] 24 (0,0))):=⟨hb2,HB1.out.trans (hb2.mono HB1.out.size),Nat.lt_of_lt_of_le HR1.out.1 hb2.size,(hb2.block _ HR1.out.1).trans HR1.out.2⟩
 clear hb2 hw htr HC x0 hW1
 by_cases hc:c=0
 · have d0:(c != 0)=false:=by simp [hc]
   subst hc
   have hwy:=HW.out.2 rfl
   obtain ⟨a',cap',e,hcap,hro⟩:=hwy
   injection e with e1 e2 e3
   have e4:vn=n:=by rw [e2];exact HN.out
   subst e1 e3 e4
   clear e2
   have HO:Hid (i=0∧(chkW rs).2=0∧(∀ r∈rs,Ok r∧Bk r)∧rs.length≤256):=HW.out.1.bk
   have HWA:Hid (rs=[]∨∃ g o,va=some ⟨g,o,none⟩∧∀ (j:Nat) (hj:j<rs.length),WyAt w2 g (o+j*8) rs[j]):=hro
   have hn256:vn≤256:=by have h1:=HO.out.2.2.2;have h2:=HN.out;omega
   have hvc:vn≤vc:=by have h2:=HN.out;omega
   obtain ⟨W3,hW3⟩:∃ W3,w2.alloc (.cells #[.slice none 0 0] 24)=W3:=⟨_,rfl⟩
   have hb3:Below w2.heap.size w2 W3:=by rw [←hW3];exact (Below.refl _ w2).alloc (Nat.le_refl _) _
   have hk3:W3.heap[w2.heap.size]? = some (.cells #[.slice none 0 0] 24 (0,0)):=by rw [←hW3];exact World.alloc_heap_new _ _
   have HT2:Hid (Tab w2):=fun j v hv=>cell_below (HT1.out j v hv) HB2.out.1 (Nat.le_refl _)
   have H0:Hid (∃ xv ls,TuI w2 W3 W3 w2.heap.size xv ls∧ls.map RV.r=(rs.take 0).map turnR):=⟨.slice none 0 0,[],⟨⟨World.ownsRow_nil _ _ _ _,by simp,hb3,Nat.le_refl _⟩,hk3,Below.refl _ _⟩,rfl⟩
   have HB3:Hid (Below w2.heap.size w2 W3):=hb3
   clear hro hcap hb3 hk3
   go_wp2
   clear hW3
   go_loopw [24] (fun vi wr=>∃ k:Nat,vi = .int .i64 k∧k≤vn∧Hid (∃ xv ls,TuI w2 W3 wr w2.heap.size xv ls∧ls.map RV.r=(rs.take k).map turnR)) (fun vi _=>vn - (intOf vi).toNat)
   case atStart=>exact ⟨0,rfl,by omega,H0.out⟩
   case round=>
    obtain ⟨k,rfl,hk,HB⟩:=hrel
    clear H0
    by_cases hlt:k<vn
    · have hlt':(k:Int)<(vn:Int):=by omega
      have hpos:(0:Int)≤(k:Int):=by omega
      have hkl:k<rs.length:=by rw [HN.out];exact hlt
      obtain ⟨xv,ls,hI,hls⟩:=HB.out
      obtain ⟨xa,xc,rfl⟩:=hI.own.form
      have hll:ls.length=k:=by
       have:=congrArg List.length hls
       simp only [List.length_map,List.length_take] at this
       omega
      obtain ⟨g,o,rfl,hRA⟩:=HWA.out.resolve_left (by rintro rfl;simp at hkl)
      obtain ⟨av,kv,pv,rv,iv,hc9,hwc⟩:=hRA k hkl
      have hok:=HO.out.2.2.1 _ (List.getElem_mem hkl)
      have hbel:=hI.own.bel
      have q:=fun i v hv=>cell_below (hc9 i v hv) hbel (Nat.le_refl _)
      have hat:(rs.take (k+1)).map turnR=(rs.take k).map turnR++[turnR rs[k]]:=by rw [List.take_succ_eq_append_getElem hkl,List.map_append];rfl
      obtain ⟨r,hre⟩:∃ r,rs[k]'hkl=r:=⟨_,rfl⟩
      rw [hre] at q hwc hok hat
      have q0:=q 0 _ rfl
      have q1:=q 1 _ rfl
      have q2:=q 2 _ rfl
      have q3:=q 3 _ rfl
      have q4:=q 4 _ rfl
      have q5:=q 5 _ rfl
      have q6:=q 6 _ rfl
      have q7:=q 7 _ rfl
      simp only [Nat.add_zero] at q0
      obtain ⟨aa,an,ac,rfl⟩:=hwc.rr.a.sl
      obtain ⟨ka,kn,kc,rfl⟩:=hwc.rr.k.sl
      obtain ⟨pa,pn,pc,rfl⟩:=hwc.rr.p.sl
      obtain ⟨sa,sn,sc,rfl⟩:=hwc.rr.r.sl
      obtain ⟨ia,im,ic,rfl⟩:=hwc.im.sl
      have HR:Hid ((rs.take (k+1)).map turnR=(rs.take k).map turnR++[turnR r]∧ls.map RV.r=(rs.take k).map turnR∧ls.length=k):=⟨hat,hls,hll⟩
      obtain ⟨W6,hW6⟩:∃ W6,wr.alloc (.cells #[.bool r.bg,.slice aa an ac,.slice ka kn kc,.slice pa pn pc,.bool r.en,.slice sa sn sc,.int .i64 r.cu,.slice ia im ic] 79)=W6:=⟨_,rfl⟩
      have hb6:Below wr.heap.size wr W6:=by rw [←hW6];exact (Below.refl _ wr).alloc (Nat.le_refl _) _
      have hk6:W6.heap[wr.heap.size]? = some (.cells #[.bool r.bg,.slice aa an ac,.slice ka kn kc,.slice pa pn pc,.bool r.en,.slice sa sn sc,.int .i64 r.cu,.slice ia im ic] 79 (0,0)):=by rw [←hW6];exact World.alloc_heap_new _ _
      have hl6:=(Array.getElem?_eq_some_iff.1 hk6).1
      have HB6:Hid (∀ W,Below W6.heap.size W6 W→W.heap[wr.heap.size]? = some (.cells #[.bool r.bg,.slice aa an ac,.slice ka kn kc,.slice pa pn pc,.bool r.en,.slice sa sn sc,.int .i64 r.cu,.slice ia im ic] 79 (0,0))):=fun W hW=>(hW.block _ hl6).trans hk6
      have hI6:=hI.below hb6
      have HI6:Hid (TuI w2 W3 W6 w2.heap.size (.slice xa ls.length xc) ls):=hI6
      have hl1:ls.length+1≤1000000:=by omega
      have HC:Hid (∀ W,Grown W6 W→Calls Tryz.prog 41 #[.agg #[.bool r.bg,.slice aa an ac,.slice ka kn kc,.slice pa pn pc,.bool r.en,.slice sa sn sc,.int .i64 r.cu,.slice ia im ic]] W fun e w'=>∃ y1 y2 y3,e = .returned (.agg #[.bool r.bg,.slice aa an ac,.slice ia im ic,.slice pa pn pc,.bool r.en,.slice y1 y2 y3,.int .i64 r.key.length])∧RVk w2 w' (fun j=>j=w2.heap.size∨(Value.slice xa ls.length xc).ownBlock=some j) ⟨turnR r,.slice aa an ac,.slice ia im ic,.slice pa pn pc,.slice y1 y2 y3⟩∧TuI w2 W3 w' w2.heap.size (.slice xa ls.length xc) ls∧Below W6.heap.size W6 w'):=fun W hg=>by
       have hIW:=HI6.out.below hg.below
       refine (back_any r _ _ _ _ _ w2 W HT2.out hwc hIW.own.bel hok.1 hok.2.tl).mono ?_
       rintro e w' ⟨y1,y2,y3,rfl,hr,hb⟩
       refine ⟨y1,y2,y3,rfl,⟨hwc.rr.a,hwc.im,hwc.rr.p,hr.less fun j _ e => ?_⟩,hIW.below hb,hg.below.trans (hb.mono hg.size)⟩
       have hlo:=World.ownsRow.lt hIW.own.row
       have hbl:=blk_lt hIW.blk
       rcases e with e | e
       · omega
       · have:=hlo j e
         omega
      have z0:W6.cell? ⟨wr.heap.size,0,none⟩=some (.bool r.bg):=by rw [cell_of hk6];rfl
      have z1:W6.cell? ⟨wr.heap.size,1,none⟩=some (.slice aa an ac):=by rw [cell_of hk6];rfl
      have z2:W6.cell? ⟨wr.heap.size,2,none⟩=some (.slice ka kn kc):=by rw [cell_of hk6];rfl
      have z3:W6.cell? ⟨wr.heap.size,3,none⟩=some (.slice pa pn pc):=by rw [cell_of hk6];rfl
      have z4:W6.cell? ⟨wr.heap.size,4,none⟩=some (.bool r.en):=by rw [cell_of hk6];rfl
      have z5:W6.cell? ⟨wr.heap.size,5,none⟩=some (.slice sa sn sc):=by rw [cell_of hk6];rfl
      have z6:W6.cell? ⟨wr.heap.size,6,none⟩=some (.int .i64 r.cu):=by rw [cell_of hk6];rfl
      have z7:W6.cell? ⟨wr.heap.size,7,none⟩=some (.slice ia im ic):=by rw [cell_of hk6];rfl
      have y0:W6.cell? ⟨w2.heap.size,0,none⟩=some (.slice xa ls.length xc):=by rw [cell_of hI6.blk];rfl
      clear hI hI6 hls hll hRA hc9 q hwc hok hbel hat hre hb6 hk6 hl6 HB
      go_upto_region 8 with fail
      clear q0 q1 q2 q3 q4 q5 q6 q7 hW6
      go_region_law (first
       | (go_simp;go_at_call 41;go_must (refine (HC.out _ ?_).mono ?_;(repeat (first | exact Grown.refl _ | refine Grown.drew ?_ | refine Grown.drewN ?_ _));rintro e w7 ⟨y1,y2,y3,rfl,hy,hi7,hb7⟩;have H7:=hidT (And.intro hy hi7);have b7:=HB6.out w7 hb7;have z70:w7.cell? ⟨wr.heap.size,0,none⟩=some (.bool r.bg):=(by rw [cell_of b7];rfl);have z71:w7.cell? ⟨wr.heap.size,1,none⟩=some (.slice aa an ac):=(by rw [cell_of b7];rfl);have z72:w7.cell? ⟨wr.heap.size,2,none⟩=some (.slice ka kn kc):=(by rw [cell_of b7];rfl);have z73:w7.cell? ⟨wr.heap.size,3,none⟩=some (.slice pa pn pc):=(by rw [cell_of b7];rfl);have z74:w7.cell? ⟨wr.heap.size,4,none⟩=some (.bool r.en):=(by rw [cell_of b7];rfl);have z75:w7.cell? ⟨wr.heap.size,5,none⟩=some (.slice sa sn sc):=(by rw [cell_of b7];rfl);have z76:w7.cell? ⟨wr.heap.size,6,none⟩=some (.int .i64 r.cu):=(by rw [cell_of b7];rfl);have z77:w7.cell? ⟨wr.heap.size,7,none⟩=some (.slice ia im ic):=(by rw [cell_of b7];rfl);have e7:w7.cell? ⟨w2.heap.size,0,none⟩=some (.slice xa ls.length xc):=(by rw [cell_of hi7.blk];rfl);have e8:=cell_up e7 (.cells #[.bool r.bg,.slice aa an ac,.slice ia im ic,.slice pa pn pc,.bool r.en,.slice y1 y2 y3,.int .i64 r.key.length] 61);clear hy hi7 hb7 b7))
       | (refine step_Ru rfl (.tmp 29) (.tmp 32) rfl w2 w2.heap.size _ ls rfl (H7.out.2.own.below ((Below.refl _ w7).alloc (Nat.le_refl _) _)) w7.heap.size 1 ⟨turnR r,.slice aa an ac,.slice ia im ic,.slice pa pn pc,.slice y1 y2 y3⟩ rfl (World.alloc_heap_new _ _) ⟨H7.out.1.a,H7.out.1.k,H7.out.1.p,H7.out.1.r.fr (fr_below ((Below.refl _ w7).alloc (Nat.le_refl _) _) (Nat.le_refl _) fun _=>False) fun _ _ e=>e.elim⟩ hl1 (by have:=blk_lt H7.out.2.blk;simp;omega) ?_;intro A8 c8 w8 hO8 hg8;have hmo:=(H7.out.2.below ((Below.refl _ w7).alloc (Nat.le_refl _) _)).more hg8 hO8;have e9:=hmo.1;have f9:=hmo.2.1;have H9:=hidT hmo.2.2;clear hmo hO8 hg8))
      all_goals
       have HF:Hid (∃ xv ls',TuI w2 W3 (w8.setCell ⟨w2.heap.size,0,none⟩ (.slice A8 (ls.length+1) c8)) w2.heap.size xv ls'∧ls'.map RV.r=(rs.take (k+1)).map turnR):=⟨_,_,H9.out,by rw [List.map_append,HR.out.2.1,HR.out.1];rfl⟩
       clear H9 HI6 HC
       go_wp2
       exact ⟨⟨k+1,by go_num,by omega,HF⟩,by simp [intOf];omega⟩
    · obtain rfl:k=vn:=by omega
      obtain ⟨xv,ls,hI,hls⟩:=HB.out
      obtain ⟨xa,xc,rfl⟩:=hI.own.form
      have y0:wr.cell? ⟨w2.heap.size,0,none⟩=some (.slice xa ls.length xc):=by rw [cell_of hI.blk];rfl
      have hps:PsR wr (.slice xa ls.length xc) (rs.map turnR):=by
       have:=hI.own.psr
       rw [hls,List.take_of_length_le (by rw [HN.out];exact Nat.le_refl _)] at this
       exact this
      have hbw:Below w2.heap.size w2 wr:=hI.own.bel
      have HP:Hid (Calls Tryz.prog 42 #[.agg #[.slice xa ls.length xc]] wr fun e w'=>∃ v',e = .returned (.agg #[v'])∧IsSl v'∧Rob (fun k=>k<wr.heap.size) w' (fun W=>PsR W v' (rs.map turnR))∧Below wr.heap.size wr w'):=ownPass_any _ (rs.map turnR) wr hps (by rw [List.length_map];exact HO.out.2.2.2) (fun x hx=>by
       obtain ⟨r,hr,rfl⟩:=List.mem_map.1 hx
       exact turn_ok (HO.out.2.2.1 r hr).1 (HO.out.2.2.1 r hr).2)
      have HBW:Hid (Below w2.heap.size w2 wr):=hbw
      obtain ⟨m,hm⟩:∃ m,ls.length=m:=⟨_,rfl⟩
      rw [hm] at y0 HP
      clear hI hls hps hbw HB hm
      go_wp2_with fail
      refine HP.out.mono ?_
      rintro e w7 ⟨v',rfl,⟨y1,y2,y3,rfl⟩,hr7,hb7⟩
      have hbk7:w7.heap[w.heap.size+1]? = some (.cells #[.slice none 0 0] 24 (0,0)):=(hb7.block _ (Nat.lt_of_lt_of_le HB2.out.2.2.1 HBW.out.size)).trans ((HBW.out.block _ HB2.out.2.2.1).trans HB2.out.2.2.2)
      have z0:w7.cell? ⟨w.heap.size+1,0,none⟩=some (.slice none 0 0):=by rw [cell_of hbk7];rfl
      have f0:w7.frozen? ⟨w.heap.size+1,0,none⟩=false:=free_of hbk7
      have HBB:Hid ((w7.setCell ⟨w.heap.size+1,0,none⟩ (.slice y1 y2 y3)).heap[w.heap.size+1]? = some (.cells #[.slice y1 y2 y3] 24 (0,0))):=by
       show _=_
       rw [set_heap hbk7]
       rfl
      have HF:Hid (TrnQ w rs (.returned (.tuple #[.agg #[.slice y1 y2 y3],.int .i64 0,.int .i64 0])) (w7.setCell ⟨w.heap.size+1,0,none⟩ (.slice y1 y2 y3))):=by
       have hsz:w.heap.size+1<wr.heap.size:=Nat.lt_of_lt_of_le HB2.out.2.2.1 HBW.out.size
       refine ⟨y1,y2,y3,0,0,rfl,?_,fun h=>absurd rfl h,fun _ => ?_,?_⟩
       · have h1:=HW.out.1
         rw [HO.out.1] at h1
         exact h1
       · exact (hr7.fr (fr_set w7 (w.heap.size+1) 0 (.slice y1 y2 y3)) fun j _ e=>by omega).less fun j _ e=>by omega
       · exact ((HB2.out.2.1.trans (HBW.out.mono HB2.out.2.1.size)).trans (hb7.mono (by omega))).setCell (Nat.le_succ _) _
      clear hr7 hb7 hbk7 HP
      go_wp2
      exact ret_turn rfl HBB.out rfl rfl HF.out
 · have d0:(c != 0)=true:=by simp [hc]
   have hbk:=HB2.out.2.2.2
   have z0:w2.cell? ⟨w.heap.size+1,0,none⟩=some (.slice none 0 0):=by rw [cell_of hbk];rfl
   have f0:w2.frozen? ⟨w.heap.size+1,0,none⟩=false:=free_of hbk
   have HBB:Hid ((w2.setCell ⟨w.heap.size+1,0,none⟩ (.slice none 0 0)).heap[w.heap.size+1]? = some (.cells #[.slice none 0 0] 24 (0,0))):=by
    show _=_
    rw [set_heap hbk]
    rfl
   have HF:Hid (TrnQ w rs (.returned (.tuple #[.agg #[.slice none 0 0],.int .i64 i,.int .i64 c])) (w2.setCell ⟨w.heap.size+1,0,none⟩ (.slice none 0 0))):=⟨_,_,_,i,c,rfl,HW.out.1,fun _=>⟨rfl,rfl,rfl⟩,fun h=>absurd h hc,HB2.out.2.1.setCell (Nat.le_succ _) _⟩
   clear hbk hc
   go_wp2
   exact ret_turn rfl HBB.out rfl rfl HF.out
end Go.Proofs
