/-
  Several texts in one (Z2r Ypr).
-/
import Derived.Test.YtcfcjljapamcoabGreatDoorZ1r
import Derived.Test.YtcfcjljapamcoabGreatDoorMgbr
import Derived.Test.YtcfcjljapamcoabGreatDoorYnr
namespace Go.Proofs
open Go.RowKit Go.Shelf
set_option maxRecDepth 100000
attribute [local go_sem] Oper.semAt_some
theorem hidT {p:Prop} (h:p):Hid p:=h
theorem chkW_zero {rs:List Rl} (h:(chkW rs).2=0):rs.length≤256∧∀ r∈rs,Ok r:=by
 unfold chkW at h
 rcases hw:wgh rs with ⟨_ | st,c⟩
 · rw [hw] at h
   exact absurd h (wgh_none hw)
 · exact wgh_some hw
theorem ChkR.zero {rs:List Rl} {core:List (Int × Int)} {n:Int} (h:ChkR rs core n 0):n=0:=by
 generalize hc:(0:Int)=c at h
 cases h with
 | wrong k r h1 h2 h3=>exact absurd hc.symm h3
 | clash k i r x h1 h2 h3 h4 h5 h6 h7=>exact absurd hc.symm h7
 | fine h1 h2=>rfl
def WaysR (rs:List Rl) (v:Value) (n c:Int) (w':World):Prop:=
 ((chkW rs).2≠0∧v = .slice none 0 0∧n=(chkW rs).1∧c=(chkW rs).2) ∨
 ((chkW rs).2=0∧∃ core,Up core∧(∀ u,inL core u=true↔∃ l∈rs.flatMap waS,inL l u=true)∧ChkR rs core n c∧(c≠0∧v = .slice none 0 0∨c=0∧n=0∧WyR w' v rs))
def WaysQ (w:World) (rs:List Rl) (e:Ending) (w':World):Prop:=∃ v n c,e = .returned (.tuple #[v,.int .i64 n,.int .i64 c])∧IsSl v∧Below w.heap.size w w'∧WaysR rs v n c w'
theorem WaysQ.mk {w:World} {rs:List Rl} {v:Value} {n c:Int} {w':World} (hs:IsSl v) (hb:Below w.heap.size w w') (h:WaysR rs v n c w'):WaysQ w rs (.returned (.tuple #[v,.int .i64 n,.int .i64 c])) w':=⟨v,n,c,rfl,hs,hb,h⟩
set_option maxHeartbeats 8000000 in
theorem ways_any (rv:Value) (rs:List Rl) (w:World) (hT:Tab w) (h:PsR w rv rs) :
 Calls Tryz.prog 21 #[.agg #[rv]] w (WaysQ w rs):=by
 obtain ⟨ra,rc,rfl,hrc,hro⟩:=h
 obtain ⟨n,hn⟩:∃ n,rs.length=n:=⟨_,rfl⟩
 have HP:Hid (PsR w (.slice ra rs.length rc) rs):=⟨ra,rc,rfl,hrc,hro⟩
 obtain ⟨W0,hW0⟩:∃ W0,w.alloc (.cells #[.slice ra n rc] 24)=W0:=⟨_,rfl⟩
 have hb0:Below w.heap.size w W0:=by rw [←hW0];exact (Below.refl _ w).alloc (Nat.le_refl _) _
 have hk0:W0.heap[w.heap.size]? = some (.cells #[.slice ra n rc] 24 (0,0)):=by rw [←hW0];exact World.alloc_heap_new _ _
 have hl0:=(Array.getElem?_eq_some_iff.1 hk0).1
 have H:Hid (Tab w∧rs.length=n∧(rs=[]∨∃ g o,ra=some ⟨g,o,none⟩∧∀ (j:Nat) (hj:j<rs.length),RAt w g (o+j*7) rs[j])∧Below w.heap.size w W0):=⟨hT,hn,hro,hb0⟩
 have HC:Hid (Calls Tryz.prog 30 #[.agg #[.slice ra n rc]] W0 fun e w'=>e = .returned (.tuple #[.int .i64 (chkW rs).1,.int .i64 (chkW rs).2])∧Below W0.heap.size W0 w'):=by
  have:=HP.out.below hb0 (Nat.le_refl _)
  rw [hn] at this
  exact wcheck_any _ rs W0 (fun j v hv=>cell_below (hT j v hv) hb0 (Nat.le_refl _)) this
 obtain ⟨E1,hE1⟩:∃ E1,(chkW rs).1=E1:=⟨_,rfl⟩
 obtain ⟨E2,hE2⟩:∃ E2,(chkW rs).2=E2:=⟨_,rfl⟩
 have HE:Hid ((chkW rs).1=E1∧(chkW rs).2=E2):=⟨hE1,hE2⟩
 rw [hE1,hE2] at HC
 have x0:W0.cell? ⟨w.heap.size,0,none⟩=some (.slice ra n rc):=by rw [cell_of hk0];rfl
 have HX:Hid (∀ W,Below W0.heap.size W0 W→W.cell? ⟨w.heap.size,0,none⟩=some (.slice ra n rc)):=fun W hb=>cell_below x0 hb (Nat.le_refl _)
 rw [hn]
 have hncap:n≤rc:=by omega
 clear HP hro hT hn hrc hb0 hk0 hl0 hE1 hE2
 go_enter Tryz.func21,Tryz.ntmps21
 go_wp2_with fail
 refine HC.out.mono ?_
 rintro e w1 ⟨rfl,hb1⟩
 have HB1:Hid (Below W0.heap.size W0 w1∧Below w.heap.size w w1):=⟨hb1,H.out.2.2.2.trans (hb1.mono H.out.2.2.2.size)⟩
 clear hb1 HC x0
 by_cases h0:E2=0
 · have d0:(E2 != 0)=false:=by simp [h0]
   have HO:=hidT (chkW_zero (HE.out.2.trans h0))
   have hn256:n≤256:=by have h1:=HO.out.1;have h2:=H.out.2.1;omega
   have x1:=HX.out w1 HB1.out.1
   have HN0:Hid (∃ ws,OwnW w w1 (.slice none 0 0) ws∧ws.map WV.r=rs.take 0):=⟨[],OwnW.nil HB1.out.2,rfl⟩
   have HE0:Hid ((chkW rs).2=0):=HE.out.2.trans h0
   clear hW0 h0 HE
   go_wp2
   go_loopw [7,24] (fun vv vi wr=>∃ k:Nat,vi = .int .i64 k∧k≤n∧Hid (∃ ws,OwnW w wr vv ws∧ws.map WV.r=rs.take k)) (fun _ vi _=>n - (intOf vi).toNat)
   case atStart=>exact ⟨0,rfl,by omega,HN0.out⟩
   case round=>
    obtain ⟨k,rfl,hk,HB⟩:=hrel
    clear x1 HN0
    by_cases hlt:k<n
    · have hlt':(k:Int)<(n:Int):=by omega
      have hpos:(0:Int)≤(k:Int):=by omega
      have hkl:k<rs.length:=by rw [H.out.2.1];exact hlt
      obtain ⟨ws,hO,hws⟩:=HB.out
      have hwl:ws.length=k:=by
       have:=congrArg List.length hws
       simp only [List.length_map,List.length_take] at this
       omega
      obtain ⟨a7,c7,rfl⟩:=hO.form
      obtain ⟨g,o,rfl,hRA⟩:=H.out.2.2.1.resolve_left (by rintro rfl;simp at hkl)
      obtain ⟨av,kv,pv,rv,p0,p1,p2,p3,p4,p5,p6,hRR⟩:=hRA k hkl
      have hok:=HO.out.2 _ (List.getElem_mem hkl)
      have hbel:=hO.bel
      have q0:=cell_below p0 hbel (Nat.le_refl _)
      have q1:=cell_below p1 hbel (Nat.le_refl _)
      have q2:=cell_below p2 hbel (Nat.le_refl _)
      have q3:=cell_below p3 hbel (Nat.le_refl _)
      have q4:=cell_below p4 hbel (Nat.le_refl _)
      have q5:=cell_below p5 hbel (Nat.le_refl _)
      have q6:=cell_below p6 hbel (Nat.le_refl _)
      obtain ⟨r,hre⟩:∃ r,rs[k]'hkl=r:=⟨_,rfl⟩
      rw [hre] at q0 q4 q6 hRR hok
      clear p0 p1 p2 p3 p4 p5 p6
      have hat:rs.take (k+1)=rs.take k++[r]:=by rw [List.take_succ_eq_append_getElem hkl,hre]
      obtain ⟨aa,an,ac,rfl⟩:=hRR.a.sl
      obtain ⟨ka,kn,kc,rfl⟩:=hRR.k.sl
      obtain ⟨pa,pn,pc,rfl⟩:=hRR.p.sl
      obtain ⟨sa,sn,sc,rfl⟩:=hRR.r.sl
      have HR:Hid (RR w (.slice aa an ac) (.slice ka kn kc) (.slice pa pn pc) (.slice sa sn sc) r∧rs.take (k+1)=rs.take k++[r]∧ws.map WV.r=rs.take k):=⟨hRR,hat,hws⟩
      obtain ⟨W6,hW6⟩:∃ W6,wr.alloc (.cells #[.bool r.bg,.slice aa an ac,.slice ka kn kc,.slice pa pn pc,.bool r.en,.slice sa sn sc,.int .i64 r.cu] 61)=W6:=⟨_,rfl⟩
      have hb6:Below wr.heap.size wr W6:=by rw [←hW6];exact (Below.refl _ wr).alloc (Nat.le_refl _) _
      have hk6:W6.heap[wr.heap.size]? = some (.cells #[.bool r.bg,.slice aa an ac,.slice ka kn kc,.slice pa pn pc,.bool r.en,.slice sa sn sc,.int .i64 r.cu] 61 (0,0)):=by rw [←hW6];exact World.alloc_heap_new _ _
      have hl6:=(Array.getElem?_eq_some_iff.1 hk6).1
      have HB6:Hid (Below wr.heap.size wr W6∧(∀ W,Below W6.heap.size W6 W→W.heap[wr.heap.size]? = some (.cells #[.bool r.bg,.slice aa an ac,.slice ka kn kc,.slice pa pn pc,.bool r.en,.slice sa sn sc,.int .i64 r.cu] 61 (0,0)))):=⟨hb6,fun W hW=>(hW.block _ hl6).trans hk6⟩
      have HO6:Hid (OwnW w W6 (.slice a7 ws.length c7) ws):=hO.below hb6
      rw [hwl] at HO6 ⊢
      have HI:Hid (∀ W,Grown W6 W→Calls Tryz.prog 31 #[.agg #[.bool r.bg,.slice aa an ac,.slice ka kn kc,.slice pa pn pc,.bool r.en,.slice sa sn sc,.int .i64 r.cu]] W fun e w'=>∃ y1 y2 y3,e = .returned (.slice y1 y2 y3)∧WOk w w' (fun j=>(Value.slice a7 k c7).ownBlock=some j) ⟨r,.slice aa an ac,.slice ka kn kc,.slice pa pn pc,.slice sa sn sc,.slice y1 y2 y3⟩∧Below W6.heap.size W6 w'∧OwnW w w' (.slice a7 k c7) ws):=fun W hg=>by
       refine (imageR_any r _ _ _ _ w W hRR (HO6.out.bel.trans (hg.below.mono HO6.out.bel.size)) hok).mono ?_
       rintro e w' ⟨y1,y2,y3,rfl,hr,hb⟩
       have hOW:=(HO6.out.below hg.below)
       refine ⟨y1,y2,y3,rfl,⟨hRR,hr.less fun j _ e => ?_⟩,hg.below.trans (hb.mono hg.size),hOW.below hb⟩
       have h1:=World.ownsRow.lt hOW.row j e
       exact h1
      have z0:W6.cell? ⟨wr.heap.size,0,none⟩=some (.bool r.bg):=by rw [cell_of hk6];rfl
      have z1:W6.cell? ⟨wr.heap.size,1,none⟩=some (.slice aa an ac):=by rw [cell_of hk6];rfl
      have z2:W6.cell? ⟨wr.heap.size,2,none⟩=some (.slice ka kn kc):=by rw [cell_of hk6];rfl
      have z3:W6.cell? ⟨wr.heap.size,3,none⟩=some (.slice pa pn pc):=by rw [cell_of hk6];rfl
      have z4:W6.cell? ⟨wr.heap.size,4,none⟩=some (.bool r.en):=by rw [cell_of hk6];rfl
      have z5:W6.cell? ⟨wr.heap.size,5,none⟩=some (.slice sa sn sc):=by rw [cell_of hk6];rfl
      have z6:W6.cell? ⟨wr.heap.size,6,none⟩=some (.int .i64 r.cu):=by rw [cell_of hk6];rfl
      have HWL:=hidT hwl
      have hk1:ws.length+1≤1000000:=by have:=HO.out.1;have:=H.out.2.1;omega
      clear hO hws hRA hRR hok hre hat hb6 hk6 hl6 hbel HB hkl hwl
      go_upto_region 8 with fail
      clear q0 q1 q2 q3 q4 q5 q6 hW6
      go_region_law (first
       | (go_simp;go_at_call 31;go_must (refine (HI.out _ ?_).mono ?_;(repeat (first | exact Grown.refl _ | refine Grown.drew ?_ | refine Grown.drewN ?_ _));rintro e w7 ⟨y1,y2,y3,rfl,hk7,hb7,ho7⟩;have H7:=hidT (And.intro hk7 (And.intro hb7 ho7));have b7:=HB6.out.2 w7 hb7;have z70:w7.cell? ⟨wr.heap.size,0,none⟩=some (.bool r.bg):=(by rw [cell_of b7];rfl);have z71:w7.cell? ⟨wr.heap.size,1,none⟩=some (.slice aa an ac):=(by rw [cell_of b7];rfl);have z72:w7.cell? ⟨wr.heap.size,2,none⟩=some (.slice ka kn kc):=(by rw [cell_of b7];rfl);have z73:w7.cell? ⟨wr.heap.size,3,none⟩=some (.slice pa pn pc):=(by rw [cell_of b7];rfl);have z74:w7.cell? ⟨wr.heap.size,4,none⟩=some (.bool r.en):=(by rw [cell_of b7];rfl);have z75:w7.cell? ⟨wr.heap.size,5,none⟩=some (.slice sa sn sc):=(by rw [cell_of b7];rfl);have z76:w7.cell? ⟨wr.heap.size,6,none⟩=some (.int .i64 r.cu):=(by rw [cell_of b7];rfl);clear hk7 hb7 ho7 b7))
       | (refine step_W rfl (.tmp 28) (.tmp 33) rfl w _ ws rfl (H7.out.2.2.below (((Below.refl _ w7).alloc (Nat.le_refl _) _))) w7.heap.size 1 _ rfl (World.alloc_heap_new _ _) ⟨H7.out.1.1,H7.out.1.2.fr (fr_below ((Below.refl _ w7).alloc (Nat.le_refl _) _) (Nat.le_refl _) fun _=>False) fun _ _ e=>e.elim⟩ hk1 ?_;intro A8 c8 w8 hO8;have HO8:=hidT hO8;clear hO8))
      all_goals
       have HF:Hid (∃ ws',OwnW w w8 (.slice A8 (k+1) c8) ws'∧ws'.map WV.r=rs.take (k+1)):=by
        have:=HO8.out
        rw [HWL.out] at this
        exact ⟨_,this,by rw [List.map_append,HR.out.2.2,HR.out.2.1];rfl⟩
       rw [HWL.out]
       clear HO8
       go_wp2
       exact ⟨⟨k+1,by go_num,by omega,HF⟩,by simp [intOf];omega⟩
    · have HW:Hid (∃ a c,u7 = .slice a n c∧WyR wr u7 rs∧Below w.heap.size w wr):=by
       obtain ⟨ws,hO,hws⟩:=HB.out
       have e:rs.take k=rs:=List.take_of_length_le (by rw [H.out.2.1];omega)
       rw [e] at hws
       obtain ⟨a,c,rfl⟩:=hO.form
       have hl:ws.length=n:=by
        have:=congrArg List.length hws
        rw [List.length_map,H.out.2.1] at this
        exact this
       refine ⟨a,c,by rw [hl],?_,hO.bel⟩
       have:=hO.wr
       rw [hws] at this
       exact this
      obtain ⟨a7,c7,e7,hw7,hb7⟩:=HW.out
      subst e7
      have HC:Hid (Calls Tryz.prog 32 #[.slice a7 n c7] wr (ChkQ wr rs)):=checkT_any rs _ wr (fun j v hv=>cell_below (H.out.1 j v hv) hb7 (Nat.le_refl _)) hw7 HO.out.1 HO.out.2
      have H7:Hid (WyR wr (.slice a7 n c7) rs∧Below w.heap.size w wr):=⟨hw7,hb7⟩
      clear hw7 hb7 HB HW
      go_wp2_with fail
      refine HC.out.mono ?_
      rintro e w9 ⟨core,i,c,rfl,hU,hu,hR,hb9⟩
      have H9:Hid (Up core∧(∀ u,inL core u=true↔∃ l∈rs.flatMap waS,inL l u=true)∧ChkR rs core i c∧Below w.heap.size w w9∧WyR w9 (.slice a7 n c7) rs):=⟨hU,hu,hR,H7.out.2.trans (hb9.mono H7.out.2.size),H7.out.1.below hb9 (Nat.le_refl _)⟩
      clear hU hu hR hb9 HC
      by_cases hc:c=0
      · have d9:(c != 0)=false:=by simp [hc]
        have HF:Hid (WaysQ w rs (.returned (.tuple #[.slice a7 n c7,.int .i64 0,.int .i64 0])) w9):=WaysQ.mk ⟨_,_,_,rfl⟩ H9.out.2.2.2.1 (.inr ⟨HE0.out,core,H9.out.1,H9.out.2.1,by
         have h1:=H9.out.2.2.1
         subst hc
         have h2:=h1.zero
         subst h2
         exact h1,.inr ⟨rfl,rfl,H9.out.2.2.2.2⟩⟩)
        clear hc
        go_wp2
        exact bodyPost_ret (v := .tuple #[.slice a7 n c7,.int .i64 0,.int .i64 0]) (by simp [results,Tryz.f21,go_sem]) rfl HF.out
      · have d9:(c != 0)=true:=by simp [hc]
        have HF:Hid (WaysQ w rs (.returned (.tuple #[.slice none 0 0,.int .i64 i,.int .i64 c])) w9):=WaysQ.mk ⟨_,_,_,rfl⟩ H9.out.2.2.2.1 (.inr ⟨HE0.out,core,H9.out.1,H9.out.2.1,H9.out.2.2.1,.inl ⟨hc,rfl⟩⟩)
        clear hc
        go_wp2
        exact bodyPost_ret (v := .tuple #[.slice none 0 0,.int .i64 i,.int .i64 c]) (by simp [results,Tryz.f21,go_sem]) rfl HF.out
 · have d0:(E2 != 0)=true:=by simp [h0]
   have HF:Hid (WaysQ w rs (.returned (.tuple #[.slice none 0 0,.int .i64 E1,.int .i64 E2])) w1):=WaysQ.mk ⟨_,_,_,rfl⟩ HB1.out.2 (.inl ⟨fun h=>h0 (HE.out.2.symm.trans h),rfl,HE.out.1.symm,HE.out.2.symm⟩)
   clear h0 hW0
   go_wp2
   exact bodyPost_ret (v := .tuple #[.slice none 0 0,.int .i64 E1,.int .i64 E2]) (by simp [results,Tryz.f21,go_sem]) rfl HF.out
end Go.Proofs
namespace Go.Proofs
open Go.RowKit Go.Shelf
set_option maxRecDepth 100000
attribute [local go_sem] Oper.semAt_some
def freeB (r:Rl):Bool:=decide (r.key.length=1) && decide (r.ante.length=0) && decide (r.post.length=0) && !r.bg && !r.en
set_option maxHeartbeats 8000000 in
theorem free_any (r:Rl) (av kv pv rv iv:Value) (w:World) (h:WyC w r av kv pv rv iv) (ho:Ok r) :
 Calls Tryz.prog 35 #[wyVal r av kv pv rv iv] w fun e w'=>e = .returned (.bool (freeB r))∧Below w.heap.size w w':=by
 obtain ⟨aa,ac,rfl,_,_⟩:=h.rr.a
 obtain ⟨ka,kc,rfl,_,_⟩:=h.rr.k
 obtain ⟨pa,pc,rfl,_,_⟩:=h.rr.p
 obtain ⟨ra,rn,rc,rfl⟩:=h.rr.r.sl
 obtain ⟨ia,im,ic,rfl⟩:=h.im.sl
 obtain ⟨F,hF⟩:∃ F,freeB r=F:=⟨_,rfl⟩
 obtain ⟨an,han⟩:∃ an,r.ante.length=an:=⟨_,rfl⟩
 obtain ⟨kn,hkn⟩:∃ kn,r.key.length=kn:=⟨_,rfl⟩
 obtain ⟨pn,hpn⟩:∃ pn,r.post.length=pn:=⟨_,rfl⟩
 obtain ⟨bg,hbg⟩:∃ bg,r.bg=bg:=⟨_,rfl⟩
 obtain ⟨en,hen⟩:∃ en,r.en=en:=⟨_,rfl⟩
 have ha8:(an:Int)≤8:=by have:=ho.a8;omega
 have hk8:(kn:Int)≤8:=by have:=ho.k8;omega
 have hp8:(pn:Int)≤8:=by have:=ho.p8;omega
 have HF:Hid (F=(decide (kn=1) && decide (an=0) && decide (pn=0) && !bg && !en)):=by
  show F=_
  rw [←hF,freeB,hkn,han,hpn,hbg,hen]
 rw [hF,han,hkn,hpn]
 unfold wyVal
 rw [hbg,hen]
 clear hF han hkn hpn h ho hbg hen
 obtain ⟨W1,hW1⟩:∃ W1,w.alloc (.cells #[.bool bg,.slice aa an ac,.slice ka kn kc,.slice pa pn pc,.bool en,.slice ra rn rc,.int .i64 r.cu,.slice ia im ic] 79)=W1:=⟨_,rfl⟩
 have HW:Hid (Below w.heap.size w W1):=by show Below _ _ _;rw [←hW1];exact (Below.refl _ w).alloc (Nat.le_refl _) _
 have hbk:W1.heap[w.heap.size]? = some (.cells #[.bool bg,.slice aa an ac,.slice ka kn kc,.slice pa pn pc,.bool en,.slice ra rn rc,.int .i64 r.cu,.slice ia im ic] 79 (0,0)):=by rw [←hW1];exact World.alloc_heap_new _ _
 have x0:W1.cell? ⟨w.heap.size,0,none⟩=some (.bool bg):=by rw [cell_of hbk];rfl
 have x1:W1.cell? ⟨w.heap.size,1,none⟩=some (.slice aa an ac):=by rw [cell_of hbk];rfl
 have x2:W1.cell? ⟨w.heap.size,2,none⟩=some (.slice ka kn kc):=by rw [cell_of hbk];rfl
 have x3:W1.cell? ⟨w.heap.size,3,none⟩=some (.slice pa pn pc):=by rw [cell_of hbk];rfl
 have x4:W1.cell? ⟨w.heap.size,4,none⟩=some (.bool en):=by rw [cell_of hbk];rfl
 clear hbk
 by_cases h1:kn=1
 · subst h1
   by_cases h2:an=0
   · subst h2
     by_cases h3:pn=0
     · subst h3
       cases bg with
       | true=>
        go_enter Tryz.func35,Tryz.ntmps35
        go_wp2
        go_ret
        exact ⟨by rw [HF.out];rfl,HW.out⟩
       | false=>
        cases en with
        | true=>
         go_enter Tryz.func35,Tryz.ntmps35
         go_wp2
         go_ret
         exact ⟨by rw [HF.out];rfl,HW.out⟩
        | false=>
         go_enter Tryz.func35,Tryz.ntmps35
         go_wp2
         go_ret
         exact ⟨by rw [HF.out];rfl,HW.out⟩
     · have d3:((pn:Int) == 0)=false:=by simp;omega
       have n3:¬ ((pn:Int)=0):=by omega
       go_enter Tryz.func35,Tryz.ntmps35
       go_wp2
       go_ret
       exact ⟨by rw [HF.out];simp [h3],HW.out⟩
   · have d2:((an:Int) == 0)=false:=by simp;omega
     have n2:¬ ((an:Int)=0):=by omega
     go_enter Tryz.func35,Tryz.ntmps35
     go_wp2
     go_ret
     exact ⟨by rw [HF.out];simp [h2],HW.out⟩
 · have d1:((kn:Int) == 1)=false:=by simp;omega
   have n1:¬ ((kn:Int)=1):=by omega
   go_enter Tryz.func35,Tryz.ntmps35
   go_wp2
   go_ret
   exact ⟨by rw [HF.out];simp [h1],HW.out⟩
end Go.Proofs
