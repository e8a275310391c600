/-
  Several texts in one (Xdv Xev).
-/
import Derived.Test.YtcfcjljapamcoaaGreatDoorMprv
import Derived.Test.YtcfcjljapamcoaaGreatDoorMpsv
namespace Go.Proofs
open Go.RowKit Go.Shelf
set_option maxRecDepth 100000
attribute [local go_sem] Oper.semAt_some
theorem step_Vs {ops:Array Oper} {o:Oper} {a:Act} {K:Act→World→Prop} {Q:Exit→Act→World→Prop} {E:Prop} {w:World} (hgd:o.guard=none) (s x:Operand)
 (ho:o.op = .call { callee := .builtin .append,args:=#[s,x],argTypes:=#[34,34] })
 (base:Nat) (v xv:Value) (l b:List Value) (hs:a.eval s=v) (hown:OwnVs w base v l) (hx:a.eval x=xv) (hr:SVs w xv b) (hsl:∀ u∈b,IsSl u) (hl:l.length+b.length≤5000000000) (hbase:base≤w.heap.size)
 (h:∀ y1 y2 y3 w',OwnVs w' base (.slice y1 y2 y3) (l++b)→w.grownBy w' v.ownBlock→K (a.put o.dst (.slice y1 y2 y3)) w') :
 if Region.wanted o (yielded ops a.tmps)=true then Oper.wp Tryz.prog o a w K Q else E:=by
 have hw:Region.wanted o (yielded ops a.tmps)=true:=by simp [Region.wanted,hgd]
 rw [if_pos hw]
 obtain ⟨v',w',hr2,h1,h2,_⟩:=run_appVs w o.type base v l b xv hown hr hsl hl hbase
 obtain ⟨y1,y2,y3,rfl⟩:=h1.sv.sl
 unfold Oper.wp execOp
 simp only [ho,resolve,invoke,builtin,Sem.run_bind,Sem.run_pure,Result.andThen_ok,List.map_toArray,List.map_cons,List.map_nil,hs,hx,hr2]
 exact h y1 y2 y3 w' h1 h2
theorem OwnZ.vals {w':World} {B0 B1:Nat} {v:Value} {ls:List (List (Int × Int))} (h:OwnZ (ZB B0 B1) w' B1 v ls):∃ vs,SVs w' v vs∧vs.length=ls.length∧(∀ u∈vs,IsSl u)∧∀ W,Fr w' W (fun k=>B0≤k∧k<B1)→∀ (j:Nat) (u:Value),vs[j]? = some u→∃ l,ls[j]? = some l∧Rs W u l:=by
 obtain ⟨vs,h0,h1,h2⟩:=h
 have hat:∀ (j:Nat) (u:Value),vs[j]? = some u→∃ hj:j<ls.length,Rs w' u ls[j]∧ZB B0 B1 u:=fun j u hu=>by
  have hj:j<ls.length:=by have:=(List.getElem?_eq_some_iff.1 hu).1;omega
  obtain ⟨u',e,hr,_,hz⟩:=h2 j hj
  rw [e] at hu
  injection hu with hu
  subst hu
  exact ⟨hj,hr,hz⟩
 refine ⟨vs,OwnVs.sv h1,h0,fun u hu => ?_,fun W hf j u hu => ?_⟩
 · obtain ⟨j,hj⟩:=List.getElem?_of_mem hu
   exact (hat j u hj).2.1.sl
 · obtain ⟨hj,hr,hz⟩:=hat j u hu
   refine ⟨ls[j],List.getElem?_eq_getElem hj,hr.same fun g o n c e hn hg=>hf.block g hg fun e2 => ?_⟩
   have:=hz g o n c e hn
   omega
def wmeet (s:List (Int × Int)) (r:Rl):Bool:=(waS r).any fun l=>metB l s
def cmeet (rs:List Rl) (s:List (Int × Int)):Bool:=rs.any (wmeet s)
theorem any_no {α:Type} {l:List α} {p:α→Bool} (h:∀ (i:Nat) x,i<l.length→l[i]? = some x→p x=false):l.any p=false:=by
 rw [List.any_eq_false]
 intro x hx
 obtain ⟨i,hi⟩:=List.getElem?_of_mem hx
 rw [h i x (List.getElem?_eq_some_iff.1 hi).1 hi]
 simp
theorem any_yes {α:Type} {l:List α} {p:α→Bool} {i:Nat} {x:α} (h:l[i]? = some x) (hp:p x=true):l.any p=true:=List.any_eq_true.2 ⟨x,List.mem_of_getElem? h,hp⟩
set_option maxHeartbeats 8000000 in
theorem meets_any (rv sv:Value) (rs:List Rl) (s:List (Int × Int)) (w:World) (h:PsR w rv rs) (hs:Rs w sv s) (hn:rs.length≤256) (ho:∀ r∈rs,Ok r) (hU:Up s) (hsl:s.length≤10000000) :
 Calls Tryz.prog 106 #[.agg #[rv],sv] w fun e w'=>e = .returned (.bool (cmeet rs s))∧Below w.heap.size w w':=by
 obtain ⟨ra,rc,rfl,hrc,hro⟩:=h
 obtain ⟨n,hnn⟩:∃ n,rs.length=n:=⟨_,rfl⟩
 obtain ⟨sa,sn,sc,rfl⟩:=hs.sl
 obtain ⟨C,hC⟩:∃ C,cmeet rs s=C:=⟨_,rfl⟩
 obtain ⟨W1,hW1⟩:∃ W1,w.alloc (.cells #[.slice ra n rc] 24)=W1:=⟨_,rfl⟩
 have hb1:Below w.heap.size w W1:=by rw [←hW1];exact (Below.refl _ w).alloc (Nat.le_refl _) _
 have hk1:W1.heap[w.heap.size]? = some (.cells #[.slice ra n rc] 24 (0,0)):=by rw [←hW1];exact World.alloc_heap_new _ _
 have x0:W1.cell? ⟨w.heap.size,0,none⟩=some (.slice ra n rc):=by rw [cell_of hk1];rfl
 have H:Hid (rs.length=n∧(∀ r∈rs,Ok r)∧(rs=[]∨∃ g o,ra=some ⟨g,o,none⟩∧∀ (j:Nat) (hj:j<rs.length),RAt w g (o+j*7) rs[j])∧Rs w (.slice sa sn sc) s∧Up s∧s.length≤10000000):=⟨hnn,ho,hro,hs,hU,hsl⟩
 have HC:Hid (cmeet rs s=C):=hC
 have HW:Hid (Below w.heap.size w W1∧(∀ W,Below W1.heap.size W1 W→W.cell? ⟨w.heap.size,0,none⟩=some (.slice ra n rc))):=⟨hb1,fun W hb=>cell_below x0 hb (Nat.le_refl _)⟩
 have hrc':n≤rc:=by omega
 have hn':n≤256:=by omega
 rw [hnn,hC]
 clear ho hro hs hU hsl hnn hC hb1 hk1 hrc hn x0
 go_enter Tryz.func106,Tryz.ntmps106
 go_wp2
 clear hW1
 go_loopw [5] (fun vi wr=>∃ k:Nat,vi = .int .i64 k∧k≤n∧Hid (Below W1.heap.size W1 wr∧∀ i x,i<k→rs[i]? = some x→wmeet s x=false)) (fun vi _=>n - (intOf vi).toNat)
 case atStart=>exact ⟨0,rfl,by omega,Below.refl _ _,fun i x hi=>by omega⟩
 case round=>
  obtain ⟨k,rfl,hk,HB⟩:=hrel
  obtain ⟨wo,hwo⟩:∃ x,x=wr:=⟨_,rfl⟩
  subst hwo
  have x0:=HW.out.2 wo HB.out.1
  by_cases hlt:k<n
  · have hlt':(k:Int)<(n:Int):=by omega
    have hpos:(0:Int)≤(k:Int):=by omega
    have hkl:k<rs.length:=by rw [H.out.1];exact hlt
    obtain ⟨g,o,rfl,hRA⟩:=H.out.2.2.1.resolve_left (by rintro rfl;simp at hkl)
    obtain ⟨av,kv,pv,rv,p0,p1,p2,p3,p4,p5,p6,hRR⟩:=hRA k hkl
    have hok:=H.out.2.1 _ (List.getElem_mem hkl)
    have hat:=List.getElem?_eq_getElem hkl
    have hbel:Below w.heap.size w wo:=HW.out.1.trans (HB.out.1.mono HW.out.1.size)
    have q0:=cell_below p0 hbel (Nat.le_refl _)
    have q1:=cell_below p1 hbel (Nat.le_refl _)
    have q2:=cell_below p2 hbel (Nat.le_refl _)
    have q3:=cell_below p3 hbel (Nat.le_refl _)
    have q4:=cell_below p4 hbel (Nat.le_refl _)
    have q5:=cell_below p5 hbel (Nat.le_refl _)
    have q6:=cell_below p6 hbel (Nat.le_refl _)
    obtain ⟨r,hre⟩:∃ r,rs[k]'hkl=r:=⟨_,rfl⟩
    rw [hre] at q0 q4 q6 hRR hok hat
    clear p0 p1 p2 p3 p4 p5 p6
    obtain ⟨aa,an,ac,rfl⟩:=hRR.a.sl
    obtain ⟨ks,hks,hkl2,hke⟩:=hRR.k.sv
    obtain ⟨ka,kn,kc,rfl⟩:=hRR.k.sl
    obtain ⟨pa,pn,pc,rfl⟩:=hRR.p.sl
    obtain ⟨ta,tn,tc,rfl⟩:=hRR.r.sl
    have hksl:∀ u∈ks,IsSl u:=fun u hu=>by
     obtain ⟨j,hj⟩:=List.getElem?_of_mem hu
     obtain ⟨l,_,h⟩:=hke j u hj
     exact h.sl
    obtain ⟨W6,hW6⟩:∃ W6,wo.alloc (.cells #[.bool r.bg,.slice aa an ac,.slice ka kn kc,.slice pa pn pc,.bool r.en,.slice ta tn tc,.int .i64 r.cu] 60)=W6:=⟨_,rfl⟩
    have hb6:Below wo.heap.size wo W6:=by rw [←hW6];exact (Below.refl _ wo).alloc (Nat.le_refl _) _
    have hk6:W6.heap[wo.heap.size]? = some (.cells #[.bool r.bg,.slice aa an ac,.slice ka kn kc,.slice pa pn pc,.bool r.en,.slice ta tn tc,.int .i64 r.cu] 60 (0,0)):=by rw [←hW6];exact World.alloc_heap_new _ _
    have hl6:=blk_lt hk6
    have hb06:Below w.heap.size w W6:=hbel.trans (hb6.mono hbel.size)
    have HK:Hid (Below wo.heap.size wo W6∧Below w.heap.size w W6∧(∀ W,Below W6.heap.size W6 W→W.heap[wo.heap.size]? = some (.cells #[.bool r.bg,.slice aa an ac,.slice ka kn kc,.slice pa pn pc,.bool r.en,.slice ta tn tc,.int .i64 r.cu] 60 (0,0)))):=⟨hb6,hb06,fun W hW=>(hW.block _ hl6).trans hk6⟩
    have HR:Hid (RR w (.slice aa an ac) (.slice ka kn kc) (.slice pa pn pc) (.slice ta tn tc) r∧Ok r∧rs[k]? = some r):=⟨hRR,hok,hat⟩
    have HKS:Hid (SVs w (.slice ka kn kc) ks∧ks.length=r.key.length∧(∀ u∈ks,IsSl u)∧∀ (j:Nat) (u:Value),ks[j]? = some u→∃ l,r.key[j]? = some l∧Rs w u l):=⟨hks,hkl2,hksl,hke⟩
    have z0:W6.cell? ⟨wo.heap.size,0,none⟩=some (.bool r.bg):=by rw [cell_of hk6];rfl
    have z1:W6.cell? ⟨wo.heap.size,1,none⟩=some (.slice aa an ac):=by rw [cell_of hk6];rfl
    have z2:W6.cell? ⟨wo.heap.size,2,none⟩=some (.slice ka kn kc):=by rw [cell_of hk6];rfl
    have z3:W6.cell? ⟨wo.heap.size,3,none⟩=some (.slice pa pn pc):=by rw [cell_of hk6];rfl
    have z4:W6.cell? ⟨wo.heap.size,4,none⟩=some (.bool r.en):=by rw [cell_of hk6];rfl
    have z5:W6.cell? ⟨wo.heap.size,5,none⟩=some (.slice ta tn tc):=by rw [cell_of hk6];rfl
    have z6:W6.cell? ⟨wo.heap.size,6,none⟩=some (.int .i64 r.cu):=by rw [cell_of hk6];rfl
    have HL:Hid (∀ W,Grown (W6.alloc (.cells #[] 40)) W→OwnVs W W6.heap.size (.slice (some ⟨W6.heap.size,0,none⟩) 0 0) []∧W6.heap.size≤W.heap.size∧SVs W (.slice ka kn kc) ks∧Below W6.heap.size W6 W):=fun W hg=>by
     have hg2:Grown W6 W:=((Grown.refl W6).alloc (.cells #[] 40)).trans hg
     exact ⟨ownsRow_below8 (World.ownsRow_lit W6 _ 0 (Nat.le_refl _) (by unfold maxLen;omega) rfl:OwnVs (W6.alloc (.cells #[] 40)) W6.heap.size (.slice (some ⟨W6.heap.size,0,none⟩) 0 0) []) hg.below (Nat.le_refl _),hg2.size,HKS.out.1.below (HK.out.2.1.trans (hg2.below.mono HK.out.2.1.size)) (Nat.le_refl _),hg2.below⟩
    have HLD:=hidT (HL.out _ (Grown.refl _).drew)
    have hks8:ks.length≤8:=by rw [HKS.out.2.1];exact HR.out.2.1.k8
    have y0:=fun ob=>cell_up z0 ob
    have y1:=fun ob=>cell_up z1 ob
    have y2:=fun ob=>cell_up z2 ob
    have y3:=fun ob=>cell_up z3 ob
    have y4:=fun ob=>cell_up z4 ob
    have y5:=fun ob=>cell_up z5 ob
    have y6:=fun ob=>cell_up z6 ob
    clear hRR hok hat hre hRA hks hkl2 hksl hke hbel hb6 hk6 hl6 hb06 hkl
    go_upto_region 5 with fail
    clear q0 q1 q2 q3 q4 q5 q6 hW6
    go_cut [7] (fun vv wx=>Hid (∃ y1 y2 y3 vs,vv = .slice y1 y2 y3∧SVs wx (.slice y1 y2 y3) vs∧Below wo.heap.size wo wx∧vs.length=(waS r).length∧∀ (j:Nat) (u:Value),vs[j]? = some u→∃ l,(waS r)[j]? = some l∧Rs wx u l))
    case first=>
     go_region_law (first
      | (refine step_Vs rfl (.tmp 21) (.tmp 23) rfl W6.heap.size (.slice (some ⟨W6.heap.size,0,none⟩) 0 0) (.slice ka kn kc) [] ks rfl HLD.out.1 rfl HLD.out.2.2.1 HKS.out.2.2.1 (by simp;omega) HLD.out.2.1 ?_;intro e1 e2 e3 w7 hO7 hg7;rw [List.nil_append] at hO7;have H7:Hid (OwnVs w7 W6.heap.size (.slice e1 e2 e3) ks∧Below W6.heap.size W6 w7):=⟨hO7,HLD.out.2.2.2.grown hg7 HLD.out.2.1 fun j hj=>(by have e:some W6.heap.size=some j:=hj;injection e with e;omega)⟩;have b7:=HK.out.2.2 w7 H7.out.2;have z70:w7.cell? ⟨wo.heap.size,0,none⟩=some (.bool r.bg):=(by rw [cell_of b7];rfl);have z71:w7.cell? ⟨wo.heap.size,1,none⟩=some (.slice aa an ac):=(by rw [cell_of b7];rfl);have z72:w7.cell? ⟨wo.heap.size,2,none⟩=some (.slice ka kn kc):=(by rw [cell_of b7];rfl);have z73:w7.cell? ⟨wo.heap.size,3,none⟩=some (.slice pa pn pc):=(by rw [cell_of b7];rfl);have z74:w7.cell? ⟨wo.heap.size,4,none⟩=some (.bool r.en):=(by rw [cell_of b7];rfl);have z75:w7.cell? ⟨wo.heap.size,5,none⟩=some (.slice ta tn tc):=(by rw [cell_of b7];rfl);have z76:w7.cell? ⟨wo.heap.size,6,none⟩=some (.int .i64 r.cu):=(by rw [cell_of b7];rfl);clear hO7 hg7 b7)
      | (go_simp;go_at_call 46;go_must (refine (rimageZ_any r (.slice aa an ac) (.slice ka kn kc) (.slice pa pn pc) (.slice ta tn tc) w w7 HR.out.1 (HK.out.2.1.trans (H7.out.2.mono HK.out.2.1.size)) HR.out.2.1).mono ?_;rintro e w8 ⟨v8,rfl,hz8,hb8⟩;obtain ⟨i1,i2,hiv⟩:=hz8.form;subst hiv;obtain ⟨is,his,hil,hisl,hie⟩:=hz8.vals;have H8:=hidT (And.intro his (And.intro hil (And.intro hisl (And.intro hie hb8))));clear hz8 his hil hisl hie hb8 z70 z71 z72 z73 z74 z75 z76))
      | (refine step_Vs rfl (.tmp 24) (.tmp 26) rfl W6.heap.size _ _ ks is rfl (ownsRow_below8 H7.out.1 H8.out.2.2.2.2 (Nat.le_refl _)) rfl H8.out.1 H8.out.2.2.1 (by have:=H8.out.2.1;have:=HR.out.2.1.r16;have:=img_len r;omega) (Nat.le_trans H7.out.2.size H8.out.2.2.2.2.size) ?_;intro d1 d2 d3 w9 hO9 hg9;have H9:=hidT (And.intro hO9 hg9);clear hO9 hg9))
     all_goals
      have HF:Hid (∃ y1 y2 y3 vs,Value.slice d1 d2 d3 = .slice y1 y2 y3∧SVs w9 (.slice y1 y2 y3) vs∧Below wo.heap.size wo w9∧vs.length=(waS r).length∧∀ (j:Nat) (u:Value),vs[j]? = some u→∃ l,(waS r)[j]? = some l∧Rs w9 u l):=by
       have hlo:=World.ownsRow.lt H7.out.1
       have hB8:Below W6.heap.size W6 w8:=H7.out.2.trans (H8.out.2.2.2.2.mono H7.out.2.size)
       have hB9:Below W6.heap.size W6 w9:=hB8.grown H9.out.2 hB8.size fun j hj=>(hlo j hj).1
       have hB9w:Below w.heap.size w w9:=HK.out.2.1.trans (hB9.mono HK.out.2.1.size)
       refine ⟨d1,d2,d3,ks++is,rfl,OwnVs.sv H9.out.1,HK.out.1.trans (hB9.mono HK.out.1.size),by rw [List.length_append,HKS.out.2.1,H8.out.2.1];simp [waS],fun j u hj => ?_⟩
       unfold waS
       by_cases hjk:j<ks.length
       · rw [List.getElem?_append_left hjk] at hj
         rw [List.getElem?_append_left (by rw [←HKS.out.2.1];exact hjk)]
         obtain ⟨l,h1,h2⟩:=HKS.out.2.2.2 j u hj
         exact ⟨l,h1,h2.below hB9w (Nat.le_refl _)⟩
       · rw [List.getElem?_append_right (by omega)] at hj
         rw [List.getElem?_append_right (by rw [←HKS.out.2.1];omega),←HKS.out.2.1]
         refine H8.out.2.2.2.1 w9 ((fr_by H9.out.2).mono fun i _ e => ?_) _ u hj
         have h3:=hlo i e
         have h4:=HK.out.2.1.size
         omega
      clear H9 H8 H7 HL
      go_wp2
      go_meet
      exact HF.out
    case rest=>
     obtain ⟨y1,y2,y3,vs,e7,hsv,hbx,hvl,hve⟩:=hcut.out
     subst e7
     obtain ⟨A9,c9,e9,hc9,hv9⟩:=hsv
     injection e9 with e9 e9b e9c
     subst e9 e9c
     obtain ⟨m,hm⟩:∃ m,vs.length=m:=⟨_,rfl⟩
     obtain rfl:y2=m:=by omega
     have HV:Hid (vs.length=y2∧(vs=[]∨∃ g o,y1=some ⟨g,o,none⟩∧∀ (j:Nat) (hj:j<vs.length),wc.cell? ⟨g,o+j,none⟩=some vs[j])∧Below wo.heap.size wo wc∧vs.length=(waS r).length∧∀ (j:Nat) (u:Value),vs[j]? = some u→∃ l,(waS r)[j]? = some l∧Rs wc u l):=⟨hm,hv9,hbx,hvl,hve⟩
     have HVB:Hid (Below W1.heap.size W1 wc∧Below w.heap.size w wc):=by
      have h1:=HB.out.1.trans (hbx.mono HB.out.1.size)
      exact ⟨h1,HW.out.1.trans (h1.mono HW.out.1.size)⟩
     have hy3:y2≤y3:=by omega
     have hy24:y2≤24:=by have h1:=(waS_len HR.out.2.1).1;omega
     have H0:Hid (Below wc.heap.size wc wc∧∀ i l,i<0→(waS r)[i]? = some l→metB l s=false):=⟨Below.refl _ _,fun i l h=>by omega⟩
     clear hcut hv9 hbx hvl hve hm e9b hc9
     go_wp2
     go_loopw [8] (fun vi wr=>∃ j:Nat,vi = .int .i64 j∧j≤y2∧Hid (Below wc.heap.size wc wr∧∀ i l,i<j→(waS r)[i]? = some l→metB l s=false)) (fun vi _=>y2 - (intOf vi).toNat)
     case atStart=>exact ⟨0,rfl,by omega,H0.out⟩
     case round=>
      obtain ⟨j,rfl,hj,HJ⟩:=hrel
      clear H0
      by_cases hjl:j<y2
      · have hjl':(j:Int)<(y2:Int):=by omega
        have hjpos:(0:Int)≤(j:Int):=by omega
        have hjv:j<vs.length:=by rw [HV.out.1];exact hjl
        obtain ⟨g5,o5,rfl,h5⟩:=HV.out.2.1.resolve_left (by intro e;rw [e] at hjv;simp at hjv)
        have cu:=cell_below (h5 j hjv) HJ.out.1 (Nat.le_refl _)
        obtain ⟨l,hl,hRu⟩:=HV.out.2.2.2.2 j _ (List.getElem?_eq_getElem hjv)
        obtain ⟨u,hu⟩:∃ u,vs[j]'hjv=u:=⟨_,rfl⟩
        rw [hu] at cu hRu
        obtain ⟨ua,un,uc,rfl⟩:=hRu.sl
        have hokl:=waS_ok HR.out.2.1 l (List.mem_of_getElem? hl)
        obtain ⟨M,hM⟩:∃ M,metB l s=M:=⟨_,rfl⟩
        have HM:Hid (Calls Tryz.prog 104 #[.slice ua un uc,.slice sa sn sc] wr fun e w'=>e = .returned (.bool M)∧Below wr.heap.size wr w'):=by
         rw [←hM]
         exact rmeetT_any wr _ _ l s (hRu.below HJ.out.1 (Nat.le_refl _)) ((H.out.2.2.2.1.below HVB.out.2 (Nat.le_refl _)).below HJ.out.1 (Nat.le_refl _)) (okS_up hokl) H.out.2.2.2.2.1 (by have:=okS_512 hokl;omega) H.out.2.2.2.2.2
        have HL2:Hid ((waS r)[j]? = some l∧metB l s=M):=⟨hl,hM⟩
        clear h5 hu hl hRu hokl hM
        go_wp2_with fail
        refine HM.out.mono ?_
        rintro e w3 ⟨rfl,hb3⟩
        have HB3:Hid (Below wc.heap.size wc w3):=HJ.out.1.trans (hb3.mono HJ.out.1.size)
        clear hb3 HM cu
        cases M with
        | true=>
         have HF:Hid (C=true∧Below w.heap.size w w3):=⟨by
          rw [←HC.out]
          exact any_yes HR.out.2.2 (any_yes HL2.out.1 HL2.out.2),HVB.out.2.trans (HB3.out.mono HVB.out.2.size)⟩
         clear HJ HL2
         go_wp2
         go_ret
         have hc:=HF.out.1
         subst hc
         exact ⟨rfl,HF.out.2⟩
        | false=>
         have HF:Hid (Below wc.heap.size wc w3∧∀ i l,i<j+1→(waS r)[i]? = some l→metB l s=false):=⟨HB3.out,fun i l' hi h=>by
          by_cases h1:i<j
          · exact HJ.out.2 i l' h1 h
          · have h2:i=j:=by omega
            subst h2
            have:=HL2.out.1.symm.trans h
            injection this with this
            rw [←this,HL2.out.2]⟩
         clear HJ HL2
         go_wp2
         exact ⟨⟨j+1,by go_num,by omega,HF⟩,by simp [intOf];omega⟩
      · have HF:Hid (Below W1.heap.size W1 wr∧∀ i x,i<k+1→rs[i]? = some x→wmeet s x=false):=⟨HVB.out.1.trans (HJ.out.1.mono HVB.out.1.size),fun i x hi hx=>by
         by_cases h1:i<k
         · exact HB.out.2 i x h1 hx
         · have h2:i=k:=by omega
           subst h2
           have:=HR.out.2.2.symm.trans hx
           injection this with this
           rw [←this]
           exact any_no fun i l hi h=>HJ.out.2 i l (by have h1:=HV.out.1;have h2:=HV.out.2.2.2.1;omega) h⟩
        clear HJ HB
        go_wp2
        exact ⟨⟨k+1,by go_num,by omega,HF⟩,by simp [intOf];omega⟩
  · have HF:Hid (C=false∧Below w.heap.size w wo):=⟨by
     rw [←HC.out]
     exact any_no fun i x hi hx=>HB.out.2 i x (by have:=H.out.1;omega) hx,HW.out.1.trans (HB.out.1.mono HW.out.1.size)⟩
    clear HB
    go_wp2
    go_ret
    have hc:=HF.out.1
    subst hc
    exact ⟨rfl,HF.out.2⟩
end Go.Proofs
namespace Go.Proofs
open Go.RowKit Go.Shelf
set_option maxRecDepth 100000
attribute [local go_sem] Oper.semAt_some
theorem slice39 (B:Nat) (W:World):(Instr.slice 39 (.slice (some ⟨B,0,none⟩) 3 3) (some (.int .i64 2)) none none).run Tryz.prog W = .ok (.slice (some ⟨B,4,none⟩) 1 1) W:=by kernel_rfl
theorem rstrays_any (w:World):Calls Tryz.prog 105 #[] w fun e w'=>∃ y1 y2 y3,e = .returned (.slice y1 y2 y3)∧Rs w' (.slice y1 y2 y3) straysL∧Below w.heap.size w w':=by
 have hs:=slice39 w.heap.size
 go_enter Tryz.func105,Tryz.ntmps105
 go_wp2_with fail
 refine (domain_any w).mono ?_
 rintro e w1 ⟨rfl,rfl⟩
 go_wp2
 go_ret
 refine ⟨_,_,_,rfl,⟨_,1,rfl,Nat.le_refl _,.inr ⟨_,_,rfl,fun j hj => ?_⟩⟩,(Below.refl _ w).alloc (Nat.le_refl _) _⟩
 obtain rfl:j=0:=by simpa [straysL] using hj
 exact ⟨by rw [cell_of (World.alloc_heap_new _ _)];rfl,by rw [cell_of (World.alloc_heap_new _ _)];rfl⟩
def ralE (rs:List Rl) (r:Rl):Int:=
 if r.res.length=0∨r.cu<r.res.length then 191 else if (img r).any (fun l=>metB l straysL)=true then 191 else if 8<r.res.length then 194 else if telB r r.key.length=false then 192 else if r.ante.any (cmeet rs)=true then 190 else if r.post.any (cmeet rs)=true then 190 else 0
structure AlC (w W1:World) (rs:List Rl) (r:Rl) (rv av kv pv cv:Value) (E:Int):Prop where
 bel:Below w.heap.size w W1
 ps:PsR w rv rs
 rr:RR w av kv pv cv r
 ok:Ok r
 oks:∀ x∈rs,Ok x
 n256:rs.length≤256
 e:ralE rs r=E
 bx:∀ W,Below W1.heap.size W1 W→W.heap[w.heap.size]? = some (.cells #[rv] 24 (0,0))∧W.heap[w.heap.size+1]? = some (.cells #[.bool r.bg,av,kv,pv,.bool r.en,cv,.int .i64 r.cu] 60 (0,0))
theorem AlC.cells {w W1:World} {rs:List Rl} {r:Rl} {rv av kv pv cv:Value} {E:Int} (h:AlC w W1 rs r rv av kv pv cv E) {W:World} (hb:Below W1.heap.size W1 W) :
 W.cell? ⟨w.heap.size,0,none⟩=some rv∧W.cell? ⟨w.heap.size+1,0,none⟩=some (.bool r.bg)∧W.cell? ⟨w.heap.size+1,1,none⟩=some av∧W.cell? ⟨w.heap.size+1,2,none⟩=some kv∧W.cell? ⟨w.heap.size+1,3,none⟩=some pv∧W.cell? ⟨w.heap.size+1,4,none⟩=some (.bool r.en)∧W.cell? ⟨w.heap.size+1,5,none⟩=some cv∧W.cell? ⟨w.heap.size+1,6,none⟩=some (.int .i64 r.cu):=by
 obtain ⟨h1,h2⟩:=h.bx W hb
 exact ⟨by rw [cell_of h1];rfl,by rw [cell_of h2];rfl,by rw [cell_of h2];rfl,by rw [cell_of h2];rfl,by rw [cell_of h2];rfl,by rw [cell_of h2];rfl,by rw [cell_of h2];rfl,by rw [cell_of h2];rfl⟩
theorem AlC.meets {w W1:World} {rs:List Rl} {r:Rl} {rv av kv pv cv:Value} {E:Int} (h:AlC w W1 rs r rv av kv pv cv E) {W:World} (hb:Below W1.heap.size W1 W) {sv:Value} {s:List (Int × Int)} (hs:Rs W sv s) (hok:okS s=true) {M:Bool} (hM:cmeet rs s=M) :
 Calls Tryz.prog 106 #[.agg #[rv],sv] W fun e w'=>e = .returned (.bool M)∧Below W.heap.size W w':=by
 subst hM
 have hbw:=h.bel.trans (hb.mono h.bel.size)
 exact meets_any rv sv rs s W (h.ps.below hbw (Nat.le_refl _)) hs h.n256 h.oks (okS_up hok) (by have:=okS_512 hok;omega)
theorem SR.at {w:World} {A:Option Addr} {n c:Nat} {ls:List (List (Int × Int))} (h:SR w (.slice A n c) ls) {k:Nat} (hk:k<ls.length):∃ g o y1 y2 y3,A=some ⟨g,o,none⟩∧w.cell? ⟨g,o+k,none⟩=some (.slice y1 y2 y3)∧Rs w (.slice y1 y2 y3) ls[k]:=by
 obtain ⟨a,cap,e,hc,h3⟩:=h
 injection e with e1 e2 e3
 subst e1 e3
 obtain ⟨g,o,rfl,hr⟩:=h3.resolve_left (by intro e;rw [e] at hk;simp at hk)
 obtain ⟨sv,h1,h2⟩:=hr k hk
 obtain ⟨y1,y2,y3,rfl⟩:=h2.sl
 exact ⟨g,o,y1,y2,y3,rfl,h1,h2⟩
theorem SR.lens {w:World} {A:Option Addr} {n c:Nat} {ls:List (List (Int × Int))} (h:SR w (.slice A n c) ls):n=ls.length∧n≤c:=by
 obtain ⟨a,cap,e,hc,_⟩:=h
 injection e with e1 e2 e3
 omega
end Go.Proofs
