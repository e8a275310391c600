/-
  Several texts in one (Tq Id Ia Ib Ie Pg Tk Tl Oa9 Rv If Tr Ts Tj Fc La Lb Lc Qd Hg Ld Ep Le Ig Tm).
-/
import Derived.RangeFuncNested
import Derived.RangeFuncBound
import Derived.RangeFuncCalls
import Derived.RangeFuncLeaves
import Derived.Shelf.Abstract
import Derived.Shelf.RegionOpen
import Derived.WalkKit
import Derived.WalkSpells
import Derived.WalkLawsBesides
import Derived.OwnWalkIn
import Derived.TacticsInMore
import Derived.LoopNIn
import Derived.LoopIn
import Derived.BigQuiet
import Derived.RegionIn
import Derived.Deep.QuietTactic
import Derived.Deep.RegionWith
import Derived.Lib.OthersKept
import Derived.Maps.AppendAt
import Derived.Lib.SmallJoins
import Derived.Shelf.SlSortCmp.QuietGrown
import Derived.Deep.Upon
import Derived.Test.YtcfcjljapamcoabGreatDoorMgkr
import Derived.Test.YtcfcjljapamcoabGreatDoorWfr
import Derived.Test.YtcfcjljapamcoabGreatDoorMgjr
import Derived.Test.YtcfcjljapamcoabGreatDoorMgdr
import Derived.Test.YtcfcjljapamcoabGreatDoorMgar
import Derived.Deep.DeepCutAuto
import Derived.Deep.CutBlock
import Derived.Test.YtcfcjljapamcoabGreatDoorMpfr
import Derived.Test.YtcfcjljapamcoabGreatDoorMggr
import Derived.RangeFuncWrites
import Derived.RangeFuncBox
import Derived.Test.YtcfcjljapamcoabGreatDoorMpbr
import Derived.Deep.AppendLies
import Derived.Sort.LoopGhostIn
import Derived.Test.YtcfcjljapamcoabGreatDoorMgbr
import Derived.Deep.RegionLaw
import Derived.Laws.OwnMore
import Derived.Laws.ResultCell
import Derived.Carry
import Derived.Deep.LoopGhost
import Derived.Deep.Onto
namespace Go.Proofs
open Go.RowKit Go.Shelf
set_option maxRecDepth 100000
attribute [local go_sem] Oper.semAt_some
attribute [local go_sem ↓] Go.wp_at_zero Go.wp_at_succ
set_option maxHeartbeats 8000000 in
theorem step_rule {W0 w:World} {wb mb B:Nat} {v lv dv:Value} {g n c room N:Nat} {rs:List Rl} {d dn uu:List Int} {f:Int→Option Value} (hT0:Tab W0) (hz0:0<W0.heap.size) (h:WKB w wb v lv (.map (some mb)) dv (.slice (some ⟨g,0,none⟩) n c) room) (hm:IMap w mb N f) (hN:N<1000000000) (hP0:PsR W0 v rs) (hb0:Below W0.heap.size W0 w) (hm0:W0.heap.size≤mb) (hk0:∀ r∈rs,0<r.key.length∧r.key.length≤1000000) (hd:IR w lv d) (hdn:d.length≤1000000) (hdr:∀ x∈d,0≤x∧x<rs.length) (hF:FI w B rs d f) (hB:B≤w.heap.size)
 (hD:OwnI w B dv dn) (hdl:dn.length≤1000000000) (hU:OwnI w B (.slice (some ⟨g,0,none⟩) n c) uu) (hul:uu.length=n) (hr:room<n) (hn:n≤1000000000) (hui:∀ x∈uu.drop room,InI x) (hmw:mb<w.heap.size) (hn8:n≤100000000) (hdu:∀ b,dv.ownBlock=some b→b≠g) {i:Nat} (hi:i<rs.length) (hnx:nxtW rs d dn (uu.drop room)=i) (hkl:rs[i].key.length≤n - room) (hly:layB rs[i] ((uu.drop room).take rs[i].key.length)=true) (hOk:Ok rs[i]) {La Ba:List Int} (hLa:(outs rs[i] ((uu.drop room).take rs[i].key.length)).take rs[i].cu.toNat=La) (hBa:(outs rs[i] ((uu.drop room).take rs[i].key.length)).drop rs[i].cu.toNat=Ba) {kn:Nat} (hkn:rs[i].key.length=kn) :
 Calls Tryz.prog 69 #[.pointer (some ⟨wb,0,none⟩)] w (SkQ w B wb mb N rs d dn uu v lv dv (.slice (some ⟨g,0,none⟩) n c) n room f #[.int .i64 (i:Int),.int .i64 (dn.length:Int),.int .i64 ((n - room:Nat):Int),.int .i64 (kn:Int),.int .i64 (La.length:Int),.int .i64 (Ba.length:Int)] La Ba kn):=by
 have hnc:n≤c:=by
  rcases hU.2 with ⟨e,_⟩ | ⟨g',cap,cur,e,_,_,h1,_⟩
  · cases e
  · injection e with e1 e2 e3
    rw [hul] at h1
    omega
 have hna:nowA (some ⟨g,0,none⟩) c room=some ⟨g,room,none⟩:=by
  unfold nowA
  rw [if_neg (by omega)]
  simp only [Option.map_some,Addr.add]
  split <;> simp_all
 have HNA:=Hid.mk' hna
 have HN:Hid (∀ W,Grown w W→Calls Tryz.prog 68 #[.pointer (some ⟨wb,4,none⟩)] W fun e w'=>w'=W.drew∧e = .returned (.slice (some ⟨g,room,none⟩) (n - room) (c - room))):=fun W gw=>by
  have:=now_any (h.fr (fr_grown gw fun _=>False) id) (by omega) hnc (fun e=>by cases e)
  rwa [hna] at this
 have HX:Hid (∀ W,Grown w W→Calls Tryz.prog 94 #[.pointer (some ⟨wb,0,none⟩)] W fun e w3=>∃ f',e = .returned (.int .i64 (i:Int))∧NxW W w3 B mb N rs d f'∧FM w.heap.size f f'):=fun W gw=>by
  have gb:=gw.below
  refine (next_any hT0 hz0 (h.fr (fr_grown gw fun _=>False) id) (hm.kept fun o ho=>(gb.block mb (blk_lt ho)).trans ho) hN hP0 (hb0.trans (gb.mono hb0.size)) hm0 hk0 (hd.grown gw) hdn hdr (fun x xv hx=>(hF x xv hx).below gb (Nat.le_refl _)) (by have:=gw.size;omega) (hD.below gb (Nat.le_refl _)) hdl (hU.below gb (Nat.le_refl _)) hul hr hn hui).mono ?_
  rintro e w3 ⟨f',rfl,h1,h2,h3,h4⟩
  refine ⟨f',by rw [hnx],⟨h1,h2,h3⟩,fun x xv hx=>(h4 x xv hx).imp id fun hb b hbb=>Nat.le_trans gw.size (hb b hbb)⟩
 have hwm:wb≠mb:=fun e=>by
  obtain ⟨es,cc,he⟩:=hm.isMap
  have h':=h
  unfold WKB at h'
  rw [e,he] at h'
  cases h'
 have hne:∀ {v':Value} {l:List Int},OwnI w B v' l→∀ b,v'.ownBlock=some b→b≠mb:=fun ho b hb e=>by
  obtain ⟨cur,hc⟩:=own_at ho hb
  obtain ⟨es,cc,he⟩:=hm.isMap
  rw [e,he] at hc
  cases hc
 have HDO:Hid (∀ W,(Fr w W fun k=>k=mb)→OwnI W B dv dn):=fun W hf=>own_fr hD hf fun b hb e=>hne hD b hb e
 have HUO:Hid (∀ W,(Fr w W fun k=>k=mb)→OwnI W B (.slice (some ⟨g,0,none⟩) n c) uu):=fun W hf=>own_fr hU hf fun b hb e=>hne hU b hb e
 have HLen:Hid (La.length≤16∧Ba.length≤16):=by
  have ho:(outs rs[i] ((uu.drop room).take rs[i].key.length)).length=rs[i].res.length:=by simp [outs]
  have q1:=hOk.r16
  have e3:La.length≤rs[i].res.length:=by rw [←hLa,List.length_take,ho];omega
  have e4:Ba.length≤rs[i].res.length:=by rw [←hBa,List.length_drop,ho];omega
  exact ⟨by omega,by omega⟩
 have kn1:(1:Int)≤(kn:Int):=by have:=hOk.k0;omega
 have kn8:(kn:Int)≤8:=by have:=hOk.k8;omega
 have hknn:kn≤n - room:=by omega
 have knI:(kn:Int)≤((n - room:Nat):Int):=by omega
 have kcI:(kn:Int)≤((c - room:Nat):Int):=by omega
 have nrI:(1:Int)≤((n - room:Nat):Int):=by omega
 have crI:(1:Int)≤((c - room:Nat):Int):=by omega
 have HPW:Hid (∀ W,(Fr w W fun k=>k=mb)→Tab W∧PsR W v rs):=fun W hf=>by
  have hb2:Below W0.heap.size W0 W:=hb0.trans (hf.below (fun k e=>by omega) hb0.size)
  exact ⟨hT0.below hb2 hz0,hP0.below hb2 (Nat.le_refl _)⟩
 obtain ⟨dva,dvc,hdv⟩:=hD.sl
 subst hdv
 obtain ⟨ra,rc,hrv,_,hPr⟩:=hP0
 obtain ⟨rg,ro,hra,_⟩:=hPr.resolve_left (fun e=>by rw [e] at hi;simp at hi)
 subst hra
 subst hrv
 clear hPr
 obtain ⟨rn,hrn⟩:∃ rn,rs.length=rn:=⟨_,rfl⟩
 have HRN:=Hid.mk' hrn
 rw [hrn] at h HPW
 have iI:(i:Int)<(rn:Int):=by omega
 have i0:(0:Int)≤(i:Int):=by omega
 have HW:=Hid.mk' h
 clear h hm hN hb0 hk0 hd hdr hF hui hT0 hz0 hnx hna hrn
 rw [HRN.out]
 go_enter Tryz.func69,Tryz.ntmps69
 go_wp2_with (first
  | (go_at_call 68
     refine (HN.out _ (by (repeat (first | exact Grown.refl _ | refine Grown.alloc ?_ _ | refine Grown.drew ?_)))).mono ?_
     rintro e w2 ⟨rfl,rfl⟩)
  | (go_at_call 94
     refine (HX.out _ (by (repeat (first | exact Grown.refl _ | refine Grown.alloc ?_ _ | refine Grown.drew ?_)))).mono ?_
     rintro e w3 ⟨f',rfl,hx3,hfm⟩
     have HX3:=Hid.mk' hx3
     have HFM:=Hid.mk' hfm
     clear hx3 hfm))
 have HF3:Hid (Fr w w3 fun k=>k=mb):=(fr_grown (((Grown.refl w).alloc _).drew) _).trans HX3.out.fr fun _ _ e=>e
 have HRB3':Hid (w3.heap[w.heap.size]? = some (.cells #[.int .i64 0,.int .i64 0,.int .i64 0,.int .i64 0,.int .i64 0,.int .i64 0] 126 (0,0))):=(HX3.out.fr.block w.heap.size (by simp) (by omega)).trans (heap_alloc_new w _)
 have c0:w3.cell? ⟨wb,0,none⟩=some (.slice (some ⟨rg,ro,none⟩) rn rc):=by rw [cell_of (HW.out.fr HF3.out hwm)];rfl
 obtain ⟨hT3,hP3⟩:=HPW.out w3 HF3.out
 obtain ⟨a7,c7,e7,_,h7⟩:=hP3
 obtain ⟨rg',ro',e8,hR⟩:=h7.resolve_left fun e=>by rw [e] at hi;simp at hi
 injection e7 with e7 e7b e7c
 clear e7b e7c
 rw [e8] at e7
 injection e7 with e7
 injection e7 with e9 e10 _
 subst e9 e10
 obtain ⟨av,kv,pv,rv,q0,q1,q2,q3,q4,q5,q6,hRR⟩:=hR i hi
 obtain ⟨r,hr⟩:∃ r,rs[i]'hi=r:=⟨_,rfl⟩
 rw [hr] at hRR hOk q0 q4 q6 hly hLa hBa hkn
 obtain ⟨ka,kc,hkv,hkc,hx2⟩:=hRR.k
 rw [hkn] at hkv hkc
 subst hkv
 have HRR:=Hid.mk' hRR
 obtain ⟨a1,n1,c1',rfl⟩:=HRR.out.a.sl
 obtain ⟨a3,n3,c3',rfl⟩:=HRR.out.p.sl
 obtain ⟨a5,n5,c5,rfl⟩:=HRR.out.r.sl
 obtain ⟨xb,hxb⟩:∃ xb,r.bg=xb:=⟨_,rfl⟩
 obtain ⟨xe,hxe⟩:∃ xe,r.en=xe:=⟨_,rfl⟩
 obtain ⟨xc,hxc⟩:∃ xc,r.cu=xc:=⟨_,rfl⟩
 have HLd:Hid (∀ V,Grown w3 V→Calls Tryz.prog 95 #[.agg #[.bool xb,.slice a1 n1 c1',.slice ka kn kc,.slice a3 n3 c3',.bool xe,.slice a5 n5 c5,.int .i64 xc],.slice (some ⟨g,room,none⟩) kn (c - room)] V fun e w'=>∃ g1 g2,e = .returned (.tuple #[.slice (some ⟨g1,0,none⟩) La.length La.length,.slice (some ⟨g2,0,none⟩) Ba.length Ba.length])∧w3.heap.size≤g1∧w3.heap.size≤g2∧IR w' (.slice (some ⟨g1,0,none⟩) La.length La.length) La∧IR w' (.slice (some ⟨g2,0,none⟩) Ba.length Ba.length) Ba∧Below w3.heap.size w3 w'):=fun V hg=>by
  have hu:=ir_now (room:=room) (HUO.out w3 HF3.out).ir hul hnc (by omega)
  rw [show nowA (some ⟨g,0,none⟩) c room=some ⟨g,room,none⟩ from HNA.out] at hu
  have hu2:=(ir_take hu hknn).grown hg
  have:=lays_any r (.slice a1 n1 c1') (.slice ka kn kc) (.slice a3 n3 c3') (.slice a5 n5 c5) (.slice (some ⟨g,room,none⟩) kn (c - room)) ((uu.drop room).take kn) V (hT3.grown hg) (HRR.out.grown hg) hu2
  rw [hxb,hxe,hxc] at this
  refine this.mono ?_
  rintro e w' ⟨v1,v2,rfl,ho,hB⟩
  rcases ho with ⟨h1,_⟩ | ⟨_,h1,h2,_⟩
  · rw [←hkn,hly] at h1;cases h1
  · rw [←hkn,hLa] at h1
    rw [←hkn,hBa] at h2
    have hl1:=HLen.out
    have i1:=(h1.own (by unfold maxLen;omega)).ir
    have i2:=(h2.own (by unfold maxLen;omega)).ir
    obtain ⟨g1,rfl,hg1,_⟩:=h1
    obtain ⟨g2,rfl,hg2,_⟩:=h2
    have:=hg.size
    exact ⟨g1,g2,rfl,by omega,by omega,i1,i2,hg.below.trans (hB.mono hg.size)⟩
 rw [hxb] at q0
 rw [hxe] at q4
 rw [hxc] at q6
 clear hRR hR h7 hT3 hx2 hly hLa hBa hkn hr hxb hxe hxc HRR hOk hkl
 go_region
 have c0':w3.drew.cell? ⟨wb,0,none⟩=some (.slice (some ⟨rg,ro,none⟩) rn rc):=c0
 go_wp2_with fail
 refine (HLd.out _ (by (repeat (first | exact Grown.refl _ | refine Grown.alloc ?_ _ | refine Grown.drew ?_ | refine Grown.drewN ?_ _ | refine Grown.quiet ?_ _ _)))).mono ?_
 rintro e wq ⟨g1,g2,rfl,hg1,hg2,hi1,hi2,hb4⟩
 have HFQ:Hid (Fr w wq fun k=>k=mb):=HF3.out.trans (fr_below hb4 (Nat.le_refl _) _) fun _ _ e=>e
 have HRQ:wq.heap[w.heap.size]? = some (.cells #[.int .i64 0,.int .i64 0,.int .i64 0,.int .i64 0,.int .i64 0,.int .i64 0] 126 (0,0)):=(hb4.block _ (blk_lt HRB3'.out)).trans HRB3'.out
 have H3Q:Hid (Fr w3 wq fun k=>k=wb∨(Value.slice dva dn.length dvc).ownBlock=some k):=fr_below hb4 (Nat.le_refl _) _
 have HR3Q:Hid (∃ cs,w3.heap[w.heap.size]? = some (.cells cs 126 (0,0))):=⟨_,HRB3'.out⟩
 have hwlt0:w.heap.size<w3.heap.size:=blk_lt HRB3'.out
 have hwb0:wb<w.heap.size:=blk_lt HW.out
 have HIQ:Hid (IR wq (.slice (some ⟨g1,0,none⟩) La.length La.length) La):=hi1
 have HLQ:Hid (La.length≤1000000∧Ba.length≤1000000):=by have:=HLen.out;exact ⟨by omega,by omega⟩
 have hob:∀ b,(Value.slice (some ⟨g2,0,none⟩) Ba.length Ba.length).ownBlock=some b→g2=b:=fun b hb=>by injection hb
 have HJQ:Hid (IR wq (.slice (some ⟨g2,0,none⟩) Ba.length Ba.length) Ba∧(Value.slice (some ⟨g2,0,none⟩) Ba.length Ba.length).ownBlock≠some wb∧∀ b,(Value.slice (some ⟨g2,0,none⟩) Ba.length Ba.length).ownBlock=some b→¬ b<w.heap.size):=⟨hi2,fun e=>by have:=hob _ e;omega,fun b hb=>by have:=hob _ hb;omega⟩
 clear hg1 hg2 hi1 hi2 hb4 hob c0 c0' q0 q1 q2 q3 q4 q5 q6
 have HRB3:Hid (wq.heap[w.heap.size]? = some (.cells #[.int .i64 0,.int .i64 0,.int .i64 0,.int .i64 0,.int .i64 0,.int .i64 0] 126 (0,0))):=HRQ
 have HW3:=Hid.mk' (HW.out.fr HFQ.out hwm)
 have c3:wq.cell? ⟨wb,3,none⟩=some (.slice dva dn.length dvc):=by
  rw [cell_of HW3.out];rfl
 obtain ⟨W4,hW4⟩:∃ W4,W4=wq.alloc (.cells #[.int .i64 (i:Int),.int .i64 (dn.length:Int),.int .i64 ((n - room:Nat):Int),.int .i64 (kn:Int),.int .i64 (La.length:Int),.int .i64 (Ba.length:Int)] 126):=⟨_,rfl⟩
 have g4:Grown wq W4:=by rw [hW4];exact (Grown.refl _).alloc _
 have hW4w:=HW3.out.fr (fr_grown g4 fun _=>False) id
 have c34:W4.cell? ⟨wb,3,none⟩=some (.slice dva dn.length dvc):=by rw [cell_of hW4w];rfl
 have hO4:OwnI W4 B (.slice dva dn.length dvc) dn:=OwnI.below (HDO.out wq HFQ.out) g4.below (Nat.le_refl _)
 have hU4:OwnI W4 B (.slice (some ⟨g,0,none⟩) n c) uu:=OwnI.below (HUO.out wq HFQ.out) g4.below (Nat.le_refl _)
 have hI4:IR W4 (.slice (some ⟨g1,0,none⟩) La.length La.length) (La):=HIQ.out.below g4.below (Nat.le_refl _)
 have hl1:(La).length≤1000000:=HLQ.out.1
 have hl5:(dn++La).length=dn.length+(La).length:=by rw [List.length_append]
 have hs4:B≤W4.heap.size:=by have:=g4.size;have:=HFQ.out.size;omega
 have hne4:∀ b,(Value.slice dva dn.length dvc).ownBlock=some b→b≠wb:=fun b hb=>hW4w.ne hO4 hb
 have htb:W4.heap[wq.heap.size]? = some (.cells #[.int .i64 (i:Int),.int .i64 (dn.length:Int),.int .i64 ((n - room:Nat):Int),.int .i64 (kn:Int),.int .i64 (La.length:Int),.int .i64 (Ba.length:Int)] 126 (0,0)):=by rw [hW4];exact heap_alloc_new _ _
 have hdlt:∀ b,(Value.slice dva dn.length dvc).ownBlock=some b→b<w.heap.size:=fun b hb=>(World.ownsRow.lt hD b hb).2
 have HA:Hid (∀ v5 w5,OwnI w5 B v5 (dn++La)→W4.grownBy w5 (Value.slice dva dn.length dvc).ownBlock→(v5.ownBlock=(Value.slice dva dn.length dvc).ownBlock∨v5.ownBlock=some W4.heap.size)→∃ p1 p2 p3,v5 = .slice p1 p2 p3∧OwnI w5 B v5 (dn++La)∧WKB w5 wb (.slice (some ⟨rg,ro,none⟩) rn rc) lv (.map (some mb)) (.slice dva dn.length dvc) (.slice (some ⟨g,0,none⟩) n c) room∧OwnI w5 B (.slice (some ⟨g,0,none⟩) n c) uu∧(Fr wq w5 fun k=>(Value.slice dva dn.length dvc).ownBlock=some k)∧w5.heap[wq.heap.size]? = some (.cells #[.int .i64 (i:Int),.int .i64 (dn.length:Int),.int .i64 ((n - room:Nat):Int),.int .i64 (kn:Int),.int .i64 (La.length:Int),.int .i64 (Ba.length:Int)] 126 (0,0))∧(v5.ownBlock=(Value.slice dva dn.length dvc).ownBlock∨∃ g,v5.ownBlock=some g∧wq.heap.size≤g)):=fun v5 w5 h1 h2 h6=>by
  obtain ⟨p1,p3,hv⟩:=h1.sl
  have hf:=fr_by h2
  refine ⟨p1,_,p3,hv,h1,hW4w.fr hf fun e=>hne4 wb e rfl,own_fr hU4 hf fun b hb e => ?_,(fr_grown g4 _).trans hf fun _ _ e=>e,(hf.block _ (blk_lt htb) fun e => ?_).trans htb,h6.imp id fun e=>⟨_,e,g4.size⟩⟩
  · injection hb with hb
    exact hdu b e (by have hb:g=b:=hb;omega)
  · have:=hdlt _ e
    have:=HFQ.out.size
    omega
 have HO4:=Hid.mk' hO4
 have HI4:=Hid.mk' hI4
 have HG4:=Hid.mk' g4
 clear hU4 hI4 hO4 hl5 hne4 htb
 subst hW4
 go_wp2_with (at_builtin;go_must (refine app_I3 rfl _ _ rfl B _ _ dn (La) rfl HO4.out rfl HI4.out (by omega) hs4 ?_;intro v5 w5 hO5 hg5 hk5;have HA5:=Hid.mk' (HA.out v5 w5 hO5 hg5 hk5);clear hO5 hg5 hk5;obtain ⟨p1,p2,p3,hv5,hA5⟩:=HA5.out;subst hv5;have HB5:=Hid.mk' hA5;have e35:w5.cell? ⟨wb,3,none⟩=some (.slice dva dn.length dvc):=(cell_of hA5.2.1).trans rfl;have f35:w5.frozen? ⟨wb,3,none⟩=false:=free_of hA5.2.1;clear hA5 HA5))
 have hs3:=HFQ.out.size
 have hwlt:wb<w.heap.size:=blk_lt HW.out
 have hglt:g<w.heap.size:=(World.ownsRow.lt hU g rfl).2
 have hsz3:w.heap.size<wq.heap.size:=blk_lt HRB3.out
 have hW6:=HB5.out.2.1.done (.slice p1 p2 p3)
 have hf6:=fr_set w5 wb 3 (.slice p1 p2 p3)
 have hU6:OwnI (w5.setCell ⟨wb,3,none⟩ (.slice p1 p2 p3)) B (.slice (some ⟨g,0,none⟩) n c) uu:=own_fr HB5.out.2.2.1 hf6 fun b hb e=>HB5.out.2.1.ne HB5.out.2.2.1 hb e
 have hO6:OwnI (w5.setCell ⟨wb,3,none⟩ (.slice p1 p2 p3)) B (.slice p1 p2 p3) (dn++La):=own_fr HB5.out.1 hf6 fun b hb e=>HB5.out.2.1.ne HB5.out.1 hb e
 have hz5:wq.heap.size≤w5.heap.size:=HB5.out.2.2.2.1.size
 have hI6:IR (w5.setCell ⟨wb,3,none⟩ (.slice p1 p2 p3)) (.slice (some ⟨g2,0,none⟩) Ba.length Ba.length) (Ba):=(HJQ.out.1.fr HB5.out.2.2.2.1 fun b hb e=>HJQ.out.2.2 b hb (hdlt b e)).fr hf6 fun b hb e=>HJQ.out.2.1 (by rw [hb,e])
 refine (swap_any (took:=kn) (bl:=Ba) (bv:=(.slice (some ⟨g2,0,none⟩) Ba.length Ba.length)) hW6 hU6 hul (by omega) hn8 hI6 HJQ.out.2.1 HLQ.out.2 (by simp [World.setCell];omega)).mono ?_
 rintro e w7 ⟨rfl,hQ⟩
 have hgb:∀ k,(Value.slice (some ⟨g,0,none⟩) n c).ownBlock=some k→k=g:=fun k hk=>by injection hk with hk;exact hk.symm
 have ht7:w7.heap[wq.heap.size]? = some (.cells #[.int .i64 (i:Int),.int .i64 (dn.length:Int),.int .i64 ((n - room:Nat):Int),.int .i64 (kn:Int),.int .i64 (La.length:Int),.int .i64 (Ba.length:Int)] 126 (0,0)):=by
  have h1:=HB5.out.2.2.2.2.1
  have h2:=(hf6.block _ (blk_lt h1) (by omega)).trans h1
  refine (hQ.fr.block _ (blk_lt h2) ?_).trans h2
  rintro (e | e)
  · omega
  · have:=hgb _ e;omega
 have hr7:w7.heap[w.heap.size]? = some (.cells #[.int .i64 0,.int .i64 0,.int .i64 0,.int .i64 0,.int .i64 0,.int .i64 0] 126 (0,0)):=by
  have h1:=(HB5.out.2.2.2.1.block _ hsz3 fun e=>by have:=(World.ownsRow.lt hD _ e).2;omega).trans HRB3.out
  have h2:=(hf6.block _ (blk_lt h1) (by omega)).trans h1
  refine (hQ.fr.block _ (blk_lt h2) ?_).trans h2
  rintro (e | e)
  · omega
  · have:=hgb _ e;omega
 have t0:w7.cell? ⟨wq.heap.size,0,none⟩=some (.int .i64 (i:Int)):=(cell_of ht7).trans rfl
 have t1:w7.cell? ⟨wq.heap.size,1,none⟩=some (.int .i64 (dn.length:Int)):=(cell_of ht7).trans rfl
 have t2:w7.cell? ⟨wq.heap.size,2,none⟩=some (.int .i64 ((n - room:Nat):Int)):=(cell_of ht7).trans rfl
 have t3:w7.cell? ⟨wq.heap.size,3,none⟩=some (.int .i64 (kn:Int)):=(cell_of ht7).trans rfl
 have t4:w7.cell? ⟨wq.heap.size,4,none⟩=some (.int .i64 (La.length:Int)):=(cell_of ht7).trans rfl
 have t5:w7.cell? ⟨wq.heap.size,5,none⟩=some (.int .i64 (Ba.length:Int)):=(cell_of ht7).trans rfl
 have HQ:=Hid.mk' hQ
 have HO6:=Hid.mk' hO6
 have r0:w7.cell? ⟨w.heap.size,0,none⟩=some (.int .i64 0):=(cell_of hr7).trans rfl
 have r1:w7.cell? ⟨w.heap.size,1,none⟩=some (.int .i64 0):=(cell_of hr7).trans rfl
 have r2:w7.cell? ⟨w.heap.size,2,none⟩=some (.int .i64 0):=(cell_of hr7).trans rfl
 have r3:w7.cell? ⟨w.heap.size,3,none⟩=some (.int .i64 0):=(cell_of hr7).trans rfl
 have r4:w7.cell? ⟨w.heap.size,4,none⟩=some (.int .i64 0):=(cell_of hr7).trans rfl
 have r5:w7.cell? ⟨w.heap.size,5,none⟩=some (.int .i64 0):=(cell_of hr7).trans rfl
 have f0:=free_of (j:=0) hr7
 have f1:=free_of (j:=1) hr7
 have f2:=free_of (j:=2) hr7
 have f3:=free_of (j:=3) hr7
 have f4:=free_of (j:=4) hr7
 have f5:=free_of (j:=5) hr7
 have HR7:=Hid.mk' hr7
 clear hQ ht7 hr7 hO6 hU6 hf6 hW6 hgb e35 f35 c34 hI6
 go_wp2
 refine ret_st rfl rfl (set_heap (set_heap (set_heap (set_heap (set_heap (set_heap HR7.out)))))) ?_
 have hNx:NxW w w3 B mb N rs d f':=⟨HX3.out.map,HX3.out.fi,HF3.out⟩
 have hFr6:Fr w3 (w5.setCell ⟨wb,3,none⟩ (.slice p1 p2 p3)) fun k=>k=wb∨(Value.slice dva dn.length dvc).ownBlock=some k:=(H3Q.out.trans HB5.out.2.2.2.1 fun _ _ e => .inr e).trans (fr_set _ _ _ _) fun _ _ e => .inl e
 have hblk:(Value.slice p1 p2 p3).ownBlock=(Value.slice dva dn.length dvc).ownBlock∨∃ g,(Value.slice p1 p2 p3).ownBlock=some g∧w3.heap.size≤g:=HB5.out.2.2.2.2.2.imp id fun ⟨g,e1,e2⟩=>⟨g,e1,Nat.le_trans H3Q.out.size e2⟩
 refine ⟨w3,f',_,_,w7,rfl,hNx,HFM.out,HR3Q.out,HO6.out,hblk,hFr6,HQ.out,?_⟩
 exact ((((((fr_set _ _ _ _).trans (fr_set _ _ _ _) fun _ _ e=>e).trans (fr_set _ _ _ _) fun _ _ e=>e).trans (fr_set _ _ _ _) fun _ _ e=>e).trans (fr_set _ _ _ _) fun _ _ e=>e).trans (fr_set _ _ _ _) fun _ _ e=>e)
def wS (rs:List Rl) (st:St):List Int→Int
 | []=>0
 | u::l=>wK rs st u+wS rs st l
theorem wS_append (rs:List Rl) (st:St) (l k:List Int):wS rs st (l++k)=wS rs st l+wS rs st k:=by
 induction l with
 | nil=>simp [wS]
 | cons u l ih=>simp only [List.cons_append,wS,ih];omega
open Classical in
noncomputable def gmx (rs:List Rl) (st:St) (P:Int→Prop):Nat→Int
 | 0=>0
 | n+1=>if ∃ u,P u∧wK rs st u=((n+1:Nat):Int) then ((n+1:Nat):Int) else gmx rs st P n
theorem gmx_ge {rs:List Rl} {st:St} {P:Int→Prop} {u:Int} (hu:P u):∀ n:Nat,wK rs st u≤n→1≤wK rs st u→wK rs st u≤gmx rs st P n
 | 0,h,h1=>by omega
 | n+1,h,h1=>by
  rw [gmx]
  split
  · exact h
  · rename_i hn
    refine gmx_ge hu n ?_ h1
    by_cases e:wK rs st u=((n+1:Nat):Int)
    · exact absurd ⟨u,hu,e⟩ hn
    · omega
theorem gmx_is {rs:List Rl} {st:St} {P:Int→Prop} : ∀ n:Nat,gmx rs st P n=0∨∃ u,P u∧wK rs st u=gmx rs st P n
 | 0 => .inl rfl
 | n+1=>by
  rw [gmx]
  split
  · rename_i h
    obtain ⟨u,h1,h2⟩:=h
    exact .inr ⟨u,h1,h2⟩
  · exact gmx_is n
noncomputable def gG (rs:List Rl) (st:St) (s:List (Int × Int)):Int:=gmx rs st (hasU s) 64
theorem gG_ge {rs:List Rl} {st:St} (h:Fin rs st) {s:List (Int × Int)} {u:Int} (hu:hasU s u):wK rs st u≤gG rs st s:=gmx_ge hu 64 (h.wK_in u).2 (h.wK_in u).1
theorem gG_le {rs:List Rl} {st:St} (h:Fin rs st) {j:Nat} (hj:j<st.bk.length):gG rs st (usAt st.bk j)≤wtAt st.bk j:=by
 have hpos:1≤wtAt st.bk j:=by
  unfold wtAt
  rw [List.getElem?_eq_getElem hj]
  exact (h.run.ok.pb _ (List.getElem_mem hj)).2.1
 rcases gmx_is (rs:=rs) (st:=st) (P:=hasU (usAt st.bk j)) 64 with e | ⟨u,h1,h2⟩
 · unfold gG;omega
 · unfold gG
   rw [←h2]
   exact h.unit_leK hj h1
def cys:List Pc→List Nat
 | []=>[]
 | p::l=>if p.k=2 then p.y.toNat::cys l else cys l
theorem cys_len (l:List Pc):((cys l).length:Int)=copN l:=by
 induction l with
 | nil=>rfl
 | cons p l ih=>
  simp only [cys,copN]
  split
  · simp only [List.length_cons];omega
  · omega
theorem cys_mem:∀ {l:List Pc} {y:Nat},y∈cys l→∃ p∈l,p.k=2∧p.y.toNat=y
 | p::l,y,h=>by
  simp only [cys] at h
  split at h
  · rename_i hk
    rcases List.mem_cons.1 h with rfl | h
    · exact ⟨p,List.mem_cons_self,hk,rfl⟩
    · obtain ⟨q,h1,h2⟩:=cys_mem h
      exact ⟨q,List.mem_cons_of_mem _ h1,h2⟩
  · obtain ⟨q,h1,h2⟩:=cys_mem h
    exact ⟨q,List.mem_cons_of_mem _ h1,h2⟩
theorem cpW_no:∀ (l:List Pc) (c:List Bool),c.length=8→(∀ p∈l,p.k=2→p.y.toNat<8)→cpW c l=false→(cys l).Nodup∧∀ y∈cys l,(c[y]?).getD false=false
 | [],c,_,_,_=>⟨List.nodup_nil,by simp [cys]⟩
 | p::l,c,hc,h8,h=>by
  rw [cpW] at h
  rw [cys]
  by_cases hk:p.k=2
  · rw [if_neg (by omega)] at h
    rw [if_pos hk]
    have hy8:=h8 p List.mem_cons_self hk
    by_cases hy:(c[p.y.toNat]?).getD false=true
    · rw [if_pos hy] at h;cases h
    · rw [if_neg hy] at h
      obtain ⟨h1,h2⟩:=cpW_no l (c.set p.y.toNat true) (by simp [hc]) (fun q hq=>h8 q (List.mem_cons_of_mem _ hq)) h
      have hne:∀ z∈cys l,z≠p.y.toNat∧(c[z]?).getD false=false:=fun z hz=>by
       have:=h2 z hz
       rw [List.getElem?_set] at this
       by_cases e:p.y.toNat=z
       · rw [if_pos e,if_pos (by omega)] at this
         simp at this
       · rw [if_neg e] at this
         exact ⟨fun e2=>e e2.symm,this⟩
      refine ⟨List.nodup_cons.2 ⟨fun hm=>(hne _ hm).1 rfl,h1⟩,fun y hy' => ?_⟩
      rcases List.mem_cons.1 hy' with rfl | hy'
      · simpa using hy
      · exact (hne y hy').2
  · rw [if_pos hk] at h
    rw [if_neg hk]
    exact cpW_no l c hc (fun q hq=>h8 q (List.mem_cons_of_mem _ hq)) h
def sF (F:Nat→Int):List Nat→Int
 | []=>0
 | y::l=>F y+sF F l
def sR (F:Nat→Int):Nat→Int
 | 0=>0
 | n+1=>sR F n+F n
theorem sF_same {F G:Nat→Int} : ∀ (l:List Nat),(∀ y∈l,F y=G y)→sF F l=sF G l
 | [],_=>rfl
 | y::l,h=>by
  rw [sF,sF,h y List.mem_cons_self,sF_same l fun z hz=>h z (List.mem_cons_of_mem _ hz)]
theorem sR_nonneg {F:Nat→Int} (h:∀ j,0≤F j):∀ n,0≤sR F n
 | 0=>Int.le_refl _
 | n+1=>by have:=sR_nonneg h n;have:=h n;rw [sR];omega
theorem sR_without (F:Nat→Int) (y:Nat):∀ n,sR (fun j=>if j=y then 0 else F j) n=sR F n - if y<n then F y else 0
 | 0=>by simp [sR]
 | n+1=>by
  rw [sR,sR,sR_without F y n]
  by_cases e:n=y
  · subst e
    rw [if_pos rfl,if_neg (by omega),if_pos (by omega)]
    omega
  · rw [if_neg e]
    by_cases h:y<n
    · rw [if_pos h,if_pos (by omega)];omega
    · rw [if_neg h,if_neg (by omega)];omega
theorem nodup_sum {n:Nat} : ∀ (l:List Nat) (F:Nat→Int),(∀ j,0≤F j)→l.Nodup→(∀ y∈l,y<n)→sF F l≤sR F n
 | [],F,h,_,_=>sR_nonneg h n
 | y::l,F,h,hn,hy=>by
  have hn2:=List.nodup_cons.1 hn
  have ih:=nodup_sum l (fun j=>if j=y then 0 else F j) (fun j=>by by_cases e:j=y <;> simp [e,h]) hn2.2 (fun z hz=>hy z (List.mem_cons_of_mem _ hz))
  rw [sR_without,if_pos (hy y List.mem_cons_self)] at ih
  rw [sF,sF_same l (G:=fun j=>if j=y then 0 else F j) fun z hz=>by
   have:z≠y:=fun e=>hn2.1 (e ▸ hz)
   simp [this]]
  omega
theorem sR_shift (F:Nat→Int):∀ n,sR F (n+1)=F 0+sR (fun j=>F (j+1)) n
 | 0=>by simp [sR]
 | n+1=>by rw [sR,sR_shift F n,sR];omega
theorem wS_sR (rs:List Rl) (st:St):∀ us:List Int,wS rs st us=sR (fun j=>wK rs st (us[j]?.getD 0)) us.length
 | []=>rfl
 | u::us=>by
  rw [List.length_cons,sR_shift,wS,wS_sR rs st us]
  simp
theorem sR_minus (F:Nat→Int):∀ n,sR (fun j=>if j=0 then 0 else F j - 1) (n+1)=sR F (n+1) - F 0 - n
 | 0=>by simp [sR]
 | n+1=>by
  have e:sR F (n+1+1)=sR F (n+1)+F (n+1):=rfl
  rw [sR,sR_minus F n,if_neg (by omega),e]
  omega
theorem back_sum {rs:List Rl} {st:St} (n:Nat) (us:List Int) (f:Pc→Int) (G:List (Int × Int)→Int):∀ l:List Pc,(∀ p∈l,(p.k≠2→wK rs st (f p)≤G (mayB p))∧(p.k=2→f p=us[p.y.toNat]?.getD 0))→wS rs st (l.map f)≤gs G (pbs n l) n+sF (fun j=>wK rs st (us[j]?.getD 0)) (cys l)
 | [],_=>by simp [wS,pbs,gs,cys,sF]
 | p::l,h=>by
  have ih:=back_sum n us f G l fun q hq=>h q (List.mem_cons_of_mem _ hq)
  have hp:=h p List.mem_cons_self
  rw [List.map_cons,wS]
  simp only [pbs,cys]
  by_cases hk:p.k=2
  · rw [if_pos hk,if_pos hk,sF,hp.2 hk]
    omega
  · rw [if_neg hk,if_neg hk]
    have:=hp.1 hk
    simp only [gs,if_pos]
    omega
theorem sF_minus (F:Nat→Int):∀ l:List Nat,(∀ y∈l,y≠0)→sF (fun j=>if j=0 then 0 else F j - 1) l=sF F l - l.length
 | [],_=>by simp [sF]
 | y::l,h=>by
  rw [sF,sF,sF_minus F l fun z hz=>h z (List.mem_cons_of_mem _ hz),if_neg (h y List.mem_cons_self),List.length_cons]
  omega
theorem Fin.light {rs:List Rl} {st:St} (h:Fin rs st) {i:Nat} (hi:i<rs.length) {us:List Int} (hl:layB rs[i] us=true):wS rs st ((backP rs[i]).map (wrt rs[i].key us))+1≤wS rs st us:=by
 have hO:=h.ok _ (List.getElem_mem hi)
 have hst:stB rs[i].key us=true:=by simp only [layB,Bool.and_eq_true] at hl;exact hl.2
 have hlen:=st_len hst
 have hk0:=hO.k0
 have hw:=fun p (hp:p∈backP rs[i])=>wr_any hl (List.mem_of_mem_drop hp)
 have h1:=back_sum (rs:=rs) (st:=st) i us (wrt rs[i].key us) (gG rs st) (backP rs[i]) fun p hp=>by
  have w:=hw p hp
  refine ⟨fun h2=>gG_ge h ?_,fun h2 => ?_⟩
  · rcases w.k with k | k | k
    · rw [w.k1 k,mayB,if_neg (by omega)]
      exact ⟨(p.u,p.u),by simp,Int.le_refl _,Int.le_refl _⟩
    · exact absurd k h2
    · rw [mayB,if_pos k]
      have:=w.k3 k
      simp only [hasB,Bool.and_eq_true,decide_eq_true_eq] at this
      exact this.2
  · obtain ⟨j,hj,h3,h4⟩:=w.k2 h2
    rw [h3,←h4]
    simp [hj]
 have h2:=h.gen (gG rs st) (fun j hj=>gG_le h hj) hi
 have hcp:=h.cp _ (List.getElem_mem hi)
 have hy:∀ p∈backP rs[i],p.k=2→p.y.toNat<us.length:=fun p hp k=>by
  obtain ⟨j,hj,h3,_⟩:=(hw p hp).k2 k
  omega
 have hn:=cpW_no (backP rs[i]) _ (by simp) (fun p hp k=>by have:=hy p hp k;have:=hO.k8;omega) hcp
 have hne:∀ y∈cys (backP rs[i]),y≠0:=fun y hy e=>by
  have:=hn.2 y hy
  subst e
  simp at this
 have hlt:∀ y∈cys (backP rs[i]),y<us.length:=fun y hy'=>by
  obtain ⟨p,hp,k,e⟩:=cys_mem hy'
  rw [←e]
  exact hy p hp k
 have h3:=nodup_sum (n:=us.length) (cys (backP rs[i])) (fun j=>if j=0 then 0 else wK rs st (us[j]?.getD 0) - 1) (fun j=>by
  have:=(h.wK_in (us[j]?.getD 0)).1
  by_cases e:j=0
  · simp [e]
  · simp only [e,if_false];omega) hn.1 hlt
 rw [sF_minus _ _ hne,cys_len] at h3
 obtain ⟨n,hn'⟩:∃ n,us.length=n+1:=⟨us.length - 1,by omega⟩
 rw [hn',sR_minus (fun j=>wK rs st (us[j]?.getD 0)) n,←hn',←wS_sR] at h3
 have h4:at0 st.ws i≤wK rs st (us[0]?.getD 0):=by
  refine Fin.wK_ge hi ?_
  have:=st_at hst hk0 (by omega)
  rw [fstS_at hi,show keyAt rs[i].key 0=rs[i].key[0] by simp [keyAt,hk0]]
  rw [List.getElem?_eq_getElem (by omega)]
  exact this
 omega
def stF (r:Rl) (d l:List Int):Bool:=
 if l.length<r.key.length+r.post.length∨d.length<r.ante.length then false
 else if (r.bg=true∧r.ante.length<d.length)∨(r.en=true∧r.key.length+r.post.length<l.length) then false
 else (stB r.key (l.take r.key.length) && stB r.post ((l.drop r.key.length).take r.post.length)) && stB r.ante (d.drop (d.length - r.ante.length))
theorem stF_key {r:Rl} {d l:List Int} (h:stF r d l=true):r.key.length≤l.length∧stB r.key (l.take r.key.length)=true:=by
 unfold stF at h
 split at h
 · cases h
 · rename_i h1
   split at h
   · cases h
   · simp only [Bool.and_eq_true] at h
     exact ⟨by omega,h.1.1⟩
def kl (rs:List Rl) (i:Int):Nat:=((rs[i.toNat]?).map fun r=>r.key.length).getD 0
def nxtK (rs:List Rl) (d l:List Int):Nat→Int
 | 0 => -1
 | k+1=>if ((rs[k]?).map fun r=>stF r d l).getD false=true∧(nxtK rs d l k<0∨kl rs (nxtK rs d l k)<kl rs k) then (k:Int) else nxtK rs d l k
theorem nxtK_is (rs:List Rl) (d l:List Int):∀ k,k≤rs.length→nxtK rs d l k = -1∨∃ i:Nat,∃ hi:i<rs.length,i<k∧nxtK rs d l k=i∧stF rs[i] d l=true
 | 0,_ => .inl rfl
 | k+1,hk=>by
  rw [nxtK]
  split
  · rename_i h
    refine .inr ⟨k,by omega,by omega,rfl,?_⟩
    have:=h.1
    rw [List.getElem?_eq_getElem (by omega)] at this
    simpa using this
  · rcases nxtK_is rs d l k (by omega) with h | ⟨i,hi,h1,h2⟩
    · exact .inl h
    · exact .inr ⟨i,hi,by omega,h2⟩
structure Stp where
 (r d l t a b:Int)
def stepL (rs:List Rl) (l:List Int) (x:Stp):List Int:=
 if x.r<0 then l.drop 1 else match rs[x.r.toNat]? with
 | none=>[]
 | some r=>(backP r).map (wrt r.key (l.take x.t.toNat))++l.drop x.t.toNat
def OkStp (rs:List Rl) (l:List Int) (x:Stp):Prop:=
 (x.r = -1∧x.t=1∧x.a=1∧0<l.length)∨∃ (i:Nat) (hi:i<rs.length),x.r=i∧x.t=rs[i].key.length∧rs[i].key.length≤l.length∧layB rs[i] (l.take rs[i].key.length)=true∧x.a=rs[i].cu
def AllU (l:List Int):Prop:=∀ u∈l,wd u≠0
theorem AllU.append {l k:List Int} (h:AllU l) (h2:AllU k):AllU (l++k):=fun u hu=>(List.mem_append.1 hu).elim (h u) (h2 u)
theorem stepL_rule {rs:List Rl} {l:List Int} {x:Stp} {i:Nat} (hi:i<rs.length) (h1:x.r=i) (h2:x.t=rs[i].key.length):stepL rs l x=(backP rs[i]).map (wrt rs[i].key (l.take rs[i].key.length))++l.drop rs[i].key.length:=by
 unfold stepL
 rw [if_neg (by omega),h1,h2]
 simp [hi]
theorem back_units {r:Rl} {us:List Int} (hl:layB r us=true):AllU ((backP r).map (wrt r.key us)):=fun u hu=>by
 obtain ⟨p,hp,rfl⟩:=List.mem_map.1 hu
 exact (wr_any hl (List.mem_of_mem_drop hp)).w
theorem OkStp.light {rs:List Rl} {st:St} (h:Fin rs st) {l:List Int} {x:Stp} (hx:OkStp rs l x):wS rs st (stepL rs l x)+1≤wS rs st l:=by
 rcases hx with ⟨h1,h2,h3,h4⟩ | ⟨i,hi,h1,h2,h3,h4,h5⟩
 · unfold stepL
   rw [if_pos (by omega)]
   match l,h4 with
   | u::l,_=>
    rw [List.drop_one,List.tail_cons,wS]
    have:=(h.wK_in u).1
    omega
 · rw [stepL_rule hi h1 h2,wS_append]
   have:=h.light hi h4
   have e:wS rs st l=wS rs st (l.take rs[i].key.length)+wS rs st (l.drop rs[i].key.length):=by rw [←wS_append,List.take_append_drop]
   omega
theorem OkStp.units {rs:List Rl} {l:List Int} {x:Stp} (hx:OkStp rs l x) (hu:AllU l):AllU (stepL rs l x):=by
 rcases hx with ⟨h1,h2,h3,h4⟩ | ⟨i,hi,h1,h2,h3,h4,h5⟩
 · unfold stepL
   rw [if_pos (by omega)]
   exact fun u h=>hu u (List.mem_of_mem_drop h)
 · rw [stepL_rule hi h1 h2]
   exact (back_units h4).append fun u h=>hu u (List.mem_of_mem_drop h)
def lft (rs:List Rl) (l:List Int) (xs:List Stp):List Int:=xs.foldl (stepL rs) l
theorem lft_snoc (rs:List Rl) (l:List Int) (xs:List Stp) (x:Stp):lft rs l (xs++[x])=stepL rs (lft rs l xs) x:=by simp [lft]
def GoOk (rs:List Rl) (l:List Int) (xs:List Stp):Prop:=∀ (i:Nat) (h:i<xs.length),OkStp rs (lft rs l (xs.take i)) xs[i]
theorem GoOk.nil (rs:List Rl) (l:List Int):GoOk rs l []:=fun i h=>by simp at h
theorem GoOk.snoc {rs:List Rl} {l:List Int} {xs:List Stp} {x:Stp} (h:GoOk rs l xs) (hx:OkStp rs (lft rs l xs) x):GoOk rs l (xs++[x]):=fun i hi=>by
 by_cases e:i<xs.length
 · have:=h i e
   rw [List.take_append_of_le_length (by omega),List.getElem_append_left e]
   exact this
 · have e2:i=xs.length:=by rw [List.length_append,List.length_singleton] at hi;omega
   subst e2
   simpa using hx
theorem lft_succ (rs:List Rl) (l:List Int) (xs:List Stp) {i:Nat} (h:i<xs.length):lft rs l (xs.take (i+1))=stepL rs (lft rs l (xs.take i)) xs[i]:=by
 rw [List.take_add_one,List.getElem?_eq_getElem h]
 exact lft_snoc rs l _ _
theorem GoOk.weight {rs:List Rl} {st:St} (hF:Fin rs st) {l:List Int} {xs:List Stp} (h:GoOk rs l xs):∀ i,i≤xs.length→(i:Int)+wS rs st (lft rs l (xs.take i))≤wS rs st l
 | 0,_=>by simp [lft]
 | i+1,hi=>by
  have ih:=h.weight hF i (by omega)
  have:=(h i (by omega)).light hF
  rw [lft_succ rs l xs (by omega)]
  omega
theorem wS_len {rs:List Rl} {st:St} (h:Fin rs st):∀ l:List Int,(l.length:Int)≤wS rs st l∧wS rs st l≤64*l.length
 | []=>by simp [wS]
 | u::l=>by
  have:=wS_len h l
  have:=h.wK_in u
  rw [wS,List.length_cons]
  omega
def sumA:List Stp→Int
 | []=>0
 | x::l=>x.a+sumA l
theorem sumA_snoc (l:List Stp) (x:Stp):sumA (l++[x])=sumA l+x.a:=by
 induction l with
 | nil=>simp [sumA]
 | cons y l ih=>simp only [List.cons_append,sumA,ih];omega
theorem nextS_ok {rs:List Rl} (hc:∀ r∈rs,chk r=0) (d:List Int) {l:List Int} (hl:0<l.length) :
 (nxtK rs d l rs.length = -1∧OkStp rs l ⟨-1,d.length,l.length,1,1,0⟩)∨∃ (i:Nat) (hi:i<rs.length),nxtK rs d l rs.length=i∧rs[i].key.length≤l.length∧layB rs[i] (l.take rs[i].key.length)=true∧OkStp rs l ⟨i,d.length,l.length,rs[i].key.length,rs[i].cu,(backP rs[i]).length⟩:=by
 rcases nxtK_is rs d l rs.length (Nat.le_refl _) with h | ⟨i,hi,_,h1,h2⟩
 · exact .inl ⟨h,.inl ⟨rfl,rfl,rfl,hl⟩⟩
 · have h3:=stF_key h2
   have h4:layB rs[i] (l.take rs[i].key.length)=true:=by
    simp only [layB,Bool.and_eq_true,decide_eq_true_eq]
    exact ⟨hc _ (List.getElem_mem hi),h3.2⟩
   exact .inr ⟨i,hi,h1,h3.1,h4,.inr ⟨i,hi,rfl,rfl,h3.1,h4,rfl⟩⟩
def ruleN (rs:List Rl) (d l:List Int):Option Rl:=if nxtK rs d l rs.length<0 then none else rs[(nxtK rs d l rs.length).toNat]?
def stp (rs:List Rl) (d l:List Int):Stp:=match ruleN rs d l with
 | none=>⟨-1,d.length,l.length,1,1,0⟩
 | some r=>⟨nxtK rs d l rs.length,d.length,l.length,r.key.length,r.cu,(backP r).length⟩
def layd (rs:List Rl) (d l:List Int):List Int:=match ruleN rs d l with
 | none=>l.take 1
 | some r=>(outs r (l.take r.key.length)).take r.cu.toNat
def lefd (rs:List Rl) (d l:List Int):List Int:=match ruleN rs d l with
 | none=>l.drop 1
 | some r=>(outs r (l.take r.key.length)).drop r.cu.toNat++l.drop r.key.length
def go3 (rs:List Rl) (l0:List Int):Nat→List Stp × List Int × List Int
 | 0=>([],[],l0)
 | k+1=>if (go3 rs l0 k).2.2=[] then go3 rs l0 k else ((go3 rs l0 k).1++[stp rs (go3 rs l0 k).2.1 (go3 rs l0 k).2.2],(go3 rs l0 k).2.1++layd rs (go3 rs l0 k).2.1 (go3 rs l0 k).2.2,lefd rs (go3 rs l0 k).2.1 (go3 rs l0 k).2.2)
def G3 (rs:List Rl) (l0:List Int) (xs:List Stp) (d l:List Int):Prop:=go3 rs l0 xs.length=(xs,d,l)
theorem G3.nil (rs:List Rl) (l0:List Int):G3 rs l0 [] [] l0:=rfl
theorem G3.snoc {rs:List Rl} {l0:List Int} {xs:List Stp} {d l:List Int} (h:G3 rs l0 xs d l) (hl:l≠[]):G3 rs l0 (xs++[stp rs d l]) (d++layd rs d l) (lefd rs d l):=by
 unfold G3 at h ⊢
 rw [List.length_append,List.length_singleton,go3,h]
 simp only []
 rw [if_neg hl]
theorem go3_stay {rs:List Rl} {l0:List Int} {k:Nat} (h:(go3 rs l0 k).2.2=[]):∀ m,go3 rs l0 (k+m)=go3 rs l0 k
 | 0=>rfl
 | m+1=>by
  have ih:=go3_stay h m
  rw [←Nat.add_assoc,go3,ih,if_pos h]
theorem G3.one {rs:List Rl} {l0:List Int} {xs xs':List Stp} {d d':List Int} (h:G3 rs l0 xs d []) (h':G3 rs l0 xs' d' []):xs=xs'∧d=d':=by
 unfold G3 at h h'
 have key:∀ (a b:Nat),a≤b→(go3 rs l0 a).2.2=[]→go3 rs l0 b=go3 rs l0 a:=fun a b hab h0=>by
  have:=go3_stay h0 (b - a)
  rwa [show a+(b - a)=b by omega] at this
 have e:(xs,d,([]:List Int))=(xs',d',[]):=by
  rcases Nat.le_total xs.length xs'.length with hl | hl
  · have:=key _ _ hl (by rw [h])
    rw [h,h'] at this
    exact this.symm
  · have:=key _ _ hl (by rw [h'])
    rw [h,h'] at this
    exact this
 injection e with e1 e2
 injection e2 with e2 _
 exact ⟨e1,e2⟩
theorem stp_none {rs:List Rl} {d l:List Int} (h:nxtK rs d l rs.length = -1):stp rs d l=⟨-1,d.length,l.length,1,1,0⟩∧layd rs d l=l.take 1∧lefd rs d l=l.drop 1:=by
 have e:ruleN rs d l=none:=by unfold ruleN;rw [if_pos (by omega)]
 unfold stp layd lefd
 rw [e]
 exact ⟨rfl,rfl,rfl⟩
theorem stp_rule {rs:List Rl} {d l:List Int} {i:Nat} (hi:i<rs.length) (h:nxtK rs d l rs.length=i):stp rs d l=⟨i,d.length,l.length,rs[i].key.length,rs[i].cu,(backP rs[i]).length⟩∧layd rs d l=(outs rs[i] (l.take rs[i].key.length)).take rs[i].cu.toNat∧lefd rs d l=(outs rs[i] (l.take rs[i].key.length)).drop rs[i].cu.toNat++l.drop rs[i].key.length:=by
 have e:ruleN rs d l=some rs[i]:=by unfold ruleN;rw [if_neg (by omega),h];simp [hi]
 unfold stp layd lefd
 rw [e,h]
 exact ⟨rfl,rfl,rfl⟩
structure G3K (rs:List Rl) (l0:List Int) (k:Nat) (p:List Stp × List Int × List Int):Prop where
 ok:GoOk rs l0 p.1
 lf:lft rs l0 p.1=p.2.2
 dn:(p.2.1.length:Int)=sumA p.1
 d16:p.2.1.length≤16*p.1.length
 un:AllU l0→AllU p.2.2∧AllU p.2.1
 k:p.1.length=k∨p.1.length≤k∧p.2.2=[]
theorem stp_ok {rs:List Rl} (hc:∀ r∈rs,chk r=0) (d:List Int) {l:List Int} (hl:l≠[]):OkStp rs l (stp rs d l)∧stepL rs l (stp rs d l)=lefd rs d l∧(layd rs d l).length=(stp rs d l).a∧(layd rs d l).length≤16∧(AllU l→AllU (layd rs d l)):=by
 have hl0:=List.length_pos_iff.2 hl
 rcases nextS_ok hc d hl0 with ⟨h,hok⟩ | ⟨i,hi,h,h2,h3,hok⟩
 · obtain ⟨e1,e2,e3⟩:=stp_none h
   rw [e1,e2,e3]
   refine ⟨hok,by unfold stepL;rw [if_pos (show (-1:Int)<0 by decide)],by simp;omega,by simp;omega,fun hu u h=>hu u (List.mem_of_mem_take h)⟩
 · obtain ⟨e1,e2,e3⟩:=stp_rule hi h
   rw [e1,e2,e3]
   have hO:=chk_ok (hc _ (List.getElem_mem hi))
   have ho:(outs rs[i] (l.take rs[i].key.length)).length=rs[i].res.length:=by simp [outs]
   have q1:=hO.r16
   have q2:=hO.c0
   have q3:=hO.c1
   have e4:((outs rs[i] (l.take rs[i].key.length)).take rs[i].cu.toNat).length=rs[i].cu.toNat:=by rw [List.length_take,ho];omega
   refine ⟨hok,?_,by rw [e4];show _=rs[i].cu;omega,by rw [e4];omega,fun hu u h => ?_⟩
   · rw [stepL_rule hi rfl rfl]
     simp [outs,backP,List.map_drop]
   · obtain ⟨p,hp,rfl⟩:=List.mem_map.1 (List.mem_of_mem_take h)
     exact (wr_any h3 hp).w
theorem go3_ok {rs:List Rl} (hc:∀ r∈rs,chk r=0) (l0:List Int):∀ k,G3K rs l0 k (go3 rs l0 k)
 | 0=>⟨GoOk.nil _ _,rfl,rfl,by simp [go3],fun h=>⟨h,fun u hu=>by simp [go3] at hu⟩,.inl rfl⟩
 | k+1=>by
  have ih:=go3_ok hc l0 k
  rw [go3]
  by_cases hl:(go3 rs l0 k).2.2=[]
  · rw [if_pos hl]
    exact ⟨ih.ok,ih.lf,ih.dn,ih.d16,ih.un,.inr ⟨by rcases ih.k with h | h <;> omega,hl⟩⟩
  · rw [if_neg hl]
    obtain ⟨h1,h2,h3,h4,h5⟩:=stp_ok hc (go3 rs l0 k).2.1 hl
    have hk:(go3 rs l0 k).1.length=k:=ih.k.resolve_right fun h=>hl h.2
    refine ⟨ih.ok.snoc (by rw [ih.lf];exact h1),by rw [lft_snoc,ih.lf];exact h2,?_,?_,fun hu => ?_,.inl (by simp [hk])⟩
    · have:=ih.dn
      rw [sumA_snoc,List.length_append]
      omega
    · have:=ih.d16
      simp only [List.length_append,List.length_singleton]
      omega
    · have:=ih.un hu
      refine ⟨?_,this.2.append (h5 this.1)⟩
      show AllU (lefd rs _ _)
      rw [←h2]
      exact h1.units this.1
theorem G3.k {rs:List Rl} (hc:∀ r∈rs,chk r=0) {l0:List Int} {xs:List Stp} {d l:List Int} (h:G3 rs l0 xs d l):G3K rs l0 xs.length (xs,d,l):=by
 have:=go3_ok hc l0 xs.length
 unfold G3 at h
 rwa [h] at this
theorem G3.lens {rs:List Rl} {st:St} (hF:Fin rs st) (hc:∀ r∈rs,chk r=0) {l0:List Int} {xs:List Stp} {d l:List Int} (h:G3 rs l0 xs d l):(xs.length:Int)+l.length≤wS rs st l0∧wS rs st l0≤64*l0.length∧d.length≤16*xs.length:=by
 have hk:=h.k hc
 have h1:=hk.ok.weight hF xs.length (Nat.le_refl _)
 have e:lft rs l0 (xs.take xs.length)=l:=by rw [List.take_length];exact hk.lf
 rw [e] at h1
 have h2:=(wS_len hF l0).2
 have h3:=(wS_len hF l).1
 exact ⟨by omega,h2,hk.d16⟩
def fin3 (rs:List Rl) (st:St) (l0:List Int):List Stp × List Int × List Int:=go3 rs l0 (wS rs st l0).toNat
theorem fin3_end {rs:List Rl} {st:St} (hF:Fin rs st) (hc:∀ r∈rs,chk r=0) (l0:List Int):(fin3 rs st l0).2.2=[]:=by
 unfold fin3
 have hk:=go3_ok hc l0 (wS rs st l0).toNat
 rcases hk.k with h | h
 · have h1:=hk.ok.weight hF _ (Nat.le_refl _)
   rw [List.take_length,hk.lf,h] at h1
   have h2:=(wS_len hF l0).1
   have h3:=(wS_len hF (go3 rs l0 (wS rs st l0).toNat).2.2).1
   exact List.eq_nil_of_length_eq_zero (by omega)
 · exact h.2
theorem go3_pre (rs:List Rl) (l0:List Int):∀ k m,(go3 rs l0 k).1 <+: (go3 rs l0 (k+m)).1
 | k,0=>List.prefix_refl _
 | k,m+1=>by
  refine (go3_pre rs l0 k m).trans ?_
  rw [←Nat.add_assoc,go3]
  split
  · exact List.prefix_refl _
  · exact List.prefix_append _ _
theorem fin3_G3 {rs:List Rl} {st:St} (hF:Fin rs st) (hc:∀ r∈rs,chk r=0) (l0:List Int):G3 rs l0 (fin3 rs st l0).1 (fin3 rs st l0).2.1 []:=by
 have he:=fin3_end hF hc l0
 have hk:=go3_ok hc l0 (wS rs st l0).toNat
 unfold G3
 have key:go3 rs l0 (fin3 rs st l0).1.length=fin3 rs st l0:=by
  have:∀ K,go3 rs l0 (go3 rs l0 K).1.length=go3 rs l0 K:=fun K=>by
   induction K with
   | zero=>rfl
   | succ K ih=>
    by_cases hl:(go3 rs l0 K).2.2=[]
    · have e:go3 rs l0 (K+1)=go3 rs l0 K:=by rw [go3,if_pos hl]
      rw [e,ih]
    · have hK:=(go3_ok hc l0 K).k.resolve_right fun h=>hl h.2
      have e:(go3 rs l0 (K+1)).1.length=K+1:=by rw [go3,if_neg hl];simp [hK]
      rw [e]
  exact this _
 rw [key]
 rcases hX:fin3 rs st l0 with ⟨a,b,c⟩
 rw [hX] at he
 simp only at he
 rw [he]
theorem G3.prefix {rs:List Rl} {l0:List Int} {xs xf:List Stp} {d l df:List Int} (h:G3 rs l0 xs d l) (hf:G3 rs l0 xf df []):xs=xf.take xs.length:=by
 unfold G3 at h hf
 rcases Nat.le_total xs.length xf.length with h1 | h1
 · have hp:=go3_pre rs l0 xs.length (xf.length - xs.length)
   rw [show xs.length+(xf.length - xs.length)=xf.length by omega,hf,h] at hp
   exact List.prefix_iff_eq_take.1 hp
 · have:=go3_stay (rs:=rs) (l0:=l0) (k:=xf.length) (by rw [hf]) (xs.length - xf.length)
   rw [show xf.length+(xs.length - xf.length)=xs.length by omega,h,hf] at this
   injection this with e _
   rw [e];simp
theorem beg_of_fit {r:Rl} {u:Int} {dn lr:List Int} (h:fitsB r dn (u::lr)=true):fitsB (key1 r) [] [u]=true:=by
 unfold fitsB at h
 rw [Bool.and_eq_true,decide_eq_true_iff] at h
 obtain ⟨h1,h2⟩:=h
 have hO:=chk_ok h1
 unfold fitB at h2
 rw [Bool.and_eq_true] at h2
 have hk:=hO.k0
 have hS:=hO.kS
 cases hke:r.key with
 | nil=>rw [hke] at hk;simp at hk
 | cons s ks=>
  rw [hke] at h2 hS
  have h3:=h2.1
  rw [List.cons_append] at h3
  unfold stU at h3
  rw [Bool.and_eq_true] at h3
  rw [List.all_cons,Bool.and_eq_true] at hS
  have hc:chk (key1 r)=0:=by
   unfold chk key1
   simp [hke,hS.1,fstE]
  unfold fitsB fitB
  rw [hc]
  simp [key1,hke,stU,h3.1]
theorem begF_fit {rs:List Rl} {u:Int} {dn lr:List Int} (n:Int):(begF rs u n && fitN rs dn (u::lr) n)=fitN rs dn (u::lr) n:=by
 unfold begF fitN
 cases rs[n.toNat]? with
 | none=>rfl
 | some r=>
  cases hf:fitsB r dn (u::lr) with
  | false=>simp [hf]
  | true=>simp [hf,beg_of_fit hf]
theorem nxtW_eq (rs:List Rl) (d dn:List Int) (u:Int) (lr:List Int):nxtW rs d dn (u::lr)=(d.find? (fitN rs dn (u::lr))).getD (-1):=by
 unfold nxtW begL
 rw [List.find?_filter]
 have e:(fun a=>decide (begF rs ((u::lr).headD 0) a=true∧fitN rs dn (u::lr) a=true))=fitN rs dn (u::lr):=by
  funext n
  have:=begF_fit (rs:=rs) (u:=u) (dn:=dn) (lr:=lr) n
  refine Eq.trans ?_ this
  rw [Bool.decide_and,Bool.decide_eq_true,Bool.decide_eq_true]
  rfl
 rw [e]
theorem pig:∀ (n:Nat) (f:Nat→Nat),(∀ i,i<n→f i<n)→(∀ i j,i<j→j<n→f i≠f j)→∀ m,m<n→∃ i,i<n∧f i=m
 | 0,_,_,_,m,hm=>by omega
 | n+1,f,h1,h2,m,hm=>by
  have ih:=pig n (fun i=>if f i=n then f n else f i) (fun i hi=>by
   have a:=h1 i (by omega)
   have b:=h1 n (by omega)
   have c:=h2 i n hi (by omega)
   show (if f i=n then f n else f i)<n
   split <;> omega) (fun i j hij hj=>by
   have a:=h2 i j hij (by omega)
   have b:=h2 i n (by omega) (by omega)
   have c:=h2 j n hj (by omega)
   show (if f i=n then f n else f i)≠(if f j=n then f n else f j)
   split <;> split <;> omega)
  by_cases hmn:m=n
  · by_cases hp:f n=n
    · exact ⟨n,by omega,by omega⟩
    · obtain ⟨i,hi,he⟩:=ih (f n) (by have:=h1 n (by omega);omega)
      have c:=h2 i n hi (by omega)
      have he:(if f i=n then f n else f i)=f n:=he
      split at he
      · rename_i h;exact ⟨i,by omega,by omega⟩
      · exact absurd he c
  · obtain ⟨i,hi,he⟩:=ih m (by omega)
    have he:(if f i=n then f n else f i)=m:=he
    split at he
    · exact ⟨n,by omega,he⟩
    · exact ⟨i,by omega,he⟩
theorem bAt_in {d:List Int} {i:Nat} (h:i<d.length):bAt d i=d[i]:=by simp [bAt,h]
theorem ord_all {key:Int→Int} {d:List Int} {n:Nat} (h:Sg key d 0 n) (m:Nat) (hm:m<n):∃ i,i<n∧bAt d i=(m:Int):=by
 obtain ⟨i,hi,he⟩:=pig n (fun i=>(bAt d i).toNat) (fun i hi=>by have:=h.r i (Nat.zero_le _) hi;show (bAt d i).toNat<n;omega) (fun i j hij hj=>by
  have a:=h.s i j (Nat.zero_le _) hij hj
  have b:=h.r i (Nat.zero_le _) (by omega)
  have c:=h.r j (Nat.zero_le _) hj
  show (bAt d i).toNat≠(bAt d j).toNat
  intro e
  have e2:bAt d i=bAt d j:=by omega
  unfold lt at a
  rw [e2] at a
  omega) m hm
 have b:=h.r i (Nat.zero_le _) hi
 have he:(bAt d i).toNat=m:=he
 exact ⟨i,hi,by omega⟩
theorem fitN_at {rs:List Rl} {dn lf:List Int} {j:Nat} (hj:j<rs.length) (hc:chk rs[j]=0):fitN rs dn lf (j:Int)=fitB rs[j] dn lf:=by
 unfold fitN
 rw [Int.toNat_natCast,List.getElem?_eq_getElem hj]
 simp [fitsB,hc]
theorem nxt_best {rs:List Rl} {d dn lf:List Int} (h:Sg (klI rs) d 0 rs.length) (hl:d.length=rs.length) (hall:(allE rs).2=0) (hck:∀ r∈rs,chk r=0):(d.find? (fitN rs dn lf)).getD (-1)=fdF rs dn lf:=by
 obtain ⟨m,hB⟩:=fdF_best dn lf hall
 have hfit:∀ (j:Nat) (hj:j<rs.length),fitN rs dn lf (j:Int)=fitB rs[j] dn lf:=fun j hj=>fitN_at hj (hck _ (List.getElem_mem hj))
 cases hf:d.find? (fitN rs dn lf) with
 | none=>
  have hno:=List.find?_eq_none.1 hf
  rcases hB with ⟨e,_⟩ | ⟨j,hj,_,_,hfj,_⟩
  · injection e with e _
    rw [e];rfl
  · obtain ⟨i,hi,he⟩:=ord_all h j hj
    rw [bAt_in (by omega)] at he
    have:=hno d[i] (List.getElem_mem (by omega))
    rw [he,hfit j hj] at this
    exact absurd hfj this
 | some x=>
  obtain ⟨hx,aa,bs,hd,has⟩:=List.find?_eq_some_iff_append.1 hf
  have hk:aa.length<d.length:=by rw [hd];simp
  have hdk:bAt d aa.length=x:=by rw [bAt_in hk];simp [hd]
  have hr:=h.r aa.length (Nat.zero_le _) (by omega)
  rw [hdk] at hr
  obtain ⟨j,rfl⟩:∃ j:Nat,x=(j:Int):=⟨x.toNat,by omega⟩
  have hj:j<rs.length:=by omega
  rw [hfit j hj] at hx
  rcases hB with ⟨_,hno⟩ | ⟨j',hj',_,e,hfj',hmax⟩
  · rw [hno j hj hj] at hx;cases hx
  · injection e with e _
    rw [e]
    show (j:Int)=(j':Int)
    obtain ⟨i,hi,he⟩:=ord_all h j' hj'
    by_cases hik:i<aa.length
    · have hmem:d[i]'(by omega)∈aa:=by
       have:d[i]'(by omega)=aa[i]:=by simp [hd,hik]
       rw [this]
       exact List.getElem_mem hik
      have:=has _ hmem
      rw [bAt_in (by omega)] at he
      rw [he,hfit j' hj',hfj'] at this
      cases this
    · by_cases hik2:i=aa.length
      · subst hik2;rw [←hdk,he]
      · have hlt:=h.s aa.length i (Nat.zero_le _) (by omega) hi
        rw [hdk,he] at hlt
        unfold lt at hlt
        rw [kl_at hj,kl_at hj'] at hlt
        have:=hmax j hj hj hx
        omega
theorem stB_iff:∀ (ls:List (List (Int × Int))) (us:List Int),stB ls us=true↔ls.length=us.length∧∀ (i:Nat) (s:List (Int × Int)) (u:Int),ls[i]? = some s→us[i]? = some u→hasB s u=true
 | [],[]=>by simp [stB]
 | [],u::us=>by simp [stB]
 | s::ls,[]=>by simp [stB]
 | s::ls,u::us=>by
  have e:stB (s::ls) (u::us)=(hasB s u && stB ls us):=by
   unfold stB
   simp only [List.length_cons,List.zip_cons_cons,List.all_cons,Nat.add_right_cancel_iff]
   cases decide (ls.length=us.length) <;> cases hasB s u <;> simp
  rw [e,Bool.and_eq_true,stB_iff ls us]
  constructor
  · rintro ⟨h1,h2,h3⟩
    refine ⟨by simp [h2],fun i a b ha hb => ?_⟩
    cases i with
    | zero=>simp at ha hb;subst ha hb;exact h1
    | succ i=>exact h3 i a b (by simpa using ha) (by simpa using hb)
  · rintro ⟨h1,h2⟩
    exact ⟨h2 0 s u rfl rfl,by simpa using h1,fun i a b ha hb=>h2 (i+1) a b (by simpa using ha) (by simpa using hb)⟩
theorem stU_iff:∀ (ss:List (List (Int × Int))) (us:List Int) (al:Bool),stU us ss al=true↔ss.length≤us.length∧(∀ (i:Nat) (s:List (Int × Int)) (u:Int),ss[i]? = some s→us[i]? = some u→hasB s u=true)∧(al=true→us.length≤ss.length)
 | [],us,al=>by
  rw [stU_end]
  cases us <;> cases al <;> simp
 | s::ss,[],al=>by simp [stU_none]
 | s::ss,u::us,al=>by
  rw [stU_cons,Bool.and_eq_true,stU_iff ss us al]
  constructor
  · rintro ⟨h1,h2,h3,h4⟩
    refine ⟨by simpa using h2,fun i a b ha hb => ?_,fun h=>by simpa using h4 h⟩
    cases i with
    | zero=>simp at ha hb;subst ha hb;exact h1
    | succ i=>exact h3 i a b (by simpa using ha) (by simpa using hb)
  · rintro ⟨h1,h2,h3⟩
    exact ⟨h2 0 s u rfl rfl,by simpa using h1,fun i a b ha hb=>h2 (i+1) a b (by simpa using ha) (by simpa using hb),fun h=>by simpa using h3 h⟩
theorem stF_fit (r:Rl) (d l:List Int):stF r d l=fitB r d l:=by
 rw [Bool.eq_iff_iff]
 unfold fitB stF
 rw [Bool.and_eq_true,stU_iff,stU_iff,List.length_append,List.length_reverse,List.length_reverse]
 by_cases h1:l.length<r.key.length+r.post.length∨d.length<r.ante.length
 · rw [if_pos h1]
   constructor
   · intro h;cases h
   · rintro ⟨⟨a,_⟩,b,_⟩;omega
 · rw [if_neg h1]
   by_cases h2:(r.bg=true∧r.ante.length<d.length)∨(r.en=true∧r.key.length+r.post.length<l.length)
   · rw [if_pos h2]
     constructor
     · intro h;cases h
     · rintro ⟨⟨_,_,a⟩,_,_,b⟩
       rcases h2 with ⟨e,h⟩ | ⟨e,h⟩
       · have:=b e;omega
       · have:=a e;omega
   · rw [if_neg h2,Bool.and_eq_true,Bool.and_eq_true,stB_iff,stB_iff,stB_iff]
     have hl1:r.key.length+r.post.length≤l.length:=by omega
     have hd1:r.ante.length≤d.length:=by omega
     constructor
     · rintro ⟨⟨⟨_,hk⟩,⟨_,hp⟩⟩,⟨_,ha⟩⟩
       refine ⟨⟨hl1,fun i s u hs hu => ?_,fun e => ?_⟩,hd1,fun i s u hs hu => ?_,fun e => ?_⟩
       · by_cases hi:i<r.key.length
         · rw [List.getElem?_append_left hi] at hs
           exact hk i s u hs (by rw [List.getElem?_take,if_pos hi];exact hu)
         · rw [List.getElem?_append_right (by omega)] at hs
           have hip:=(List.getElem?_eq_some_iff.1 hs).1
           refine hp (i - r.key.length) s u hs ?_
           rw [List.getElem?_take,if_pos hip,List.getElem?_drop,show r.key.length+(i - r.key.length)=i by omega]
           exact hu
       · rcases Nat.lt_or_ge (r.key.length+r.post.length) l.length with h | h
         · exact absurd (.inr ⟨e,h⟩) h2
         · exact h
       · have hi:i<r.ante.length:=by have:=(List.getElem?_eq_some_iff.1 hs).1;simpa using this
         rw [List.getElem?_reverse hi] at hs
         rw [List.getElem?_reverse (by omega)] at hu
         refine ha (r.ante.length - 1 - i) s u hs ?_
         rw [List.getElem?_drop,show d.length - r.ante.length+(r.ante.length - 1 - i)=d.length - 1 - i by omega]
         exact hu
       · rcases Nat.lt_or_ge r.ante.length d.length with h | h
         · exact absurd (.inl ⟨e,h⟩) h2
         · exact h
     · rintro ⟨⟨_,hk,_⟩,_,ha,_⟩
       refine ⟨⟨⟨by rw [List.length_take];omega,fun i s u hs hu => ?_⟩,⟨by rw [List.length_take,List.length_drop];omega,fun i s u hs hu => ?_⟩⟩,⟨by rw [List.length_drop];omega,fun i s u hs hu => ?_⟩⟩
       · have hi:=(List.getElem?_eq_some_iff.1 hs).1
         rw [List.getElem?_take,if_pos hi] at hu
         exact hk i s u (by rw [List.getElem?_append_left hi];exact hs) hu
       · have hi:=(List.getElem?_eq_some_iff.1 hs).1
         rw [List.getElem?_take,if_pos hi,List.getElem?_drop] at hu
         exact hk (r.key.length+i) s u (by rw [List.getElem?_append_right (by omega),show r.key.length+i - r.key.length=i by omega];exact hs) hu
       · have hi:=(List.getElem?_eq_some_iff.1 hs).1
         rw [List.getElem?_drop] at hu
         refine ha (r.ante.length - 1 - i) s u ?_ ?_
         · rw [List.getElem?_reverse (by omega),show r.ante.length - 1 - (r.ante.length - 1 - i)=i by omega];exact hs
         · rw [List.getElem?_reverse (by omega),show d.length - 1 - (r.ante.length - 1 - i)=d.length - r.ante.length+i by omega];exact hu
theorem nxtK_fd {rs:List Rl} (d l:List Int) (hO:∀ r∈rs,0<r.key.length):∀ k,k≤rs.length→nxtK rs d l k=(fdK rs d l k).1
 | 0,_=>rfl
 | k+1,hk=>by
  have hkl:k<rs.length:=hk
  have h0:=hO _ (List.getElem_mem hkl)
  have e:kl rs (k:Int)=rs[k].key.length:=by simp [kl,hkl]
  rw [nxtK,fdK_succ d l hkl,nxtK_fd d l hO k (by omega),List.getElem?_eq_getElem hkl,e]
  have hs:(((some rs[k]).map fun r=>stF r d l).getD false)=fitB rs[k] d l:=stF_fit _ _ _
  rw [hs]
  rcases fdK_best d l hO k (by omega) with ⟨e1,_⟩ | ⟨j,hj,_,e1,_⟩
  · rw [e1]
    by_cases hf:fitB rs[k] d l=true
    · rw [if_pos ⟨hf,.inl (by decide)⟩,if_pos ⟨h0,hf⟩]
    · rw [if_neg (fun h=>hf h.1),if_neg (fun h=>hf h.2)]
  · rw [e1]
    have ej:kl rs (j:Int)=rs[j].key.length:=by simp [kl,hj]
    simp only [ej]
    by_cases hf:fitB rs[k] d l=true∧rs[j].key.length<rs[k].key.length
    · rw [if_pos ⟨hf.1,.inr hf.2⟩,if_pos ⟨hf.2,hf.1⟩]
    · rw [if_neg,if_neg]
      · exact fun h=>hf ⟨h.2,h.1⟩
      · rintro ⟨h1,h2 | h2⟩
        · omega
        · exact hf ⟨h1,h2⟩
structure KAll (Z:Nat→Prop) (b:Nat) (X Y:World):Prop where
 bel:Below b X Y
 same:∀ k o,Z k→X.heap[k]? = some o→Y.heap[k]? = some o
theorem KAll.refl (Z:Nat→Prop) (b:Nat) (X:World):KAll Z b X X:=⟨Below.refl _ _,fun _ _ _ h=>h⟩
theorem KAll.trans {Z:Nat→Prop} {b:Nat} {X Y V:World} (h:KAll Z b X Y) (k:KAll Z b Y V):KAll Z b X V:=⟨h.bel.trans k.bel,fun i o hi ho=>k.same i o hi (h.same i o hi ho)⟩
theorem KAll.mono {Z Z':Nat→Prop} {b b':Nat} {X Y:World} (h:KAll Z b X Y) (hz:∀ k,Z' k→Z k) (hb:b'≤b):KAll Z' b' X Y:=⟨h.bel.mono hb,fun k o hk ho=>h.same k o (hz k hk) ho⟩
theorem KAll.grown {Z:Nat→Prop} {b:Nat} {X Y:World} (h:Grown X Y) (hb:b≤X.heap.size):KAll Z b X Y:=⟨h.below.mono hb,fun k _ _ ho=>(h.below.block k (blk_lt ho)).trans ho⟩
theorem KAll.put {Z:Nat→Prop} {b l:Nat} {X:World} (o:Obj) (hl:¬ Z l) (hb:b≤l):KAll Z b X (X.putObj l o):=⟨⟨rfl,rfl,rfl,by simp,fun k hk=>World.putObj_heap_other (by omega)⟩,fun k o' hk ho=>(World.putObj_heap_other (fun e=>hl (by rw [←e];exact hk))).trans ho⟩
theorem fr_put {X:World} {l:Nat} (o:Obj):Fr X (X.putObj l o) fun k=>k=l:=⟨rfl,rfl,rfl,by simp,fun k _ hn=>World.putObj_heap_other hn⟩
def Stab {α:Type} (Z:Nat→Prop) (J:List α→World→Prop):Prop:=∀ s X Y,J s X→Fr X Y Z→J s Y
def SeqZ {α:Type} (n g:Nat) (pa lb:Array Value) (enc:α→Array Value) (xf:List α) (b:Nat) (Z:Nat→Prop) (E:World→Prop) (V:World) (l:Nat):Prop:=
 ∀ (J Jx:List α→World→Prop),Stab Z J→Stab Z Jx →
  (∀ pre x X,J pre X→pre++[x] <+: xf→YieldAt Fence.wide (n - 1) Tryz.prog l (enc x) X fun e Y=>(e = .returned (.bool true)∧J (pre++[x]) Y∧KAll Z b X Y)∨(e = .returned (.bool false)∧Jx (pre++[x]) Y∧KAll Z b X Y)) →
  J [] V→CallsIn Fence.wide n Tryz.prog g (pa++#[.func (.yield l) #[] #[]]++lb) V fun e Y=>(∃ v,e = .returned v)∧((J xf Y∧E Y)∨∃ pre,(pre <+: xf∧pre≠[])∧Jx pre Y)
def wPost {α:Type} (Z:Nat→Prop) (b:Nat) (I:List α→World→Prop) (Ix:Code→List α→World→Prop) (s:List α) (X:World):Exit→Act→World→Prop
 | .normal,_,Y=>KAll Z b X Y∧I s Y
 | .ret,_,Y=>KAll Z b X Y∧Ix .ret s Y
 | .exit id,_,Y=>KAll Z b X Y∧Ix (.exit id) s Y
 | .goto t,_,Y=>KAll Z b X Y∧Ix (.goto t) s Y
 | .panic _,_,_=>False
 | .outgrown,_,_=>False
theorem wpIn_overQ {α:Type} {enc:α→Array Value} {n:Nat} {g:Operand} {ps:Array Tmp} {assign body:Code} {Q:Exit→Act→World→Prop} {a:Act} {w:World} (h1:1≤n) {gf:Nat} {pa lb:Array Value}
 (hg:a.eval g = .func (.func gf) pa lb) (eg:∀ args w,(callFunc gf args).run Tryz.prog w = .ok (.enter gf args) w) {xf:List α} {b h:Nat} {Z:Nat→Prop} {E:World→Prop} (hh:h=w.heap.size) (hbh:b≤h) (hZ0:¬ Z h) (hZ1:¬ Z (h+1))
 (hseq:∀ r:Loop,SeqZ (n - 1) gf pa lb enc xf b Z E ((w.alloc (.deferred (some []))).alloc (.loop r)) (h+1)) (hE:∀ X o,E X→E (X.putObj (h+1) o)) (hps:∀ x,(enc x).size=ps.size)
 (I:List α→World→Prop) (Ix:Code→List α→World→Prop) (hI:Stab (fun k=>Z k∨h≤k) I) (hIx:∀ c,Stab (fun k=>Z k∨h≤k) (Ix c)) (h0:I [] w)
 (hround:∀ (pre:List α) (x:α) (W:World),pre++[x] <+: xf→h+2≤W.heap.size→assign.wpIn (Fence.wide.inRound (h+1)) (n - 1 - 1) Tryz.prog (Exit.then (fun a' W'=>Grown W W'∧∀ X,I pre X→X.heap.size=W'.heap.size→(∀ k,k≠h+1→X.heap[k]? = W'.heap[k]?)→(∃ r,X.heap[h+1]? = some (.loop r))→body.wpIn (Fence.wide.inRound (h+1)) (n - 1 - 1) Tryz.prog (wPost (fun k=>Z k∨h≤k) b I Ix (pre++[x]) X) a' X) (fun _ _ _=>False)) { tmps:=(ps.zip (enc x)).foldl (fun t (p,v)=>t.setIfInBounds p v) a.tmps,defers:=[] } W)
 (hdone:∀ (D:Nat) (W:World),h≤D→I xf W→E W→W.heap[D]? = some (.deferred (some []))→Q .normal { a with defers := { target := .collected D,args:=#[] } :: a.defers } W)
 (hstop:∀ (D:Nat) (c:Code) (pre:List α) (W:World),h≤D→(pre <+: xf∧pre≠[])→Ix c pre W→W.heap[D]? = some (.deferred (some []))→c.wpIn Fence.wide n Tryz.prog Q { a with defers := { target := .collected D,args:=#[] } :: a.defers } W) :
 (Code.rangeFunc g ps assign body).wpIn Fence.wide n Tryz.prog Q a w:=by
 refine wpIn_rangeFunc ?_
 intro fn hfn
 let rc:LoopState→Option Code→Loop:=fun st pe => { state:=st,pending:=pe,fn,tmps:=a.tmps,params:=ps,assign,body,defers:=h }
 let V:World:=(w.alloc (.deferred (some []))).alloc (.loop (rc .ready none))
 have hV:V.heap.size=h+2:=by simp [V,hh]
 have hV1:V.heap[h+1]? = some (.loop (rc .ready none)):=by
  have e:=World.alloc_heap_new (w.alloc (.deferred (some []))) (.loop (rc .ready none))
  rw [World.size_alloc,←hh] at e;exact e
 have hV0:V.heap[h]? = some (.deferred (some [])):=by
  have e:=World.alloc_heap_new w (.deferred (some []))
  rw [←hh] at e
  exact (Below.heap_alloc _ _ _ (by simp [hh])).trans e
 have hfV:Fr w V fun k=>Z k∨h≤k:=fr_grown (((Grown.refl w).alloc _).alloc _) _
 have far:∀ {X Y:World} {k:Nat} {o:Obj},Fr X Y Z→¬ Z k→X.heap[k]? = some o→Y.heap[k]? = some o:=fun {X Y k o} hf hk ho=>(hf.block k (blk_lt ho) hk).trans ho
 have wide:∀ {X Y:World},Fr X Y Z→Fr X Y fun k=>Z k∨h≤k:=fun {X Y} hf=>hf.mono fun _ _ e => .inl e
 have putI:∀ {X:World} {s:List α} (o:Obj),I s X→I s (X.putObj (h+1) o):=fun {X s} o hi=>hI s X _ hi ((fr_put o).mono fun k _ e => .inr (by omega))
 have putIx:∀ {X:World} {s:List α} {c:Code} (o:Obj),Ix c s X→Ix c s (X.putObj (h+1) o):=fun {X s c} o hi=>hIx c s X _ hi ((fr_put o).mono fun k _ e => .inr (by omega))
 refine ⟨h+1,[{ target := .collected h,args:=#[] }],V,{ target := .fn (.func gf) lb,args:=pa++#[.func (.yield (h+1)) #[] #[]] },V,gf,pa++#[.func (.yield (h+1)) #[] #[]]++lb,V,?_,?_,?_,?_,fun _=>h1,?_⟩
 · have e:=run_enterLoop_outer (P:=Tryz.prog) (w:=w) fn a.tmps ps assign body
   rw [←hh] at e
   exact e
 · simp only [resolve,hg]
   simp [go_sem]
 · intro f' _;trivial
 · simp [invoke,go_sem,eg]
 · refine (hseq (rc .ready none) (fun pre W=>I pre W∧W.heap[h+1]? = some (.loop (rc .ready none))∧W.heap[h]? = some (.deferred (some [])))
    (fun pre W=>∃ c,Ix c pre W∧W.heap[h+1]? = some (.loop (rc .done (some c)))∧W.heap[h]? = some (.deferred (some [])))
    (fun s X Y hs hf=>⟨hI s X Y hs.1 (wide hf),far hf hZ1 hs.2.1,far hf hZ0 hs.2.2⟩)
    (fun s X Y hs hf=>by
     obtain ⟨c,hc,e1,e2⟩:=hs
     exact ⟨c,hIx c s X Y hc (wide hf),far hf hZ1 e1,far hf hZ0 e2⟩) ?_ ⟨hI _ _ _ h0 hfV,hV1,hV0⟩).mono ?_
   · rintro pre x X ⟨hi,e1,e0⟩ hlen
     have hy:=run_yield (P:=Tryz.prog) (args:=enc x) e1 (by simp [rc,hps])
     have hlt:h+1<X.heap.size:=blk_lt e1
     refine ⟨fn,_,assign,body,hy,roundIn_of_wpIn hfn (wpIn_mono (hround pre x X hlen (by omega)) ?_)⟩
     clear hy
     rintro ee a' W' hp'
     cases ee with
     | exit id=>exact hp'.elim
     | goto t=>exact hp'.elim
     | ret=>exact hp'.elim
     | panic ch=>exact hp'.elim
     | outgrown=>exact hp'.elim
     | normal=>
     obtain ⟨hgx,hbody⟩:=hp'
     have e1':W'.heap[h+1]? = some (.loop (rc .ready none)):=(hgx.below.block _ hlt).trans e1
     have e0':W'.heap[h]? = some (.deferred (some [])):=(hgx.below.block _ (by omega)).trans e0
     refine ⟨_,run_beginRound e1' rfl,?_⟩
     let X2:World:=W'.putObj (h+1) (.loop { rc .ready none with state := .busy })
     have f1:X2.heap[h+1]? = some (.loop { rc .ready none with state := .busy }):=World.putObj_heap_same (blk_lt e1')
     have f0:X2.heap[h]? = some (.deferred (some [])):=(World.putObj_heap_other (by omega)).trans e0'
     have fk:KAll Z b X X2:=(KAll.grown hgx (by omega)).trans (KAll.put _ hZ1 (by omega))
     have hi2:I pre X2:=putI _ (hI _ _ _ hi (fr_grown hgx _))
     -- how a round ends
     have fin:∀ (jump:Option Code) (Y:World),KAll (fun k=>Z k∨h≤k) b X2 Y→∃ V',(Instr.endRound (h+1) jump).run Tryz.prog Y = .ok (.bool jump.isNone) V'∧V'=Y.putObj (h+1) (.loop (rc (if jump.isNone then .ready else .done) jump)) ∧
      V'.heap[h+1]? = some (.loop (rc (if jump.isNone then .ready else .done) jump))∧V'.heap[h]? = some (.deferred (some []))∧KAll Z b X V':=fun jump Y hY=>by
      have y1:=hY.same _ _ (.inr (by omega)) f1
      have y0:=hY.same _ _ (.inr (Nat.le_refl _)) f0
      exact ⟨_,run_endRound jump y1,rfl,World.putObj_heap_same (blk_lt y1),(World.putObj_heap_other (by omega)).trans y0,(fk.trans (hY.mono (fun _ e => .inl e) (Nat.le_refl _))).trans (KAll.put _ hZ1 (by omega))⟩
     refine wpIn_mono (hbody X2 hi2 (by simp [X2]) (fun k hk=>World.putObj_heap_other hk) ⟨_,f1⟩) ?_
     rintro e a3 Y hp
     cases e with
     | normal=>
      obtain ⟨k1,k3⟩:=hp
      obtain ⟨V',hr,rfl,z1,z0,kz⟩:=fin none Y k1
      exact ⟨_,_,hr,.inl ⟨rfl,⟨putI _ k3,z1,z0⟩,kz⟩⟩
     | ret=>
      obtain ⟨k1,k3⟩:=hp
      obtain ⟨V',hr,rfl,z1,z0,kz⟩:=fin (some .ret) Y k1
      exact ⟨_,_,hr,.inr ⟨rfl,⟨.ret,putIx _ k3,z1,z0⟩,kz⟩⟩
     | exit id=>
      obtain ⟨k1,k3⟩:=hp
      obtain ⟨V',hr,rfl,z1,z0,kz⟩:=fin (some (.exit id)) Y k1
      exact ⟨_,_,hr,.inr ⟨rfl,⟨.exit id,putIx _ k3,z1,z0⟩,kz⟩⟩
     | goto t=>
      obtain ⟨k1,k3⟩:=hp
      obtain ⟨V',hr,rfl,z1,z0,kz⟩:=fin (some (.goto t)) Y k1
      exact ⟨_,_,hr,.inr ⟨rfl,⟨.goto t,putIx _ k3,z1,z0⟩,kz⟩⟩
     | panic ch=>exact hp.elim
     | outgrown=>exact hp.elim
   · rintro e Y ⟨⟨v,rfl⟩,(⟨⟨hi,e1,e0⟩,hEY⟩ | ⟨pre,hSp,c,hi,e1,e0⟩)⟩
     · exact ⟨none,_,run_endLoop e1 (by simp [rc]),hdone _ _ (Nat.le_refl _) (putI _ hi) (hE _ _ hEY) ((World.putObj_heap_other (by omega)).trans e0)⟩
     · exact ⟨some c,_,run_endLoop e1 (by simp [rc]),hstop _ c pre _ (Nat.le_refl _) hSp (putIx _ hi) ((World.putObj_heap_other (by omega)).trans e0)⟩
theorem wpIn_overR {α:Type} {enc:α→Array Value} {n:Nat} {g:Operand} {ps:Array Tmp} {assign body:Code} {Q:Exit→Act→World→Prop} {a:Act} {w:World} (h1:1≤n) {gf:Nat} {pa lb:Array Value}
 (hg:a.eval g = .func (.func gf) pa lb) (eg:∀ args w,(callFunc gf args).run Tryz.prog w = .ok (.enter gf args) w) {xf:List α} {b h:Nat} {Z:Nat→Prop} {E:World→Prop} (hh:h=w.heap.size) (hbh:b≤h) (hZ0:¬ Z h) (hZ1:¬ Z (h+1))
 (hseq:∀ r:Loop,SeqZ (n - 1) gf pa lb enc xf b Z E ((w.alloc (.deferred (some []))).alloc (.loop r)) (h+1)) (hE:∀ X o,E X→E (X.putObj (h+1) o)) (hps:∀ x,(enc x).size=ps.size)
 (I:List α→World→Prop) (Ix:Code→List α→World→Prop) (hI:Stab (fun k=>Z k∨h≤k) I) (hIx:∀ c,Stab (fun k=>Z k∨h≤k) (Ix c)) (h0:I [] w)
 (hround:∀ (l:Nat) (pre:List α) (x:α) (W:World),pre++[x] <+: xf→h+2≤W.heap.size→assign.wpIn (Fence.wide.inRound l) (n - 1 - 1) Tryz.prog (Exit.then (fun a' W'=>Grown W W'∧∀ X,I pre X→X.heap.size=W'.heap.size→(∀ k,k≠h+1→X.heap[k]? = W'.heap[k]?)→body.wpIn (Fence.wide.inRound l) (n - 1 - 1) Tryz.prog (wPost (fun k=>Z k∨h≤k) b I Ix (pre++[x]) X) a' X) (fun _ _ _=>False)) { tmps:=(ps.zip (enc x)).foldl (fun t (p,v)=>t.setIfInBounds p v) a.tmps,defers:=[] } W)
 (hdone:∀ (D:Nat) (W:World),h≤D→I xf W→E W→W.heap[D]? = some (.deferred (some []))→Q .normal { a with defers := { target := .collected D,args:=#[] } :: a.defers } W)
 (hstop:∀ (D:Nat) (c:Code) (pre:List α) (W:World),h≤D→(pre <+: xf∧pre≠[])→Ix c pre W→W.heap[D]? = some (.deferred (some []))→c.wpIn Fence.wide n Tryz.prog Q { a with defers := { target := .collected D,args:=#[] } :: a.defers } W) :
 (Code.rangeFunc g ps assign body).wpIn Fence.wide n Tryz.prog Q a w:=
 wpIn_overQ h1 hg eg hh hbh hZ0 hZ1 hseq hE hps I Ix hI hIx h0 (fun pre x W hp hW=>wpIn_mono (hround (h+1) pre x W hp hW) fun e a' W' hq=>by
  cases e with
  | normal=>exact ⟨hq.1,fun X h1 h2 h3 _=>hq.2 X h1 h2 h3⟩
  | exit id=>exact hq
  | goto t=>exact hq
  | ret=>exact hq
  | panic ch=>exact hq
  | outgrown=>exact hq) hdone hstop
theorem wpIn_overZ {α:Type} {enc:α→Array Value} {n:Nat} {g:Operand} {ps:Array Tmp} {assign body:Code} {Q:Exit→Act→World→Prop} {a:Act} {w:World} (h1:1≤n) {gf:Nat} {pa lb:Array Value}
 (hg:a.eval g = .func (.func gf) pa lb) (eg:∀ args w,(callFunc gf args).run Tryz.prog w = .ok (.enter gf args) w) {xf:List α} {b h:Nat} {Z:Nat→Prop} {E:World→Prop} (hh:h=w.heap.size) (hbh:b≤h) (hZ0:¬ Z h) (hZ1:¬ Z (h+1))
 (hseq:∀ r:Loop,SeqZ (n - 1) gf pa lb enc xf b Z E ((w.alloc (.deferred (some []))).alloc (.loop r)) (h+1)) (hE:∀ X o,E X→E (X.putObj (h+1) o)) (hps:∀ x,(enc x).size=ps.size)
 (I:List α→World→Prop) (Ix:Code→List α→World→Prop) (hI:Stab (fun k=>Z k∨h≤k) I) (hIx:∀ c,Stab (fun k=>Z k∨h≤k) (Ix c)) (h0:I [] w) (a₁:α→World→Act) (gw:α→World→World) (hgw:∀ x W,Grown W (gw x W))
 (hassign:∀ (l:Nat) (x:α) (W:World) (K:Act→World→Prop),K (a₁ x W) (gw x W)→assign.wpIn (Fence.wide.inRound l) (n - 1 - 1) Tryz.prog (Exit.then K (fun _ _ _=>False)) { tmps:=(ps.zip (enc x)).foldl (fun t (p,v)=>t.setIfInBounds p v) a.tmps,defers:=[] } W)
 (hbody:∀ (l:Nat) (pre:List α) (x:α) (W X:World),I pre X→pre++[x] <+: xf→h+2≤W.heap.size→X.heap.size=(gw x W).heap.size→(∀ k,k≠h+1→X.heap[k]? = (gw x W).heap[k]?)→body.wpIn (Fence.wide.inRound l) (n - 1 - 1) Tryz.prog (wPost (fun k=>Z k∨h≤k) b I Ix (pre++[x]) X) (a₁ x W) X)
 (hdone:∀ (D:Nat) (W:World),h≤D→I xf W→E W→W.heap[D]? = some (.deferred (some []))→Q .normal { a with defers := { target := .collected D,args:=#[] } :: a.defers } W)
 (hstop:∀ (D:Nat) (c:Code) (pre:List α) (W:World),h≤D→(pre <+: xf∧pre≠[])→Ix c pre W→W.heap[D]? = some (.deferred (some []))→c.wpIn Fence.wide n Tryz.prog Q { a with defers := { target := .collected D,args:=#[] } :: a.defers } W) :
 (Code.rangeFunc g ps assign body).wpIn Fence.wide n Tryz.prog Q a w:=
 wpIn_overR h1 hg eg hh hbh hZ0 hZ1 hseq hE hps I Ix hI hIx h0 (fun l pre x W hpre hW=>hassign l x W _ ⟨hgw x W,fun X hX hs hk=>hbody l pre x W X hX hpre hW hs hk⟩) hdone hstop
def fs1 (x:Stp):List Value:=[.int .i64 x.r,.int .i64 x.d,.int .i64 x.l,.int .i64 x.t,.int .i64 x.a,.int .i64 x.b]
theorem nxtW_K {rs:List Rl} {d dn lf:List Int} (hs:Sg (klI rs) d 0 rs.length) (hl:d.length=rs.length) (hall:(allE rs).2=0) (hck:∀ r∈rs,chk r=0) (hlf:lf≠[]):nxtW rs d dn lf=nxtK rs dn lf rs.length:=by
 cases lf with
 | nil=>exact absurd rfl hlf
 | cons u lr=>
  rw [nxtW_eq,nxt_best hs hl hall hck,nxtK_fd dn (u::lr) (fun r hr=>(chk_ok (hck r hr)).k0) _ (Nat.le_refl _)]
  unfold fdF
  rw [if_pos hall]
theorem AllU.inI {l:List Int} (h:AllU l):∀ x∈l,InI x:=fun x hx=>by
 have:=h x hx
 unfold wd at this
 unfold InI
 split at this <;> (try split at this) <;> (try split at this) <;> (try split at this) <;> (try split at this) <;> omega
structure PW (W0:World) (v:Value) (rs:List Rl) (st:St):Prop where
 tab:Tab W0
 z:0<W0.heap.size
 psr:PsR W0 v rs
 fin:Fin rs st
 all:(allE rs).2=0
 ck:∀ r∈rs,chk r=0
structure Wk (Z:Nat→Prop) (T:Nat) (W0 w:World) (B wb mb:Nat) (v lv:Value) (rs:List Rl) (d:List Int) (l0:List Int) (xs:List Stp) (dn lf:List Int) (N:Nat) (dv uv:Value) (n room:Nat) (uu:List Int) (f:Int→Option Value):Prop where
 blk:WKB w wb v lv (.map (some mb)) dv uv room
 map:IMap w mb N f
 fi:FI w B rs d f
 don:OwnI w B dv dn
 uni:OwnI w B uv uu
 ul:uu.length=n
 rm:room≤n
 lfe:uu.drop room=lf
 n3:n≤3000000
 ord:OwnI w B lv d
 oln:d.length=rs.length
 srt:Sg (klI rs) d 0 rs.length
 du:∀ b,dv.ownBlock=some b→uv.ownBlock≠some b
 lx:∀ b,lv.ownBlock=some b→dv.ownBlock≠some b∧uv.ownBlock≠some b
 fx:∀ u bv,f u=some bv→∀ b,bv.ownBlock=some b→dv.ownBlock≠some b∧uv.ownBlock≠some b
 bel:Below W0.heap.size W0 w
 b0:W0.heap.size≤B
 b1:B≤mb
 b2:B≤wb
 b3:B≤w.heap.size
 at3:G3 rs l0 xs dn lf
 nN:N=xs.length
 zt:∀ k,T≤k→Z k
 tw:T≤w.heap.size
 zb:∀ k,Z k→B≤k
 zw:Z wb
 zm:Z mb
 zd:∀ b,dv.ownBlock=some b→Z b
 zu:∀ b,uv.ownBlock=some b→Z b
 zl:∀ b,lv.ownBlock=some b→Z b
 zf:∀ u bv,f u=some bv→∀ b,bv.ownBlock=some b→Z b
theorem Wk.mapne {w:World} {mb N:Nat} {f:Int→Option Value} {B:Nat} {v:Value} {l:List Int} (hm:IMap w mb N f) (ho:OwnI w B v l) {b:Nat} (hb:v.ownBlock=some b):b≠mb:=fun e=>by
 obtain ⟨cur,hc⟩:=own_at ho hb
 obtain ⟨es,cc,he⟩:=hm.isMap
 rw [e,he] at hc
 cases hc
theorem FM.fx {w:World} {f f':Int→Option Value} (hM:FM w.heap.size f f') {X:Nat→Prop} (hX:∀ b,X b→b<w.heap.size) (h:∀ u bv,f u=some bv→∀ b,bv.ownBlock=some b→¬ X b):∀ u bv,f' u=some bv→∀ b,bv.ownBlock=some b→¬ X b:=fun u bv hu b hb hx=>by
 rcases hM u bv hu with h1 | h1
 · exact h u bv h1 b hb hx
 · have:=h1 b hb
   have:=hX b hx
   omega
theorem Wk.step {Z:Nat→Prop} {T:Nat} {W0 w w':World} {B wb mb:Nat} {v lv:Value} {rs:List Rl} {st:St} {d l0:List Int} {xs:List Stp} {dn lf:List Int} {N:Nat} {dv uv:Value} {n room:Nat} {uu:List Int} {f:Int→Option Value} (hP:PW W0 v rs st) (hl0:l0.length≤16384) (h:Wk Z T W0 w B wb mb v lv rs d l0 xs dn lf N dv uv n room uu f) (hlf:lf≠[]) {x:Array Value} {La bl:List Int} {took:Nat} {e:Ending} (hQ:SkQ w B wb mb N rs d dn uu v lv dv uv n room f x La bl took e w')
 (hLa:La=layd rs dn lf) (hbl:bl++lf.drop took=lefd rs dn lf) (_hb16:bl.length≤16) (htk:room+took≤n) (hx:x=(fs1 (stp rs dn lf)).toArray) :
 e = .returned (.agg (fs1 (stp rs dn lf)).toArray)∧(∃ dv' uv' n' room' uu' f',Wk Z T W0 w' B wb mb v lv rs d l0 (xs++[stp rs dn lf]) (dn++layd rs dn lf) (lefd rs dn lf) (N+1) dv' uv' n' room' uu' f')∧Fr w w' Z:=by
 obtain ⟨w3,f',W6,dv',w7,he,hNx,hFM,hRB,hO6,hbk,hF6,hS,hF7⟩:=hQ
 subst hx
 have hFw:Fr w w' Z:=by
  refine (((hNx.fr.mono fun k _ e => ?_).trans hF6 fun k _ e => ?_).trans hS.fr fun k _ e => ?_).trans hF7 fun k _ e => ?_
  · rw [e];exact h.zm
  · rcases e with e | e
    · rw [e];exact h.zw
    · exact h.zd k e
  · rcases e with e | e
    · rw [e];exact h.zw
    · exact h.zu k e
  · exact h.zt k (by have:=h.tw;omega)
 refine ⟨he,?_,?_⟩
 · obtain ⟨A,c,m,room',uu',hW7,hU7,hul,hrm,hdr,hm,hA⟩:=hS.ex
   have hs3:w.heap.size≤w3.heap.size:=hNx.fr.size
   have hs6:w3.heap.size≤W6.heap.size:=hF6.size
   have hs7:W6.heap.size≤w7.heap.size:=hS.fr.size
   have hdlt:∀ b,dv.ownBlock=some b→b<w.heap.size:=fun b hb=>(World.ownsRow.lt h.don b hb).2
   have hult:∀ b,uv.ownBlock=some b→b<w.heap.size:=fun b hb=>(World.ownsRow.lt h.uni b hb).2
   have hllt:∀ b,lv.ownBlock=some b→b<w.heap.size:=fun b hb=>(World.ownsRow.lt h.ord b hb).2
   have hwlt:wb<w.heap.size:=blk_lt h.blk
   have hmlt:mb<w.heap.size:=by obtain ⟨es,cc,he⟩:=h.map.isMap;exact blk_lt he
   -- how the whole moves: what is touched
   have hwm:wb≠mb:=fun e=>by
    obtain ⟨es,cc,he⟩:=h.map.isMap
    have h':=h.blk
    unfold WKB at h'
    rw [e,he] at h'
    cases h'
   have hbk':∀ b,dv'.ownBlock=some b→dv.ownBlock=some b∨w3.heap.size≤b:=fun b hb=>by
    rcases hbk with e1 | ⟨g,e1,e2⟩
    · exact .inl (by rw [←e1];exact hb)
    · rw [e1] at hb;injection hb with hb;exact .inr (by omega)
   have hA':∀ b,(Value.slice A m c).ownBlock=some b→uv.ownBlock=some b∨W6.heap.size≤b:=fun b hb=>by
    have e0:(Value.slice A m c).ownBlock=A.map (·.block):=by cases A <;> rfl
    rw [e0] at hb
    rcases hA with e1 | ⟨g,e1,e2⟩
    · exact .inl (by rw [←e1];exact hb)
    · rw [e1] at hb
      injection hb with hb
      exact .inr (by have hb:g=b:=hb;omega)
   have hd6lt:∀ b,dv'.ownBlock=some b→b<W6.heap.size:=fun b hb=>(World.ownsRow.lt hO6 b hb).2
   -- a frame from w3 to the end
   have hF37:Fr w3 w' fun k=>k=wb∨dv.ownBlock=some k∨uv.ownBlock=some k∨k=w.heap.size:=by
    refine ((hF6.mono fun k _ e => ?_).trans hS.fr fun k _ e => ?_).trans hF7 fun k _ e => .inr (.inr (.inr e))
    · rcases e with e | e
      · exact .inl e
      · exact .inr (.inl e)
    · rcases e with e | e
      · exact .inl e
      · exact .inr (.inr (.inl e))
   have hne0:∀ {b:Nat},b<w.heap.size→b≠w.heap.size:=fun hb e=>by omega
   have hfi3:FI w3 B rs d f':=hNx.fi
   have hm3:=hNx.map
   have hfx3:∀ u bv,f' u=some bv→∀ b,bv.ownBlock=some b→¬ (dv.ownBlock=some b∨uv.ownBlock=some b):=FM.fx hFM (fun b hb=>hb.elim (hdlt b) (hult b)) fun u bv hu b hb hx=>by
    have:=h.fx u bv hu b hb
    exact hx.elim this.1 this.2
   -- the list of a unit lies in no box of the walk,and not in the result's
   have hlst:∀ u bv,f' u=some bv→∀ b,bv.ownBlock=some b→¬ (b=wb∨dv.ownBlock=some b∨uv.ownBlock=some b∨b=w.heap.size):=fun u bv hu b hb hx=>by
    have hcell:=own_at (hfi3 u bv hu) hb
    obtain ⟨cur,hcell⟩:=hcell
    rcases hx with e | e | e | e
    · subst e
      have h3:=(hNx.fr.block b hwlt hwm).trans h.blk
      unfold WKB at h3
      rw [hcell] at h3
      injection h3 with h3
      injection h3 with _ h3 _
      cases h3
    · exact hfx3 u bv hu b hb (.inl e)
    · exact hfx3 u bv hu b hb (.inr e)
    · subst e
      obtain ⟨cs,hcs⟩:=hRB
      rw [hcell] at hcs
      injection hcs with hcs
      injection hcs with _ hcs _
      cases hcs
   have hfi':FI w' B rs d f':=fun u bv hu=>own_fr (hfi3 u bv hu) hF37 fun b hb=>hlst u bv hu b hb
   have hm':IMap w' mb (N+1) f':=hm3.kept fun o ho=>(hF37.block mb (blk_lt ho) fun e=>by
    rcases e with e | e | e | e
    · exact hwm e.symm
    · exact Wk.mapne h.map h.don e rfl
    · exact Wk.mapne h.map h.uni e rfl
    · omega).trans ho
   have hrne:w.heap.size<W6.heap.size:=by
    obtain ⟨cs,hcs⟩:=hRB
    have:=blk_lt hcs
    omega
   have hr3:w.heap.size<w3.heap.size:=by
    obtain ⟨cs,hcs⟩:=hRB
    exact blk_lt hcs
   have hdon:OwnI w' B dv' (dn++La):=own_fr (own_fr hO6 hS.fr fun b hb e=>by
    rcases e with e | e
    · rcases hbk' b hb with h1 | h1
      · exact h.blk.ne h.don h1 e
      · omega
    · rcases hbk' b hb with h1 | h1
      · exact h.du b h1 e
      · have:=hult b e;omega) hF7 fun b hb e=>by
    rcases hbk' b hb with h1 | h1
    · have:=hdlt b h1;omega
    · omega
   have hbw7:B≤w7.heap.size:=by have:=h.b3;omega
   have huni:OwnI w' B (.slice A m c) uu':=own_fr hU7 hF7 fun b hb e=>by
    rcases hA' b hb with h1 | h1
    · have:=hult b h1;omega
    · omega
   have hblk:WKB w' wb v lv (.map (some mb)) dv' (.slice A m c) room':=hW7.fr hF7 (by omega)
   have hord:OwnI w' B lv d:=own_fr (own_fr h.ord hNx.fr fun b hb e=>Wk.mapne h.map h.ord hb e) hF37 fun b hb e=>by
    rcases e with e | e | e | e
    · exact h.blk.ne h.ord hb e
    · exact (h.lx b hb).1 e
    · exact (h.lx b hb).2 e
    · have:=hllt b hb;omega
   have hdrop:uu'.drop room'=lefd rs dn lf:=by
    rw [hdr,←hbl,←h.lfe,List.drop_drop]
   have hG:=h.at3.snoc hlf
   have hn':m≤3000000:=by
    rcases hm with h1 | ⟨h1,h2⟩
    · rw [h1];exact h.n3
    · have hln:=(hG.lens hP.fin hP.ck)
      have e1:(lefd rs dn lf).length=bl.length+(n - (room+took)):=by
       rw [←hbl,List.length_append,←h.lfe,List.drop_drop,List.length_drop,h.ul]
      omega
   refine ⟨dv',.slice A m c,m,room',uu',f',hblk,hm',hfi',by rw [←hLa];exact hdon,huni,hul,hrm,hdrop,hn',hord,h.oln,h.srt,fun b hb e => ?_,fun b hb=>⟨fun e => ?_,fun e => ?_⟩,fun u bv hu b hb=>⟨fun e => ?_,fun e => ?_⟩,?_,h.b0,h.b1,h.b2,?_,hG,by simp [h.nN],h.zt,Nat.le_trans h.tw hFw.size,h.zb,h.zw,h.zm,fun b hb => ?_,fun b hb => ?_,h.zl,fun u bv hu b hb => ?_⟩
   · rcases hA' b e with h1 | h1
     · rcases hbk' b hb with h2 | h2
       · exact h.du b h2 h1
       · have:=hult b h1;omega
     · have:=hd6lt b hb;omega
   · have:=hllt b hb
     rcases hbk' b e with h2 | h2
     · exact (h.lx b hb).1 h2
     · omega
   · have:=hllt b hb
     rcases hA' b e with h2 | h2
     · exact (h.lx b hb).2 h2
     · omega
   · have hlt3:=(World.ownsRow.lt (hfi3 u bv hu) b hb).2
     rcases hbk' b e with h2 | h2
     · exact hfx3 u bv hu b hb (.inl h2)
     · omega
   · have hlt3:=(World.ownsRow.lt (hfi3 u bv hu) b hb).2
     rcases hA' b e with h2 | h2
     · exact hfx3 u bv hu b hb (.inr h2)
     · omega
   · exact h.bel.trans ((hFw.below (fun k hk=>h.zb k hk) h.b3).mono h.b0)
   · have:=hFw.size
     have:=h.b3
     omega
   · rcases hbk' b hb with h1 | h1
     · exact h.zd b h1
     · exact h.zt b (by have:=h.tw;omega)
   · rcases hA' b hb with h1 | h1
     · exact h.zu b h1
     · exact h.zt b (by have:=h.tw;omega)
   · rcases hFM u bv hu with h1 | h1
     · exact h.zf u bv h1 b hb
     · exact h.zt b (by have:=h.tw;have:=h1 b hb;omega)
 · exact hFw
theorem Wk.keep {Z:Nat→Prop} {T:Nat} {W0 X Y:World} {B wb mb:Nat} {v lv:Value} {rs:List Rl} {d l0:List Int} {xs:List Stp} {dn lf:List Int} {N:Nat} {dv uv:Value} {n room:Nat} {uu:List Int} {f:Int→Option Value} (h:Wk Z T W0 X B wb mb v lv rs d l0 xs dn lf N dv uv n room uu f) {b2:Nat} (hk:KAll Z b2 X Y) (hb:W0.heap.size≤b2):Wk Z T W0 Y B wb mb v lv rs d l0 xs dn lf N dv uv n room uu f:=by
 have own:∀ {v:Value} {l:List Int},OwnI X B v l→(∀ b,v.ownBlock=some b→Z b)→OwnI Y B v l:=fun {v l} ho hz=>by
  refine ⟨ho.1,ho.2.imp id fun ⟨g,cap,cur,e,h1,h2,h3⟩=>⟨g,cap,cur,e,h1,hk.same g _ (hz g (by rw [e];rfl)) h2,h3⟩⟩
 exact ⟨hk.same _ _ h.zw h.blk,h.map.kept fun o ho=>hk.same _ _ h.zm ho,fun u bv hu=>own (h.fi u bv hu) (h.zf u bv hu),own h.don h.zd,own h.uni h.zu,h.ul,h.rm,h.lfe,h.n3,own h.ord h.zl,h.oln,h.srt,h.du,h.lx,h.fx,h.bel.trans (hk.bel.mono hb),h.b0,h.b1,h.b2,Nat.le_trans h.b3 hk.bel.size,h.at3,h.nN,h.zt,Nat.le_trans h.tw hk.bel.size,h.zb,h.zw,h.zm,h.zd,h.zu,h.zl,h.zf⟩
def StepQ (Z:Nat→Prop) (T:Nat) (W0 w:World) (B wb mb:Nat) (v lv:Value) (rs:List Rl) (d l0:List Int) (xs:List Stp) (dn lf:List Int) (e:Ending) (w':World):Prop:=
 e = .returned (.agg (fs1 (stp rs dn lf)).toArray)∧(∃ dv' uv' n' room' uu' f',Wk Z T W0 w' B wb mb v lv rs d l0 (xs++[stp rs dn lf]) (dn++layd rs dn lf) (lefd rs dn lf) (xs.length+1) dv' uv' n' room' uu' f')∧Fr w w' Z
theorem step_any {Z:Nat→Prop} {T:Nat} {W0 w:World} {B wb mb:Nat} {v lv:Value} {rs:List Rl} {st:St} {d l0:List Int} {xs:List Stp} {dn lf:List Int} {N:Nat} {dv uv:Value} {n room:Nat} {uu:List Int} {f:Int→Option Value} (hP:PW W0 v rs st) (hl0:l0.length≤16384) (hu0:AllU l0) (h:Wk Z T W0 w B wb mb v lv rs d l0 xs dn lf N dv uv n room uu f) (hlf:lf≠[]) :
 Calls Tryz.prog 69 #[.pointer (some ⟨wb,0,none⟩)] w (StepQ Z T W0 w B wb mb v lv rs d l0 xs dn lf):=by
 have hlen:=h.at3.lens hP.fin hP.ck
 have hun:=(h.at3.k hP.ck).un hu0
 have hl0':=List.length_pos_iff.2 hlf
 have hll:lf.length=n - room:=by rw [←h.lfe,List.length_drop,h.ul]
 have hrn:room<n:=by omega
 obtain ⟨g,c,huv⟩:∃ g c,uv = .slice (some ⟨g,0,none⟩) n c:=by
  rcases h.uni.2 with ⟨_,e⟩ | ⟨g,cap,cur,e,_⟩
  · rw [h.ul] at e;omega
  · rw [h.ul] at e;exact ⟨g,cap,e⟩
 have hN:=h.nN
 have hall:=hP.all
 have hrl:rs.length≤1000000:=by have:=hP.fin.n;omega
 have hnx:=nxtW_K (dn:=dn) h.srt h.oln hall hP.ck hlf
 have hnlf:=nextS_ok hP.ck dn hl0'
 have hdr:∀ x∈d,0≤x∧x<(rs.length:Int):=fun x hx=>by
  obtain ⟨i,hi,rfl⟩:=List.getElem_of_mem hx
  have h1:=h.srt.r i (Nat.zero_le _) (by rw [←h.oln];exact hi)
  rw [bAt_in hi] at h1
  exact ⟨by have:=h1.1;omega,h1.2⟩
 have hk0:∀ r∈rs,0<r.key.length∧r.key.length≤1000000:=fun r hr=>by have h1:=chk_ok (hP.ck r hr);exact ⟨h1.k0,by have:=h1.k8;omega⟩
 have hW:=h
 subst huv
 have hmlt:mb<w.heap.size:=by obtain ⟨es,cc,he⟩:=h.map.isMap;exact blk_lt he
 have hdu:∀ b,dv.ownBlock=some b→b≠g:=fun b hb e=>h.du b hb (by rw [e];rfl)
 have hui:∀ x∈uu.drop room,InI x:=by rw [h.lfe];exact hun.1.inI
 rcases hnlf with ⟨h1,hok⟩ | ⟨i,hi,h1,h2,h3,hok⟩
 · obtain ⟨e1,e2,e3⟩:=stp_none h1
   have hs:=step_none hP.tab hP.z h.blk h.map (by omega) hP.psr h.bel (Nat.le_trans h.b0 h.b1) hk0 h.ord.ir (by rw [h.oln];exact hrl) hdr h.fi h.b3 h.don (by omega) h.uni h.ul hrn (by have:=h.n3;omega) hui hmlt (by have:=h.n3;omega) hdu (by rw [h.lfe,hnx,h1])
   rw [h.lfe] at hs
   refine hs.mono fun e w' hQ => ?_
   have:=hW.step hP hl0 hlf hQ e2.symm (by rw [e3];rfl) (by simp) (by omega) (by rw [e1,hll];rfl)
   rw [hN] at this
   exact this
 · obtain ⟨e1,e2,e3⟩:=stp_rule hi h1
   have hO:=chk_ok (hP.ck _ (List.getElem_mem hi))
   have ho:(outs rs[i] (lf.take rs[i].key.length)).length=rs[i].res.length:=by simp [outs]
   have q1:=hO.r16
   have q2:=hO.c0
   have q3:=hO.c1
   have hs:=step_rule hP.tab hP.z h.blk h.map (by omega) hP.psr h.bel (Nat.le_trans h.b0 h.b1) hk0 h.ord.ir (by rw [h.oln];exact hrl) hdr h.fi h.b3 h.don (by omega) h.uni h.ul hrn (by have:=h.n3;omega) hui hmlt (by have:=h.n3;omega) hdu hi (by rw [h.lfe,hnx,h1]) (by omega) (by rw [h.lfe];exact h3) hO rfl rfl rfl
   rw [h.lfe] at hs
   refine hs.mono fun e w' hQ => ?_
   have:=hW.step hP hl0 hlf hQ e2.symm e3.symm (by rw [List.length_drop,ho];omega) (by omega) (by
    have e4:(((outs rs[i] (lf.take rs[i].key.length)).take rs[i].cu.toNat).length:Int)=rs[i].cu:=by rw [List.length_take,ho];omega
    have e5:((outs rs[i] (lf.take rs[i].key.length)).drop rs[i].cu.toNat).length=(backP rs[i]).length:=by rw [List.length_drop,ho];simp [backP]
    rw [e1,hll,e4,e5]
    rfl)
   rw [hN] at this
   exact this
abbrev encSt (x:Stp):Array Value:=#[.agg (fs1 x).toArray]
def WkAt (Z:Nat→Prop) (T:Nat) (W0 w:World) (B wb mb:Nat) (v lv:Value) (rs:List Rl) (d l0:List Int) (xs:List Stp) (dn lf:List Int):Prop:=∃ dv uv n room uu f,Wk Z T W0 w B wb mb v lv rs d l0 xs dn lf xs.length dv uv n room uu f
theorem Wk.nowl {Z:Nat→Prop} {T:Nat} {W0 w:World} {B wb mb:Nat} {v lv:Value} {rs:List Rl} {d l0:List Int} {xs:List Stp} {dn lf:List Int} {N:Nat} {dv uv:Value} {n room:Nat} {uu:List Int} {f:Int→Option Value} (h:Wk Z T W0 w B wb mb v lv rs d l0 xs dn lf N dv uv n room uu f) :
 Calls Tryz.prog 68 #[.pointer (some ⟨wb,4,none⟩)] w fun e w'=>w'=w.drew∧∃ A c,e = .returned (.slice A lf.length c):=by
 obtain ⟨A,c,huv⟩:=h.uni.sl
 subst huv
 have hnc:uu.length≤c∧(A=none→c=0):=by
  rcases h.uni.2 with ⟨e,_⟩ | ⟨g,cap,cur,e,_,_,h1,_⟩
  · injection e with e1 e2 e3
    exact ⟨by omega,fun _=>e3⟩
  · injection e with e1 e2 e3
    exact ⟨by omega,fun e=>by rw [e] at e1;cases e1⟩
 have hll:lf.length=uu.length - room:=by rw [←h.lfe,List.length_drop]
 refine (now_any h.blk (by rw [h.ul];exact h.rm) hnc.1 hnc.2).mono ?_
 rintro e w' ⟨rfl,rfl⟩
 exact ⟨rfl,_,_,by rw [hll]⟩
theorem Wk.drew {Z:Nat→Prop} {T:Nat} {W0 w:World} {B wb mb:Nat} {v lv:Value} {rs:List Rl} {d l0:List Int} {xs:List Stp} {dn lf:List Int} {N:Nat} {dv uv:Value} {n room:Nat} {uu:List Int} {f:Int→Option Value} (h:Wk Z T W0 w B wb mb v lv rs d l0 xs dn lf N dv uv n room uu f):Wk Z T W0 w.drew B wb mb v lv rs d l0 xs dn lf N dv uv n room uu f:=
 h.keep (KAll.grown (Grown.refl w).drew (Nat.le_trans h.b0 h.b3)) (Nat.le_refl _)
theorem fr_drew (w:World) (X:Nat→Prop):Fr w w.drew X:=fr_grown (Grown.refl w).drew X
set_option maxHeartbeats 4000000 in
theorem steps_seq {Z:Nat→Prop} {T:Nat} {W0 V:World} {B wb mb:Nat} {v lv:Value} {rs:List Rl} {st:St} {d l0:List Int} {xf:List Stp} {df:List Int} (hP:PW W0 v rs st) (hl0:l0.length≤16384) (hu0:AllU l0) (hf:G3 rs l0 xf df []) (h:WkAt Z T W0 V B wb mb v lv rs d l0 [] [] l0) {b:Nat} (hb:W0.heap.size≤b) (n l:Nat) (hn:1≤n) :
 SeqZ n 45 #[.pointer (some ⟨wb,0,none⟩)] #[] encSt xf b Z (fun Y=>WkAt Z T W0 Y B wb mb v lv rs d l0 xf df []) V l:=by
 intro J Jx hJ hJx hY h0
 refine callsIn_of_wp Tryz.func45 rfl trivial ?_ rfl
 simp only [Tryz.ntmps45,List.size_toArray,List.length_cons,List.length_nil,Nat.reduceAdd,Nat.reduceSub,Array.replicate_succ,Array.replicate_zero,List.push_toArray,List.append_toArray,List.nil_append,List.cons_append]
 have HP:=Hid.mk' hP
 have HS:Hid (∀ {xs:List Stp} {dn lf:List Int},G3 rs l0 xs dn lf→(xs.length:Int)+lf.length≤64*l0.length):=fun {xs dn lf} hg=>by
  have:=hg.lens hP.fin hP.ck
  omega
 gi_wp2_with fail
 gi_loopg [] (64*l0.length+1) (fun f wr=>Hid (∃ xs dn lf,WkAt Z T W0 wr B wb mb v lv rs d l0 xs dn lf∧J xs wr∧64*l0.length+1≤f+xs.length))
 case atStart=>exact ⟨[],[],l0,h,h0,by simp⟩
 case round=>
  obtain ⟨xs,dn,lf,hW,hJr,hm⟩:=hrel.out
  obtain ⟨dv,uv,n',room,uu,f,hk⟩:=hW
  have hlen:=HS.out hk.at3
  by_cases hlf:lf=[]
  · subst hlf
    have HN:Hid (Calls Tryz.prog 68 #[.pointer (some ⟨wb,4,none⟩)] wr fun e w'=>w'=wr.drew∧∃ A c,e = .returned (.slice A 0 c)):=hk.nowl
    have HK:=Hid.mk' (And.intro hk hJr)
    clear hk hrel hm hJr
    gi_wp2_with (refine ⟨trivial,?_⟩;gi_at_call 68;refine (callsIn_wide.2 HN.out).mono ?_;rintro e w' ⟨rfl,A,c,rfl⟩)
    go_end0
    obtain ⟨hk,hJr⟩:=HK.out
    obtain ⟨e1,e2⟩:=hk.at3.one hf
    subst e1 e2
    exact ⟨⟨_,rfl⟩,.inl ⟨hJ _ _ _ hJr (fr_drew _ _),_,_,_,_,_,_,hk.drew⟩⟩
  · have hl1:=List.length_pos_iff.2 hlf
    have hl1I:(0:Int)<(lf.length:Int):=by omega
    have HN:Hid (Calls Tryz.prog 68 #[.pointer (some ⟨wb,4,none⟩)] wr fun e w'=>w'=wr.drew∧∃ A c,e = .returned (.slice A lf.length c)):=hk.nowl
    have HSt:Hid (Calls Tryz.prog 69 #[.pointer (some ⟨wb,0,none⟩)] wr.drew (StepQ Z T W0 wr.drew B wb mb v lv rs d l0 xs dn lf)):=step_any HP.out hl0 hu0 hk.drew hlf
    obtain ⟨x,hx⟩:∃ x,stp rs dn lf=x:=⟨_,rfl⟩
    have HXF:Hid (xs++[x] <+: xf):=by
     have hp:=(hk.at3.snoc hlf).prefix hf
     rw [hx] at hp
     show _ <+: _
     rw [hp]
     exact List.take_prefix _ _
    have HJD:Hid (∀ w4,Fr wr.drew w4 Z→J xs w4):=fun w4 hf4=>hJ _ _ _ hJr ((fr_drew _ _).trans hf4 fun _ _ e=>e)
    have HLen:Hid (xs.length+1≤64*l0.length∧64*l0.length+1≤gk+xs.length):=⟨by omega,hm⟩
    have HHf:=Hid.mk' hf
    unfold StepQ at HSt
    rw [hx] at HSt
    obtain ⟨ln,hln⟩:∃ ln,lf.length=ln:=⟨_,rfl⟩
    rw [hln] at HN hl1I hl1
    clear hk hrel hm hJr hlen hln hf hP
    gi_wp2_with (first
     | (refine ⟨trivial,?_⟩;gi_at_call 68;refine (callsIn_wide.2 HN.out).mono ?_;rintro e w' ⟨rfl,A,c,rfl⟩)
     | (refine ⟨trivial,?_⟩;gi_at_call 69;refine (callsIn_wide.2 HSt.out).mono ?_;rintro e w4 ⟨rfl,hw4,hf4⟩;have HW4:=Hid.mk' (And.intro hw4 hf4);obtain ⟨fn,tmps,assign,body,hy,hR⟩:=hY xs x w4 (HJD.out w4 hf4) HXF.out;dsimp only [encSt] at hy;have HR:=Hid.mk' hR;clear hR hw4 hf4))
    refine HR.out.mono ?_
    rintro e W3 (⟨rfl,hJ3,hk3⟩ | ⟨rfl,hJx3,hk3⟩)
    · gi_wp2
      gi_roundg (gk - 1)
      case measure=>have:=HLen.out;omega
      case rel=>
       obtain ⟨⟨dv',uv',n2,room',uu',f',hw⟩,hf4⟩:=HW4.out
       refine ⟨xs++[x],dn++layd rs dn lf,lefd rs dn lf,⟨dv',uv',n2,room',uu',f',?_⟩,hJ3,by have:=HLen.out;simp;omega⟩
       rw [List.length_append]
       exact hw.keep hk3 hb
    · gi_wp2
      refine bodyPost_ret (results_none rfl _ _ _) rfl ?_
      exact ⟨⟨_,rfl⟩,.inr ⟨xs++[x],⟨HXF.out,by simp⟩,hJx3⟩⟩
def mayE (rs:List Rl) (s:ByteArray):Int:=if (chkW rs).2≠0 then (chkW rs).2 else if 16384<s.size then 2 else 0
set_option maxHeartbeats 4000000 in
theorem may_any (v:Value) (rs:List Rl) (s:ByteArray) (w:World) (hT:Tab w) (h:PsR w v rs):Calls Tryz.prog 43 #[.agg #[v],.string s] w fun e w'=>e = .returned (.int .i64 (mayE rs s))∧Below w.heap.size w w':=by
 have HC:Hid (∀ W,Grown w W→Calls Tryz.prog 30 #[.agg #[v]] W fun e w'=>e = .returned (.tuple #[.int .i64 (chkW rs).1,.int .i64 (chkW rs).2])∧Below w.heap.size w w'):=fun W g=>(wcheck_any v rs W (hT.grown g) (h.grown g)).mono fun e w' h=>⟨h.1,g.below.trans (h.2.mono g.size)⟩
 obtain ⟨v1,v2,v3,hv⟩:IsSl v:=by obtain ⟨a,b,e,_⟩:=h;exact ⟨_,_,_,e⟩
 subst hv
 unfold mayE
 generalize chkW rs=c at HC ⊢
 obtain ⟨c1,c2⟩:=c
 have HC2:Hid (∀ W,Grown w W→Calls Tryz.prog 30 #[.agg #[.slice v1 v2 v3]] W fun e w'=>e = .returned (.tuple #[.int .i64 c1,.int .i64 c2])∧Below w.heap.size w w'):=HC.out
 clear HC h hT
 by_cases h1:c2=0
 · subst h1
   by_cases h2:16384<s.size
   · have h3:(16384:Int)<(s.size:Int):=by omega
     go_enter Tryz.func43,Tryz.ntmps43
     go_wp2_with (go_at_call 30;refine (HC2.out _ (by (repeat (first | exact Grown.refl _ | refine Grown.alloc ?_ _ | refine Grown.drew ?_)))).mono ?_;rintro e w2 ⟨rfl,hb⟩)
     go_ret
     exact ⟨by simp,hb⟩
   · have h3:¬ (16384:Int)<(s.size:Int):=by omega
     go_enter Tryz.func43,Tryz.ntmps43
     go_wp2_with (go_at_call 30;refine (HC2.out _ (by (repeat (first | exact Grown.refl _ | refine Grown.alloc ?_ _ | refine Grown.drew ?_)))).mono ?_;rintro e w2 ⟨rfl,hb⟩)
     go_ret
     exact ⟨by simp,hb⟩
 · have h4:(c2 == 0)=false:=by simpa using h1
   go_enter Tryz.func43,Tryz.ntmps43
   go_wp2_with (go_at_call 30;refine (HC2.out _ (by (repeat (first | exact Grown.refl _ | refine Grown.alloc ?_ _ | refine Grown.drew ?_)))).mono ?_;rintro e w2 ⟨rfl,hb⟩)
   go_ret
   exact ⟨by simp,hb⟩
def fea (rs:List Rl):Bool:=(wgh rs).1.isSome
theorem fea_iff {rs:List Rl} : fea rs=true↔∃ st c,wgh rs=(some st,c):=by
 unfold fea
 cases h:wgh rs with
 | mk o c=>cases o <;> simp
theorem chkW_fea {rs:List Rl} (h:fea rs=true):chkW rs=(0,0):=by
 obtain ⟨st,c,hw⟩:=fea_iff.1 h
 have hF:=wgh_fin hw
 unfold wgh at hw
 unfold chkW wgh
 split at hw
 · injection hw with h1;cases h1
 · rename_i h0
   rw [if_neg h0]
   split at hw
   · injection hw with h1;cases h1
   · split at hw
     · injection hw with h1;cases h1
     · rfl
def Two (N:Nat) (W W':World):Prop:=W.heap.size≤W'.heap.size∧∀ k,k<W.heap.size→k≠N+1→k≠N+1+1+1→W'.heap[k]? = W.heap[k]?
theorem fea_chk {rs:List Rl} (h:fea rs=false):(chkW rs).2≠0:=by
 unfold fea at h
 cases hw:wgh rs with
 | mk o c=>
  cases o with
  | none=>rw [chkW,hw];exact wgh_none hw
  | some st=>rw [hw] at h;cases h
theorem wgh_zero2 {rs:List Rl} (h:fea rs=true):∃ st,wgh rs=(some st,0,0):=by
 obtain ⟨st,c,hw⟩:=fea_iff.1 h
 have hc:=chkW_fea h
 rw [chkW,hw] at hc
 simp only at hc
 exact ⟨st,by rw [hw,hc]⟩
theorem fea_all {rs:List Rl} {st:St} (hw:wgh rs=(some st,0,0)):(allE rs).2=0:=by
 unfold wgh at hw
 by_cases h0:(allE rs).2≠0
 · rw [if_pos h0] at hw;injection hw with h1;cases h1
 · exact Classical.not_not.1 h0
end Go.Proofs
