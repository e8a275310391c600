/-
  Several texts in one (Ti Tp Tq).
-/
import Derived.RangeFuncNested
import Derived.RangeFuncBound
import Derived.RangeFuncCalls
import Derived.RangeFuncLeaves
import Derived.Shelf.Abstract
import Derived.Shelf.RegionOpen
import Derived.WalkKit
import Derived.WalkSpells
import Derived.WalkLawsBesides
import Derived.OwnWalkIn
import Derived.TacticsInMore
import Derived.LoopNIn
import Derived.LoopIn
import Derived.BigQuiet
import Derived.RegionIn
import Derived.Deep.QuietTactic
import Derived.Deep.RegionWith
import Derived.Lib.OthersKept
import Derived.Maps.AppendAt
import Derived.Lib.SmallJoins
import Derived.Shelf.SlSortCmp.QuietGrown
import Derived.Deep.Upon
import Derived.Test.YtibgnkpagfpinaaGreatDoorMgit
import Derived.Test.YtibgnkpagfpinaaGreatDoorMggt
import Derived.Test.YtibgnkpagfpinaaGreatDoorMght
import Derived.Test.YtibgnkpagfpinaaGreatDoorWft
namespace Go.Proofs
open Go.RowKit Go.Shelf
set_option maxRecDepth 100000
attribute [local go_sem] Oper.semAt_some
attribute [local go_sem ↓] Go.wp_at_zero Go.wp_at_succ
def FI (w:World) (B:Nat) (rs:List Rl) (d:List Int) (f:Int→Option Value):Prop:=∀ u bv,f u=some bv→OwnI w B bv (begL rs u d)
theorem FI.fr {w w':World} {B mb N:Nat} {rs:List Rl} {d:List Int} {f:Int→Option Value} (h:FI w B rs d f) (hm:IMap w mb N f) (hf:Fr w w' fun k=>k=mb):FI w' B rs d f:=fun u bv hu=>own_fr (h u bv hu) hf fun b hb e=>by
 obtain ⟨cur,hc⟩:=own_at (h u bv hu) hb
 obtain ⟨es,cc,he⟩:=hm.isMap
 rw [e,he] at hc
 cases hc
def FM (n:Nat) (f f':Int→Option Value):Prop:=∀ u bv,f' u=some bv→f u=some bv∨∀ b,bv.ownBlock=some b→n≤b
def fitN (rs:List Rl) (dn lf:List Int) (n:Int):Bool:=match rs[n.toNat]? with | some r=>fitsB r dn lf | none=>false
def nxtW (rs:List Rl) (d dn lf:List Int):Int:=((begL rs (lf.headD 0) d).find? (fitN rs dn lf)).getD (-1)
def BnQ (w:World) (B mb N:Nat) (rs:List Rl) (u:Int) (d:List Int) (f:Int→Option Value) (e:Ending) (w':World):Prop:=∃ bv f',e = .returned bv∧OwnI w' B bv (begL rs u d)∧IMap w' mb (N+1) f'∧FI w' B rs d f'∧(Fr w w' fun k=>k=mb)∧FM w.heap.size f f'
theorem beg_any {w:World} {wb mb B:Nat} {v lv dv uv:Value} {room N:Nat} {rs:List Rl} {d:List Int} {f:Int→Option Value} (hT:Tab w) (h:WKB w wb v lv (.map (some mb)) dv uv room) (hm:IMap w mb N f) (hN:N<1000000000) (hP:PsR w v rs) (hk0:∀ r∈rs,0<r.key.length∧r.key.length≤1000000) (hd:IR w lv d) (hdn:d.length≤1000000) (hdr:∀ x∈d,0≤x∧x<rs.length) (u:Int) (hu:InI u) (hF:FI w B rs d f) (hB:B≤w.heap.size) :
 Calls Tryz.prog 124 #[.pointer (some ⟨wb,0,none⟩),.int .i64 u] w (BnQ w B mb N rs u d f):=by
 cases hf:f u with
 | none=>
  refine (beg_new hT h hm hN hP hk0 hd hdn hdr u hu hf).mono ?_
  rintro e w' ⟨bv,rfl,h1,h2,h3⟩
  refine ⟨bv,_,rfl,h1.le hB,h2,fun x xv hx => ?_,h3,fun x xv hx => ?_⟩
  rotate_left
  · by_cases hxu:x=u
    · subst hxu
      have e:updM f x bv x=some bv:=by simp [updM]
      rw [e] at hx
      injection hx with hx
      rw [←hx]
      exact .inr fun b hb=>(World.ownsRow.lt h1 b hb).1
    · have e:updM f u bv x=f x:=by simp [updM,hxu]
      rw [e] at hx
      exact .inl hx
  by_cases hxu:x=u
  · subst hxu
    have e:updM f x bv x=some bv:=by simp [updM]
    rw [e] at hx
    injection hx with hx
    rw [←hx]
    exact h1.le hB
  · have e:updM f u bv x=f x:=by simp [updM,hxu]
    rw [e] at hx
    exact hF.fr hm h3 x xv hx
 | some bv=>
  refine (beg_old h hm u hu hf (hF u bv hf).ir.sl).mono ?_
  rintro e w' ⟨rfl,rfl⟩
  exact ⟨bv,f,rfl,hF u bv hf,hm.mono (Nat.le_succ _),hF,Fr.refl _ _,fun _ _ h => .inl h⟩
theorem find_at {p:Int→Bool} {L:List Int} {k:Nat} (hk:k<L.length) (h0:∀ x∈L.take k,p x=false) (h1:p L[k]=true):L.find? p=some L[k]:=by
 have e:L=L.take k++L[k]::L.drop (k+1):=by simp
 have e2:(L.take k).find? p=none:=List.find?_eq_none.2 fun x hx=>by simp [h0 x hx]
 refine (congrArg (List.find? p) e).trans ?_
 rw [List.find?_append,e2,List.find?_cons_of_pos h1]
 rfl
theorem take_all {p:Int→Bool} {L:List Int} {k:Nat} (hk:k<L.length) (h0:∀ x∈L.take k,p x=false) (h1:p L[k]=false):∀ x∈L.take (k+1),p x=false:=fun x hx=>by
 rw [List.take_succ_eq_append_getElem hk,List.mem_append] at hx
 rcases hx with hx | hx
 · exact h0 x hx
 · rw [List.mem_singleton.1 hx];exact h1
def NxQ (w:World) (B mb N:Nat) (rs:List Rl) (d dn lf:List Int) (f:Int→Option Value) (e:Ending) (w':World):Prop:=∃ f',e = .returned (.int .i64 (nxtW rs d dn lf))∧IMap w' mb (N+1) f'∧FI w' B rs d f'∧(Fr w w' fun k=>k=mb)∧FM w.heap.size f f'
set_option maxHeartbeats 8000000 in
theorem next_any {W0 w:World} {wb mb B:Nat} {v lv dv:Value} {g n c room N:Nat} {rs:List Rl} {d dn uu:List Int} {f:Int→Option Value} (hT0:Tab W0) (hz0:0<W0.heap.size) (h:WKB w wb v lv (.map (some mb)) dv (.slice (some ⟨g,0,none⟩) n c) room) (hm:IMap w mb N f) (hN:N<1000000000) (hP0:PsR W0 v rs) (hb0:Below W0.heap.size W0 w) (hm0:W0.heap.size≤mb) (hk0:∀ r∈rs,0<r.key.length∧r.key.length≤1000000) (hd:IR w lv d) (hdn:d.length≤1000000) (hdr:∀ x∈d,0≤x∧x<rs.length) (hF:FI w B rs d f) (hB:B≤w.heap.size)
 (hD:OwnI w B dv dn) (hdl:dn.length≤1000000000) (hU:OwnI w B (.slice (some ⟨g,0,none⟩) n c) uu) (hul:uu.length=n) (hr:room<n) (hn:n≤1000000000) (hui:∀ x∈uu.drop room,InI x) :
 Calls Tryz.prog 97 #[.pointer (some ⟨wb,0,none⟩)] w (NxQ w B mb N rs d dn (uu.drop room) f):=by
 have hP:PsR w v rs:=hP0.below hb0 (Nat.le_refl _)
 have hT:Tab w:=hT0.below hb0 hz0
 have hnc:n≤c:=by
  rcases hU.2 with ⟨e,_⟩ | ⟨g',cap,cur,e,_,_,h1,_⟩
  · cases e
  · injection e with e1 e2 e3
    rw [hul] at h1
    omega
 have HN:=Hid.mk' (now_any h (by omega) hnc (fun e=>by cases e))
 have hna:nowA (some ⟨g,0,none⟩) c room=some ⟨g,room,none⟩:=by
  unfold nowA
  rw [if_neg (by omega)]
  simp only [Option.map_some,Addr.add]
  split <;> simp_all
 have hLf:=ir_now (room:=room) hU.ir hul hnc (by omega)
 rw [hna] at HN hLf
 obtain ⟨u,lr,hlf⟩:∃ u lr,uu.drop room=u::lr:=by
  cases hx:uu.drop room with
  | nil=>have:=congrArg List.length hx;simp at this;omega
  | cons u lr=>exact ⟨u,lr,rfl⟩
 have huI:InI u:=hui u (by rw [hlf];exact List.mem_cons_self ..)
 have hlen:(uu.drop room).length=n - room:=by rw [List.length_drop,hul]
 have cu:w.drew.cell? ⟨g,room,none⟩=some (.int .i64 u):=by
  obtain ⟨a',c',e,_,h5⟩:=hLf
  obtain ⟨g',o',e5,hd5⟩:=h5.resolve_left fun e=>by rw [hlf] at e;cases e
  injection e with e _ _
  rw [e5] at e
  injection e with e
  injection e with e6 e7 _
  have:=hd5 0 (by omega)
  subst e6 e7
  simp only [hlf,List.getElem_cons_zero,Nat.add_zero] at this
  exact this
 have hw:nxtW rs d dn (uu.drop room)=((begL rs u d).find? (fitN rs dn (uu.drop room))).getD (-1):=by unfold nxtW;rw [hlf];rfl
 have HQ:Hid (∀ x f' w',((begL rs u d).find? (fitN rs dn (uu.drop room))).getD (-1)=x→IMap w' mb (N+1) f'→FI w' B rs d f'→(Fr w w' fun k=>k=mb)→FM w.heap.size f f'→NxQ w B mb N rs d dn (uu.drop room) f (.returned (.int .i64 x)) w'):=fun x f' w' hx h1 h2 h3 h4=>⟨f',by rw [hw,hx],h1,h2,h3,h4⟩
 generalize hLL:uu.drop room=lf at *
 have HBg:Hid (∀ W,Grown w W→Calls Tryz.prog 124 #[.pointer (some ⟨wb,0,none⟩),.int .i64 u] W (BnQ W B mb N rs u d f)):=fun W gw=>beg_any (hT.grown gw) (h.fr (fr_grown gw fun _=>False) id) (hm.kept fun o ho=>(gw.below.block mb (blk_lt ho)).trans ho) hN (hP.grown gw) hk0 (hd.grown gw) hdn hdr u huI (fun x xv hx=>(hF x xv hx).below gw.below (Nat.le_refl _)) (by have:=gw.size;omega)
 have hne:∀ {v':Value} {l:List Int},OwnI w B v' l→∀ b,v'.ownBlock=some b→b≠mb:=fun ho b hb e=>by
  obtain ⟨cur,hc⟩:=own_at ho hb
  obtain ⟨es,cc,he⟩:=hm.isMap
  rw [e,he] at hc
  cases hc
 have hwm:wb≠mb:=fun e=>by
  obtain ⟨es,cc,he⟩:=hm.isMap
  have h':=h
  unfold WKB at h'
  rw [e,he] at h'
  cases h'
 have HAll:Hid (∀ W,(Fr w W fun k=>k=mb)→Tab W∧PsR W v rs∧IR W dv dn∧IR W (.slice (some ⟨g,room,none⟩) (n - room) (c - room)) lf∧W.cell? ⟨wb,0,none⟩=some v∧W.cell? ⟨wb,3,none⟩=some dv):=fun W hf=>by
  have hb2:Below W0.heap.size W0 W:=hb0.trans (hf.below (fun k e=>by omega) hb0.size)
  have hU2:OwnI W B (.slice (some ⟨g,0,none⟩) n c) uu:=own_fr hU hf fun b hb e=>hne hU b hb e
  have hl2:=ir_now (room:=room) hU2.ir hul hnc (by omega)
  rw [hna,hLL] at hl2
  have h2:=h.fr hf hwm
  have hTm:Tab W:=hT0.below hb2 hz0
  exact ⟨hTm,hP0.below hb2 (Nat.le_refl _),OwnI.ir (own_fr hD hf fun b hb e=>hne hD b hb e),hl2,by rw [cell_of h2];rfl,by rw [cell_of h2];rfl⟩
 obtain ⟨dva,dvc,hdv⟩:=hD.sl
 have HDR:=Hid.mk' hdr
 have HDN:=Hid.mk' hdn
 have HDL:=Hid.mk' hdl
 obtain ⟨ra,rc,hv,_,_⟩:=hP
 subst hv hdv
 obtain ⟨rn,hrl⟩:∃ rn,rs.length=rn:=⟨_,rfl⟩
 obtain ⟨dl,hdl2⟩:∃ dl,dn.length=dl:=⟨_,rfl⟩
 have HRN:=Hid.mk' hrl
 rw [hrl,hdl2] at HAll
 clear h hm hT hT0 hz0 hP0 hb0 hk0 hd hdr hF hD hU hw hLf huI hui hna hne hwm hrl hdl2 hdl hN hdn hlf hLL
 have nI:(n:Int)≤1000000000:=by omega
 have rI:(room:Int)<(n:Int):=by omega
 have hnr:(0:Int)<((n - room:Nat):Int):=by omega
 go_enter Tryz.func97,Tryz.ntmps97
 go_wp2_with (first
  | (go_at_call 61
     refine HN.out.mono ?_
     rintro e w2 ⟨rfl,rfl⟩)
  | (go_at_call 124
     refine (HBg.out _ (by (repeat (first | exact Grown.refl _ | refine Grown.alloc ?_ _ | refine Grown.drew ?_ | refine Grown.drewN ?_ _ | refine Grown.quiet ?_ _ _)))).mono ?_
     rintro e w3 ⟨bv,f',rfl,hb1,hb2,hb3,hb4,hb5⟩
     have HB1:=Hid.mk' (And.intro hb1 (And.intro hb2 (And.intro hb3 (And.intro (Fr.trans (fr_grown (Grown.refl w).drew fun k=>k=mb) hb4 fun _ _ e=>e) hb5))))
     obtain ⟨y1,y3,hsl⟩:=hb1.sl
     subst hsl
     clear hb1 hb2 hb3 hb4 hb5))
 obtain ⟨L,hL⟩:∃ L,begL rs u d=L:=⟨_,rfl⟩
 have HLR:Hid (∀ x∈L,0≤x∧x<(rn:Int)):=fun x hx=>by
  rw [←hL] at hx
  have:=HDR.out x (List.mem_filter.1 hx).1
  rw [HRN.out] at this
  exact this
 obtain ⟨y2,hy2⟩:∃ y2,L.length=y2:=⟨_,rfl⟩
 have HY2:=Hid.mk' hy2
 rw [hL] at HB1 HQ ⊢
 rw [hy2] at HB1 ⊢
 have HYB:Hid (y2≤1000000):=by
  have h1:(begL rs u d).length≤d.length:=List.length_filter_le _ _
  rw [hL,hy2] at h1
  have:=HDN.out
  show _≤_
  omega
 have yI:(y2:Int)≤1000000:=by have:=HYB.out;omega
 clear hL hy2
 go_loopw [5,16] (fun _ v16 wr=>∃ k:Nat,v16 = .int .i64 k∧k≤y2∧Hid (Grown w3 wr∧∀ x∈L.take k,fitN rs dn lf x=false)) (fun _ v16 _=>y2 - (intOf v16).toNat)
 case atStart=>exact ⟨0,rfl,by omega,Grown.refl _,fun x hx=>by simp at hx⟩
 case round=>
  obtain ⟨k,rfl,hk,HI⟩:=hrel
  have k0:(0:Int)≤(k:Int):=by omega
  by_cases hlt:k<y2
  · have hltI:(k:Int)<(y2:Int):=by omega
    have hkl:k<L.length:=by have:=HY2.out;omega
    have hIR:IR wr (.slice y1 y2 y3) L:=(OwnI.ir HB1.out.1).grown HI.out.1
    obtain ⟨a5,c5,e5,_,h5⟩:=hIR
    obtain ⟨yg,yo,e6,hd6⟩:=h5.resolve_left fun e=>by rw [e] at hkl;simp at hkl
    injection e5 with e5 e5b e5c
    clear e5b e5c
    rw [e6] at e5
    subst e5
    obtain ⟨hx0,hx1⟩:=HLR.out L[k] (List.getElem_mem hkl)
    obtain ⟨j,hj⟩:∃ j:Nat,L[k]=(j:Int):=⟨L[k].toNat,by omega⟩
    have cd:wr.cell? ⟨yg,yo+k,none⟩=some (.int .i64 (j:Int)):=by rw [←hj];exact hd6 k hkl
    have hjl:j<rs.length:=by have:=HRN.out;omega
    have hFr:Fr w wr fun k=>k=mb:=HB1.out.2.2.2.1.trans (fr_grown HI.out.1 _) fun _ _ e=>e
    obtain ⟨hT,hP,hD,hL4,c0,c3⟩:=HAll.out wr hFr
    obtain ⟨a7,c7,e7,_,h7⟩:=hP
    obtain ⟨rg,ro,e8,hR⟩:=h7.resolve_left fun e=>by rw [e] at hjl;simp at hjl
    injection e7 with e7 e7b e7c
    clear e7b e7c
    rw [e8] at e7
    subst e7
    obtain ⟨av,kv,pv,rv,q0,q1,q2,q3,q4,q5,q6,hRR⟩:=hR j hjl
    have HFt:Hid (∀ V,Grown wr V→Calls Tryz.prog 125 #[.agg #[.bool rs[j].bg,av,kv,pv,.bool rs[j].en,rv,.int .i64 rs[j].cu],.slice dva dl dvc,.slice (some ⟨g,room,none⟩) (n - room) (c - room)] V fun e w'=>e = .returned (.bool (fitsB rs[j] dn lf))∧Grown V w'):=fun V gV=>fits_any rs[j] av kv pv rv _ _ dn lf V (hT.grown gV) (hRR.grown gV) (hD.grown gV) (hL4.grown gV) (by have:=HDL.out;omega)
    obtain ⟨s1,s2,s3,hs1⟩:=hRR.a.sl
    obtain ⟨s4,s5,s6,hs2⟩:=hRR.k.sl
    obtain ⟨s7,s8,s9,hs3⟩:=hRR.p.sl
    obtain ⟨t1,t2,t3,hs4⟩:=hRR.r.sl
    subst hs1 hs2 hs3 hs4
    obtain ⟨b,hb⟩:∃ b,fitsB rs[j] dn lf=b:=⟨_,rfl⟩
    have HFB:Hid (fitN rs dn lf L[k]=b):=by
     show _=_
     rw [←hb,hj]
     unfold fitN
     rw [Int.toNat_natCast,List.getElem?_eq_getElem hjl]
    rw [hb] at HFt
    have jI:(j:Int)<(rn:Int):=by omega
    have j0:(0:Int)≤(j:Int):=by omega
    have HJ:=Hid.mk' hj
    clear hRR hR h7 h5 hd6 hT hD hL4 hj hb hx0 hx1 hFr
    go_wp2
    go_region_with (go_at_call 125;go_must (refine (HFt.out _ (by (repeat (first | exact Grown.refl _ | refine Grown.alloc ?_ _ | refine Grown.drew ?_ | refine Grown.drewN ?_ _ | refine Grown.quiet ?_ _ _)))).mono ?_;rintro e w5 ⟨rfl,hg5⟩;have HG5:=Hid.mk' hg5;clear hg5))
    all_goals
     have HG6:Hid (Grown w3 w5):=HI.out.1.trans ((by (repeat (first | exact Grown.refl _ | refine Grown.alloc ?_ _ | refine Grown.drew ?_ | refine Grown.drewN ?_ _ | refine Grown.quiet ?_ _ _)):Grown wr _).trans HG5.out)
     cases b with
     | true=>
      go_wp2
      go_ret
      have g6:=HG6.out
      refine HQ.out _ f' _ (by rw [find_at hkl HI.out.2 HFB.out,HJ.out];rfl) (HB1.out.2.1.kept fun o ho=>(g6.below.block mb (blk_lt ho)).trans ho) (fun x xv hx=>(HB1.out.2.2.1 x xv hx).below g6.below (Nat.le_refl _)) (HB1.out.2.2.2.1.trans (fr_grown g6 _) fun _ _ e=>e) HB1.out.2.2.2.2
     | false=>
      go_wp2
      exact ⟨⟨k+1,by go_num,by omega,HG6.out,take_all hkl HI.out.2 HFB.out⟩,by simp [intOf];omega⟩
  · obtain rfl:k=y2:=by omega
    have hge:¬ (k:Int)<(k:Int):=by omega
    go_wp2
    go_ret
    have g6:=HI.out.1
    have hnone:L.find? (fitN rs dn lf)=none:=List.find?_eq_none.2 fun x hx=>by
     have:=HI.out.2 x (by rw [List.take_of_length_le (by rw [HY2.out];exact Nat.le_refl _)];exact hx)
     simp [this]
    exact HQ.out _ f' _ (by rw [hnone];rfl) (HB1.out.2.1.kept fun o ho=>(g6.below.block mb (blk_lt ho)).trans ho) (fun x xv hx=>(HB1.out.2.2.1 x xv hx).below g6.below (Nat.le_refl _)) (HB1.out.2.2.2.1.trans (fr_grown g6 _) fun _ _ e=>e) HB1.out.2.2.2.2
structure NxW (w w3:World) (B mb N:Nat) (rs:List Rl) (d:List Int) (f':Int→Option Value):Prop where
 map:IMap w3 mb (N+1) f'
 fi:FI w3 B rs d f'
 fr:Fr w w3 fun k=>k=mb
theorem WKB.done {w:World} {wb:Nat} {rv ov mv dv uv:Value} {room:Nat} (h:WKB w wb rv ov mv dv uv room) (u:Value):WKB (w.setCell ⟨wb,3,none⟩ u) wb rv ov mv u uv room:=by
 unfold WKB;rw [set_heap h];rfl
theorem ret_st {fn:Func} {p:Tmp} {W:World} {B:Nat} {tmps:Array Value} {a b c d e f:Value} {R:Ending→World→Prop} (hr:fn.results=#[.cell p 79]) (hp:tmps.getD p undef = .pointer (some ⟨B,0,none⟩)) (h:W.heap[B]? = some (.cells #[a,b,c,d,e,f] 79 (0,0)))
 (K:R (.returned (.agg #[a,b,c,d,e,f])) W):bodyPost Tryz.prog fn R Exit.ret { tmps:=tmps,defers:=[] } W:=by
 have c0:W.cell? ⟨B,0,none⟩=some a:=by rw [cell_of h];simp
 have c1:W.cell? ⟨B,1,none⟩=some b:=by rw [cell_of h];simp
 have c2:W.cell? ⟨B,2,none⟩=some c:=by rw [cell_of h];simp
 have c3:W.cell? ⟨B,3,none⟩=some d:=by rw [cell_of h];simp
 have c4:W.cell? ⟨B,4,none⟩=some e:=by rw [cell_of h];simp
 have c5:W.cell? ⟨B,5,none⟩=some f:=by rw [cell_of h];simp
 refine bodyPost_ret (v := .agg #[a,b,c,d,e,f]) ?_ rfl K
 rw [Array.getD_eq_getD_getElem?] at hp
 simp only [results,hr]
 simp [hp,go_sem,c0,c1,c2,c3,c4,c5]
def SkQ (w:World) (B wb mb N:Nat) (rs:List Rl) (d dn uu:List Int) (v lv dv uv:Value) (n room:Nat) (f:Int→Option Value) (x:Array Value) (La bl:List Int) (took:Nat) (e:Ending) (w':World):Prop:=∃ w3 f' W6 dv' w7,e = .returned (.agg x)∧NxW w w3 B mb N rs d f'∧FM w.heap.size f f'∧(∃ cs,w3.heap[w.heap.size]? = some (.cells cs 79 (0,0)))∧OwnI W6 B dv' (dn++La)∧(dv'.ownBlock=dv.ownBlock∨∃ g,dv'.ownBlock=some g∧w3.heap.size≤g)∧(Fr w3 W6 fun k=>k=wb∨dv.ownBlock=some k)∧SwQ W6 w7 B wb v lv (.map (some mb)) dv' uv n (room+took) uu bl∧Fr w7 w' fun k=>k=w.heap.size
set_option maxHeartbeats 8000000 in
theorem step_none {W0 w:World} {wb mb B:Nat} {v lv dv:Value} {g n c room N:Nat} {rs:List Rl} {d dn uu:List Int} {f:Int→Option Value} (hT0:Tab W0) (hz0:0<W0.heap.size) (h:WKB w wb v lv (.map (some mb)) dv (.slice (some ⟨g,0,none⟩) n c) room) (hm:IMap w mb N f) (hN:N<1000000000) (hP0:PsR W0 v rs) (hb0:Below W0.heap.size W0 w) (hm0:W0.heap.size≤mb) (hk0:∀ r∈rs,0<r.key.length∧r.key.length≤1000000) (hd:IR w lv d) (hdn:d.length≤1000000) (hdr:∀ x∈d,0≤x∧x<rs.length) (hF:FI w B rs d f) (hB:B≤w.heap.size)
 (hD:OwnI w B dv dn) (hdl:dn.length≤1000000000) (hU:OwnI w B (.slice (some ⟨g,0,none⟩) n c) uu) (hul:uu.length=n) (hr:room<n) (hn:n≤1000000000) (hui:∀ x∈uu.drop room,InI x) (hmw:mb<w.heap.size) (hn8:n≤100000000) (hdu:∀ b,dv.ownBlock=some b→b≠g) (hnx:nxtW rs d dn (uu.drop room) = -1) :
 Calls Tryz.prog 62 #[.pointer (some ⟨wb,0,none⟩)] w (SkQ w B wb mb N rs d dn uu v lv dv (.slice (some ⟨g,0,none⟩) n c) n room f #[.int .i64 (-1),.int .i64 (dn.length:Int),.int .i64 ((n - room:Nat):Int),.int .i64 1,.int .i64 1,.int .i64 0] ((uu.drop room).take 1) [] 1):=by
 have hnc:n≤c:=by
  rcases hU.2 with ⟨e,_⟩ | ⟨g',cap,cur,e,_,_,h1,_⟩
  · cases e
  · injection e with e1 e2 e3
    rw [hul] at h1
    omega
 have hna:nowA (some ⟨g,0,none⟩) c room=some ⟨g,room,none⟩:=by
  unfold nowA
  rw [if_neg (by omega)]
  simp only [Option.map_some,Addr.add]
  split <;> simp_all
 have HNA:=Hid.mk' hna
 have HN:Hid (∀ W,Grown w W→Calls Tryz.prog 61 #[.pointer (some ⟨wb,4,none⟩)] W fun e w'=>w'=W.drew∧e = .returned (.slice (some ⟨g,room,none⟩) (n - room) (c - room))):=fun W gw=>by
  have:=now_any (h.fr (fr_grown gw fun _=>False) id) (by omega) hnc (fun e=>by cases e)
  rwa [hna] at this
 have HX:Hid (∀ W,Grown w W→Calls Tryz.prog 97 #[.pointer (some ⟨wb,0,none⟩)] W fun e w3=>∃ f',e = .returned (.int .i64 (-1))∧NxW W w3 B mb N rs d f'∧FM w.heap.size f f'):=fun W gw=>by
  have gb:=gw.below
  refine (next_any hT0 hz0 (h.fr (fr_grown gw fun _=>False) id) (hm.kept fun o ho=>(gb.block mb (blk_lt ho)).trans ho) hN hP0 (hb0.trans (gb.mono hb0.size)) hm0 hk0 (hd.grown gw) hdn hdr (fun x xv hx=>(hF x xv hx).below gb (Nat.le_refl _)) (by have:=gw.size;omega) (hD.below gb (Nat.le_refl _)) hdl (hU.below gb (Nat.le_refl _)) hul hr hn hui).mono ?_
  rintro e w3 ⟨f',rfl,h1,h2,h3,h4⟩
  refine ⟨f',by rw [hnx],⟨h1,h2,h3⟩,fun x xv hx=>(h4 x xv hx).imp id fun hb b hbb=>Nat.le_trans gw.size (hb b hbb)⟩
 have hwm:wb≠mb:=fun e=>by
  obtain ⟨es,cc,he⟩:=hm.isMap
  have h':=h
  unfold WKB at h'
  rw [e,he] at h'
  cases h'
 have hne:∀ {v':Value} {l:List Int},OwnI w B v' l→∀ b,v'.ownBlock=some b→b≠mb:=fun ho b hb e=>by
  obtain ⟨cur,hc⟩:=own_at ho hb
  obtain ⟨es,cc,he⟩:=hm.isMap
  rw [e,he] at hc
  cases hc
 have HDO:Hid (∀ W,(Fr w W fun k=>k=mb)→OwnI W B dv dn):=fun W hf=>own_fr hD hf fun b hb e=>hne hD b hb e
 have HUO:Hid (∀ W,(Fr w W fun k=>k=mb)→OwnI W B (.slice (some ⟨g,0,none⟩) n c) uu):=fun W hf=>own_fr hU hf fun b hb e=>hne hU b hb e
 have nrI:(1:Int)≤((n - room:Nat):Int):=by omega
 have crI:(1:Int)≤((c - room:Nat):Int):=by omega
 obtain ⟨dva,dvc,hdv⟩:=hD.sl
 subst hdv
 have HW:=Hid.mk' h
 clear h hm hN hP0 hb0 hk0 hd hdr hF hui hT0 hz0 hnx hna
 go_enter Tryz.func62,Tryz.ntmps62
 go_wp2_with (first
  | (go_at_call 61
     refine (HN.out _ (by (repeat (first | exact Grown.refl _ | refine Grown.alloc ?_ _ | refine Grown.drew ?_)))).mono ?_
     rintro e w2 ⟨rfl,rfl⟩)
  | (go_at_call 97
     refine (HX.out _ (by (repeat (first | exact Grown.refl _ | refine Grown.alloc ?_ _ | refine Grown.drew ?_)))).mono ?_
     rintro e w3 ⟨f',rfl,hx3,hfm⟩
     have HX3:=Hid.mk' hx3
     have HFM:=Hid.mk' hfm
     clear hx3 hfm))
 go_region
 have HF3:Hid (Fr w w3 fun k=>k=mb):=(fr_grown (((Grown.refl w).alloc _).drew) _).trans HX3.out.fr fun _ _ e=>e
 obtain ⟨wq,hwq⟩:∃ wq,wq=w3.drew:=⟨_,rfl⟩
 have hgq:Grown w3 wq:=by rw [hwq];exact (Grown.refl _).drew
 have HFQ:Hid (Fr w wq fun k=>k=mb):=HF3.out.trans (fr_grown hgq _) fun _ _ e=>e
 have HRQ:wq.heap[w.heap.size]? = some (.cells #[.int .i64 0,.int .i64 0,.int .i64 0,.int .i64 0,.int .i64 0,.int .i64 0] 79 (0,0)):=by
  rw [hwq]
  exact (HX3.out.fr.block w.heap.size (by simp) (by omega)).trans (heap_alloc_new w _)
 have H3Q:Hid (Fr w3 wq fun k=>k=wb∨(Value.slice dva dn.length dvc).ownBlock=some k):=fr_grown hgq _
 have HR3Q:Hid (∃ cs,w3.heap[w.heap.size]? = some (.cells cs 79 (0,0))):=⟨_,(HX3.out.fr.block w.heap.size (by simp) (by omega)).trans (heap_alloc_new w _)⟩
 have HIQ:Hid (IR wq (.slice (some ⟨g,room,none⟩) 1 (c - room)) ((uu.drop room).take 1)):=by
  have:=ir_now (room:=room) (HUO.out wq HFQ.out).ir hul hnc (by omega)
  rw [show nowA (some ⟨g,0,none⟩) c room=some ⟨g,room,none⟩ from HNA.out] at this
  exact ir_take this (by omega)
 have HLQ:Hid (((uu.drop room).take 1).length≤1000000∧([]:List Int).length≤1000000):=⟨by rw [List.length_take];omega,by simp⟩
 have HJQ:Hid (IR wq (.slice none 0 0) []∧(Value.slice none 0 0).ownBlock≠some wb∧∀ b,(Value.slice none 0 0).ownBlock=some b→¬ b<w.heap.size):=⟨⟨none,0,rfl,Nat.le_refl _,.inl rfl⟩,by simp [Value.ownBlock],by simp [Value.ownBlock]⟩
 rw [←hwq]
 clear hgq hwq
 have HRB3:Hid (wq.heap[w.heap.size]? = some (.cells #[.int .i64 0,.int .i64 0,.int .i64 0,.int .i64 0,.int .i64 0,.int .i64 0] 79 (0,0))):=HRQ
 have HW3:=Hid.mk' (HW.out.fr HFQ.out hwm)
 have c3:wq.cell? ⟨wb,3,none⟩=some (.slice dva dn.length dvc):=by
  rw [cell_of HW3.out];rfl
 obtain ⟨W4,hW4⟩:∃ W4,W4=wq.alloc (.cells #[.int .i64 (-1),.int .i64 (dn.length:Int),.int .i64 ((n - room:Nat):Int),.int .i64 1,.int .i64 1,.int .i64 0] 79):=⟨_,rfl⟩
 have g4:Grown wq W4:=by rw [hW4];exact (Grown.refl _).alloc _
 have hW4w:=HW3.out.fr (fr_grown g4 fun _=>False) id
 have c34:W4.cell? ⟨wb,3,none⟩=some (.slice dva dn.length dvc):=by rw [cell_of hW4w];rfl
 have hO4:OwnI W4 B (.slice dva dn.length dvc) dn:=OwnI.below (HDO.out wq HFQ.out) g4.below (Nat.le_refl _)
 have hU4:OwnI W4 B (.slice (some ⟨g,0,none⟩) n c) uu:=OwnI.below (HUO.out wq HFQ.out) g4.below (Nat.le_refl _)
 have hI4:IR W4 (.slice (some ⟨g,room,none⟩) 1 (c - room)) ((uu.drop room).take 1):=HIQ.out.below g4.below (Nat.le_refl _)
 have hl1:((uu.drop room).take 1).length≤1000000:=HLQ.out.1
 have hl5:(dn++(uu.drop room).take 1).length=dn.length+((uu.drop room).take 1).length:=by rw [List.length_append]
 have hs4:B≤W4.heap.size:=by have:=g4.size;have:=HFQ.out.size;omega
 have hne4:∀ b,(Value.slice dva dn.length dvc).ownBlock=some b→b≠wb:=fun b hb=>hW4w.ne hO4 hb
 have htb:W4.heap[wq.heap.size]? = some (.cells #[.int .i64 (-1),.int .i64 (dn.length:Int),.int .i64 ((n - room:Nat):Int),.int .i64 1,.int .i64 1,.int .i64 0] 79 (0,0)):=by rw [hW4];exact heap_alloc_new _ _
 have hdlt:∀ b,(Value.slice dva dn.length dvc).ownBlock=some b→b<w.heap.size:=fun b hb=>(World.ownsRow.lt hD b hb).2
 have HA:Hid (∀ v5 w5,OwnI w5 B v5 (dn++(uu.drop room).take 1)→W4.grownBy w5 (Value.slice dva dn.length dvc).ownBlock→(v5.ownBlock=(Value.slice dva dn.length dvc).ownBlock∨v5.ownBlock=some W4.heap.size)→∃ p1 p2 p3,v5 = .slice p1 p2 p3∧OwnI w5 B v5 (dn++(uu.drop room).take 1)∧WKB w5 wb v lv (.map (some mb)) (.slice dva dn.length dvc) (.slice (some ⟨g,0,none⟩) n c) room∧OwnI w5 B (.slice (some ⟨g,0,none⟩) n c) uu∧(Fr wq w5 fun k=>(Value.slice dva dn.length dvc).ownBlock=some k)∧w5.heap[wq.heap.size]? = some (.cells #[.int .i64 (-1),.int .i64 (dn.length:Int),.int .i64 ((n - room:Nat):Int),.int .i64 1,.int .i64 1,.int .i64 0] 79 (0,0))∧(v5.ownBlock=(Value.slice dva dn.length dvc).ownBlock∨∃ g,v5.ownBlock=some g∧wq.heap.size≤g)):=fun v5 w5 h1 h2 h6=>by
  obtain ⟨p1,p3,hv⟩:=h1.sl
  have hf:=fr_by h2
  refine ⟨p1,_,p3,hv,h1,hW4w.fr hf fun e=>hne4 wb e rfl,own_fr hU4 hf fun b hb e => ?_,(fr_grown g4 _).trans hf fun _ _ e=>e,(hf.block _ (blk_lt htb) fun e => ?_).trans htb,h6.imp id fun e=>⟨_,e,g4.size⟩⟩
  · injection hb with hb
    exact hdu b e (by have hb:g=b:=hb;omega)
  · have:=hdlt _ e
    have:=HFQ.out.size
    omega
 have HO4:=Hid.mk' hO4
 have HI4:=Hid.mk' hI4
 have HG4:=Hid.mk' g4
 clear hU4 hI4 hO4 hl5 hne4 htb
 subst hW4
 go_wp2_with (at_builtin;go_must (refine app_I3 rfl _ _ rfl B _ _ dn ((uu.drop room).take 1) rfl HO4.out rfl HI4.out (by omega) hs4 ?_;intro v5 w5 hO5 hg5 hk5;have HA5:=Hid.mk' (HA.out v5 w5 hO5 hg5 hk5);clear hO5 hg5 hk5;obtain ⟨p1,p2,p3,hv5,hA5⟩:=HA5.out;subst hv5;have HB5:=Hid.mk' hA5;have e35:w5.cell? ⟨wb,3,none⟩=some (.slice dva dn.length dvc):=(cell_of hA5.2.1).trans rfl;have f35:w5.frozen? ⟨wb,3,none⟩=false:=free_of hA5.2.1;clear hA5 HA5))
 have hs3:=HFQ.out.size
 have hwlt:wb<w.heap.size:=blk_lt HW.out
 have hglt:g<w.heap.size:=(World.ownsRow.lt hU g rfl).2
 have hsz3:w.heap.size<wq.heap.size:=blk_lt HRB3.out
 have hW6:=HB5.out.2.1.done (.slice p1 p2 p3)
 have hf6:=fr_set w5 wb 3 (.slice p1 p2 p3)
 have hU6:OwnI (w5.setCell ⟨wb,3,none⟩ (.slice p1 p2 p3)) B (.slice (some ⟨g,0,none⟩) n c) uu:=own_fr HB5.out.2.2.1 hf6 fun b hb e=>HB5.out.2.1.ne HB5.out.2.2.1 hb e
 have hO6:OwnI (w5.setCell ⟨wb,3,none⟩ (.slice p1 p2 p3)) B (.slice p1 p2 p3) (dn++(uu.drop room).take 1):=own_fr HB5.out.1 hf6 fun b hb e=>HB5.out.2.1.ne HB5.out.1 hb e
 have hz5:wq.heap.size≤w5.heap.size:=HB5.out.2.2.2.1.size
 have hI6:IR (w5.setCell ⟨wb,3,none⟩ (.slice p1 p2 p3)) (.slice none 0 0) ([]):=(HJQ.out.1.fr HB5.out.2.2.2.1 fun b hb e=>HJQ.out.2.2 b hb (hdlt b e)).fr hf6 fun b hb e=>HJQ.out.2.1 (by rw [hb,e])
 refine (swap_any (took:=1) (bl:=[]) (bv:=(.slice none 0 0)) hW6 hU6 hul (by omega) hn8 hI6 HJQ.out.2.1 HLQ.out.2 (by simp [World.setCell];omega)).mono ?_
 rintro e w7 ⟨rfl,hQ⟩
 have hgb:∀ k,(Value.slice (some ⟨g,0,none⟩) n c).ownBlock=some k→k=g:=fun k hk=>by injection hk with hk;exact hk.symm
 have ht7:w7.heap[wq.heap.size]? = some (.cells #[.int .i64 (-1),.int .i64 (dn.length:Int),.int .i64 ((n - room:Nat):Int),.int .i64 1,.int .i64 1,.int .i64 0] 79 (0,0)):=by
  have h1:=HB5.out.2.2.2.2.1
  have h2:=(hf6.block _ (blk_lt h1) (by omega)).trans h1
  refine (hQ.fr.block _ (blk_lt h2) ?_).trans h2
  rintro (e | e)
  · omega
  · have:=hgb _ e;omega
 have hr7:w7.heap[w.heap.size]? = some (.cells #[.int .i64 0,.int .i64 0,.int .i64 0,.int .i64 0,.int .i64 0,.int .i64 0] 79 (0,0)):=by
  have h1:=(HB5.out.2.2.2.1.block _ hsz3 fun e=>by have:=(World.ownsRow.lt hD _ e).2;omega).trans HRB3.out
  have h2:=(hf6.block _ (blk_lt h1) (by omega)).trans h1
  refine (hQ.fr.block _ (blk_lt h2) ?_).trans h2
  rintro (e | e)
  · omega
  · have:=hgb _ e;omega
 have t0:w7.cell? ⟨wq.heap.size,0,none⟩=some (.int .i64 (-1)):=(cell_of ht7).trans rfl
 have t1:w7.cell? ⟨wq.heap.size,1,none⟩=some (.int .i64 (dn.length:Int)):=(cell_of ht7).trans rfl
 have t2:w7.cell? ⟨wq.heap.size,2,none⟩=some (.int .i64 ((n - room:Nat):Int)):=(cell_of ht7).trans rfl
 have t3:w7.cell? ⟨wq.heap.size,3,none⟩=some (.int .i64 1):=(cell_of ht7).trans rfl
 have t4:w7.cell? ⟨wq.heap.size,4,none⟩=some (.int .i64 1):=(cell_of ht7).trans rfl
 have t5:w7.cell? ⟨wq.heap.size,5,none⟩=some (.int .i64 0):=(cell_of ht7).trans rfl
 have HQ:=Hid.mk' hQ
 have HO6:=Hid.mk' hO6
 have r0:w7.cell? ⟨w.heap.size,0,none⟩=some (.int .i64 0):=(cell_of hr7).trans rfl
 have r1:w7.cell? ⟨w.heap.size,1,none⟩=some (.int .i64 0):=(cell_of hr7).trans rfl
 have r2:w7.cell? ⟨w.heap.size,2,none⟩=some (.int .i64 0):=(cell_of hr7).trans rfl
 have r3:w7.cell? ⟨w.heap.size,3,none⟩=some (.int .i64 0):=(cell_of hr7).trans rfl
 have r4:w7.cell? ⟨w.heap.size,4,none⟩=some (.int .i64 0):=(cell_of hr7).trans rfl
 have r5:w7.cell? ⟨w.heap.size,5,none⟩=some (.int .i64 0):=(cell_of hr7).trans rfl
 have f0:=free_of (j:=0) hr7
 have f1:=free_of (j:=1) hr7
 have f2:=free_of (j:=2) hr7
 have f3:=free_of (j:=3) hr7
 have f4:=free_of (j:=4) hr7
 have f5:=free_of (j:=5) hr7
 have HR7:=Hid.mk' hr7
 clear hQ ht7 hr7 hO6 hU6 hf6 hW6 hgb e35 f35 c34 hI6
 go_wp2
 refine ret_st rfl rfl (set_heap (set_heap (set_heap (set_heap (set_heap (set_heap HR7.out)))))) ?_
 have hNx:NxW w w3 B mb N rs d f':=⟨HX3.out.map,HX3.out.fi,HF3.out⟩
 have hFr6:Fr w3 (w5.setCell ⟨wb,3,none⟩ (.slice p1 p2 p3)) fun k=>k=wb∨(Value.slice dva dn.length dvc).ownBlock=some k:=(H3Q.out.trans HB5.out.2.2.2.1 fun _ _ e => .inr e).trans (fr_set _ _ _ _) fun _ _ e => .inl e
 have hblk:(Value.slice p1 p2 p3).ownBlock=(Value.slice dva dn.length dvc).ownBlock∨∃ g,(Value.slice p1 p2 p3).ownBlock=some g∧w3.heap.size≤g:=HB5.out.2.2.2.2.2.imp id fun ⟨g,e1,e2⟩=>⟨g,e1,Nat.le_trans H3Q.out.size e2⟩
 refine ⟨w3,f',_,_,w7,rfl,hNx,HFM.out,HR3Q.out,HO6.out,hblk,hFr6,HQ.out,?_⟩
 exact ((((((fr_set _ _ _ _).trans (fr_set _ _ _ _) fun _ _ e=>e).trans (fr_set _ _ _ _) fun _ _ e=>e).trans (fr_set _ _ _ _) fun _ _ e=>e).trans (fr_set _ _ _ _) fun _ _ e=>e).trans (fr_set _ _ _ _) fun _ _ e=>e)
set_option maxHeartbeats 8000000 in
theorem step_rule {W0 w:World} {wb mb B:Nat} {v lv dv:Value} {g n c room N:Nat} {rs:List Rl} {d dn uu:List Int} {f:Int→Option Value} (hT0:Tab W0) (hz0:0<W0.heap.size) (h:WKB w wb v lv (.map (some mb)) dv (.slice (some ⟨g,0,none⟩) n c) room) (hm:IMap w mb N f) (hN:N<1000000000) (hP0:PsR W0 v rs) (hb0:Below W0.heap.size W0 w) (hm0:W0.heap.size≤mb) (hk0:∀ r∈rs,0<r.key.length∧r.key.length≤1000000) (hd:IR w lv d) (hdn:d.length≤1000000) (hdr:∀ x∈d,0≤x∧x<rs.length) (hF:FI w B rs d f) (hB:B≤w.heap.size)
 (hD:OwnI w B dv dn) (hdl:dn.length≤1000000000) (hU:OwnI w B (.slice (some ⟨g,0,none⟩) n c) uu) (hul:uu.length=n) (hr:room<n) (hn:n≤1000000000) (hui:∀ x∈uu.drop room,InI x) (hmw:mb<w.heap.size) (hn8:n≤100000000) (hdu:∀ b,dv.ownBlock=some b→b≠g) {i:Nat} (hi:i<rs.length) (hnx:nxtW rs d dn (uu.drop room)=i) (hkl:rs[i].key.length≤n - room) (hly:layB rs[i] ((uu.drop room).take rs[i].key.length)=true) (hOk:Ok rs[i]) {La Ba:List Int} (hLa:(outs rs[i] ((uu.drop room).take rs[i].key.length)).take rs[i].cu.toNat=La) (hBa:(outs rs[i] ((uu.drop room).take rs[i].key.length)).drop rs[i].cu.toNat=Ba) {kn:Nat} (hkn:rs[i].key.length=kn) :
 Calls Tryz.prog 62 #[.pointer (some ⟨wb,0,none⟩)] w (SkQ w B wb mb N rs d dn uu v lv dv (.slice (some ⟨g,0,none⟩) n c) n room f #[.int .i64 (i:Int),.int .i64 (dn.length:Int),.int .i64 ((n - room:Nat):Int),.int .i64 (kn:Int),.int .i64 (La.length:Int),.int .i64 (Ba.length:Int)] La Ba kn):=by
 have hnc:n≤c:=by
  rcases hU.2 with ⟨e,_⟩ | ⟨g',cap,cur,e,_,_,h1,_⟩
  · cases e
  · injection e with e1 e2 e3
    rw [hul] at h1
    omega
 have hna:nowA (some ⟨g,0,none⟩) c room=some ⟨g,room,none⟩:=by
  unfold nowA
  rw [if_neg (by omega)]
  simp only [Option.map_some,Addr.add]
  split <;> simp_all
 have HNA:=Hid.mk' hna
 have HN:Hid (∀ W,Grown w W→Calls Tryz.prog 61 #[.pointer (some ⟨wb,4,none⟩)] W fun e w'=>w'=W.drew∧e = .returned (.slice (some ⟨g,room,none⟩) (n - room) (c - room))):=fun W gw=>by
  have:=now_any (h.fr (fr_grown gw fun _=>False) id) (by omega) hnc (fun e=>by cases e)
  rwa [hna] at this
 have HX:Hid (∀ W,Grown w W→Calls Tryz.prog 97 #[.pointer (some ⟨wb,0,none⟩)] W fun e w3=>∃ f',e = .returned (.int .i64 (i:Int))∧NxW W w3 B mb N rs d f'∧FM w.heap.size f f'):=fun W gw=>by
  have gb:=gw.below
  refine (next_any hT0 hz0 (h.fr (fr_grown gw fun _=>False) id) (hm.kept fun o ho=>(gb.block mb (blk_lt ho)).trans ho) hN hP0 (hb0.trans (gb.mono hb0.size)) hm0 hk0 (hd.grown gw) hdn hdr (fun x xv hx=>(hF x xv hx).below gb (Nat.le_refl _)) (by have:=gw.size;omega) (hD.below gb (Nat.le_refl _)) hdl (hU.below gb (Nat.le_refl _)) hul hr hn hui).mono ?_
  rintro e w3 ⟨f',rfl,h1,h2,h3,h4⟩
  refine ⟨f',by rw [hnx],⟨h1,h2,h3⟩,fun x xv hx=>(h4 x xv hx).imp id fun hb b hbb=>Nat.le_trans gw.size (hb b hbb)⟩
 have hwm:wb≠mb:=fun e=>by
  obtain ⟨es,cc,he⟩:=hm.isMap
  have h':=h
  unfold WKB at h'
  rw [e,he] at h'
  cases h'
 have hne:∀ {v':Value} {l:List Int},OwnI w B v' l→∀ b,v'.ownBlock=some b→b≠mb:=fun ho b hb e=>by
  obtain ⟨cur,hc⟩:=own_at ho hb
  obtain ⟨es,cc,he⟩:=hm.isMap
  rw [e,he] at hc
  cases hc
 have HDO:Hid (∀ W,(Fr w W fun k=>k=mb)→OwnI W B dv dn):=fun W hf=>own_fr hD hf fun b hb e=>hne hD b hb e
 have HUO:Hid (∀ W,(Fr w W fun k=>k=mb)→OwnI W B (.slice (some ⟨g,0,none⟩) n c) uu):=fun W hf=>own_fr hU hf fun b hb e=>hne hU b hb e
 have HLen:Hid (La.length≤16∧Ba.length≤16):=by
  have ho:(outs rs[i] ((uu.drop room).take rs[i].key.length)).length=rs[i].res.length:=by simp [outs]
  have q1:=hOk.r16
  have e3:La.length≤rs[i].res.length:=by rw [←hLa,List.length_take,ho];omega
  have e4:Ba.length≤rs[i].res.length:=by rw [←hBa,List.length_drop,ho];omega
  exact ⟨by omega,by omega⟩
 have kn1:(1:Int)≤(kn:Int):=by have:=hOk.k0;omega
 have kn8:(kn:Int)≤8:=by have:=hOk.k8;omega
 have hknn:kn≤n - room:=by omega
 have knI:(kn:Int)≤((n - room:Nat):Int):=by omega
 have kcI:(kn:Int)≤((c - room:Nat):Int):=by omega
 have nrI:(1:Int)≤((n - room:Nat):Int):=by omega
 have crI:(1:Int)≤((c - room:Nat):Int):=by omega
 have HPW:Hid (∀ W,(Fr w W fun k=>k=mb)→Tab W∧PsR W v rs):=fun W hf=>by
  have hb2:Below W0.heap.size W0 W:=hb0.trans (hf.below (fun k e=>by omega) hb0.size)
  exact ⟨hT0.below hb2 hz0,hP0.below hb2 (Nat.le_refl _)⟩
 obtain ⟨dva,dvc,hdv⟩:=hD.sl
 subst hdv
 obtain ⟨ra,rc,hrv,_,hPr⟩:=hP0
 obtain ⟨rg,ro,hra,_⟩:=hPr.resolve_left (fun e=>by rw [e] at hi;simp at hi)
 subst hra
 subst hrv
 clear hPr
 obtain ⟨rn,hrn⟩:∃ rn,rs.length=rn:=⟨_,rfl⟩
 have HRN:=Hid.mk' hrn
 rw [hrn] at h HPW
 have iI:(i:Int)<(rn:Int):=by omega
 have i0:(0:Int)≤(i:Int):=by omega
 have HW:=Hid.mk' h
 clear h hm hN hb0 hk0 hd hdr hF hui hT0 hz0 hnx hna hrn
 rw [HRN.out]
 go_enter Tryz.func62,Tryz.ntmps62
 go_wp2_with (first
  | (go_at_call 61
     refine (HN.out _ (by (repeat (first | exact Grown.refl _ | refine Grown.alloc ?_ _ | refine Grown.drew ?_)))).mono ?_
     rintro e w2 ⟨rfl,rfl⟩)
  | (go_at_call 97
     refine (HX.out _ (by (repeat (first | exact Grown.refl _ | refine Grown.alloc ?_ _ | refine Grown.drew ?_)))).mono ?_
     rintro e w3 ⟨f',rfl,hx3,hfm⟩
     have HX3:=Hid.mk' hx3
     have HFM:=Hid.mk' hfm
     clear hx3 hfm))
 have HF3:Hid (Fr w w3 fun k=>k=mb):=(fr_grown (((Grown.refl w).alloc _).drew) _).trans HX3.out.fr fun _ _ e=>e
 have HRB3':Hid (w3.heap[w.heap.size]? = some (.cells #[.int .i64 0,.int .i64 0,.int .i64 0,.int .i64 0,.int .i64 0,.int .i64 0] 79 (0,0))):=(HX3.out.fr.block w.heap.size (by simp) (by omega)).trans (heap_alloc_new w _)
 have c0:w3.cell? ⟨wb,0,none⟩=some (.slice (some ⟨rg,ro,none⟩) rn rc):=by rw [cell_of (HW.out.fr HF3.out hwm)];rfl
 obtain ⟨hT3,hP3⟩:=HPW.out w3 HF3.out
 obtain ⟨a7,c7,e7,_,h7⟩:=hP3
 obtain ⟨rg',ro',e8,hR⟩:=h7.resolve_left fun e=>by rw [e] at hi;simp at hi
 injection e7 with e7 e7b e7c
 clear e7b e7c
 rw [e8] at e7
 injection e7 with e7
 injection e7 with e9 e10 _
 subst e9 e10
 obtain ⟨av,kv,pv,rv,q0,q1,q2,q3,q4,q5,q6,hRR⟩:=hR i hi
 obtain ⟨r,hr⟩:∃ r,rs[i]'hi=r:=⟨_,rfl⟩
 rw [hr] at hRR hOk q0 q4 q6 hly hLa hBa hkn
 obtain ⟨ka,kc,hkv,hkc,hx2⟩:=hRR.k
 rw [hkn] at hkv hkc
 subst hkv
 have HRR:=Hid.mk' hRR
 obtain ⟨a1,n1,c1',rfl⟩:=HRR.out.a.sl
 obtain ⟨a3,n3,c3',rfl⟩:=HRR.out.p.sl
 obtain ⟨a5,n5,c5,rfl⟩:=HRR.out.r.sl
 obtain ⟨xb,hxb⟩:∃ xb,r.bg=xb:=⟨_,rfl⟩
 obtain ⟨xe,hxe⟩:∃ xe,r.en=xe:=⟨_,rfl⟩
 obtain ⟨xc,hxc⟩:∃ xc,r.cu=xc:=⟨_,rfl⟩
 have HLd:Hid (∀ V,Grown w3 V→Calls Tryz.prog 56 #[.agg #[.bool xb,.slice a1 n1 c1',.slice ka kn kc,.slice a3 n3 c3',.bool xe,.slice a5 n5 c5,.int .i64 xc],.slice (some ⟨g,room,none⟩) kn (c - room)] V fun e w'=>∃ g1 g2,e = .returned (.tuple #[.slice (some ⟨g1,0,none⟩) La.length La.length,.slice (some ⟨g2,0,none⟩) Ba.length Ba.length])∧w3.heap.size≤g1∧w3.heap.size≤g2∧IR w' (.slice (some ⟨g1,0,none⟩) La.length La.length) La∧IR w' (.slice (some ⟨g2,0,none⟩) Ba.length Ba.length) Ba∧Below w3.heap.size w3 w'):=fun V hg=>by
  have hu:=ir_now (room:=room) (HUO.out w3 HF3.out).ir hul hnc (by omega)
  rw [show nowA (some ⟨g,0,none⟩) c room=some ⟨g,room,none⟩ from HNA.out] at hu
  have hu2:=(ir_take hu hknn).grown hg
  have:=lays_any r (.slice a1 n1 c1') (.slice ka kn kc) (.slice a3 n3 c3') (.slice a5 n5 c5) (.slice (some ⟨g,room,none⟩) kn (c - room)) ((uu.drop room).take kn) V (hT3.grown hg) (HRR.out.grown hg) hu2
  rw [hxb,hxe,hxc] at this
  refine this.mono ?_
  rintro e w' ⟨v1,v2,rfl,ho,hB⟩
  rcases ho with ⟨h1,_⟩ | ⟨_,h1,h2,_⟩
  · rw [←hkn,hly] at h1;cases h1
  · rw [←hkn,hLa] at h1
    rw [←hkn,hBa] at h2
    have hl1:=HLen.out
    have i1:=(h1.own (by unfold maxLen;omega)).ir
    have i2:=(h2.own (by unfold maxLen;omega)).ir
    obtain ⟨g1,rfl,hg1,_⟩:=h1
    obtain ⟨g2,rfl,hg2,_⟩:=h2
    have:=hg.size
    exact ⟨g1,g2,rfl,by omega,by omega,i1,i2,hg.below.trans (hB.mono hg.size)⟩
 rw [hxb] at q0
 rw [hxe] at q4
 rw [hxc] at q6
 clear hRR hR h7 hT3 hx2 hly hLa hBa hkn hr hxb hxe hxc HRR hOk hkl
 go_region
 have c0':w3.drew.cell? ⟨wb,0,none⟩=some (.slice (some ⟨rg,ro,none⟩) rn rc):=c0
 go_wp2_with fail
 refine (HLd.out _ (by (repeat (first | exact Grown.refl _ | refine Grown.alloc ?_ _ | refine Grown.drew ?_ | refine Grown.drewN ?_ _ | refine Grown.quiet ?_ _ _)))).mono ?_
 rintro e wq ⟨g1,g2,rfl,hg1,hg2,hi1,hi2,hb4⟩
 have HFQ:Hid (Fr w wq fun k=>k=mb):=HF3.out.trans (fr_below hb4 (Nat.le_refl _) _) fun _ _ e=>e
 have HRQ:wq.heap[w.heap.size]? = some (.cells #[.int .i64 0,.int .i64 0,.int .i64 0,.int .i64 0,.int .i64 0,.int .i64 0] 79 (0,0)):=(hb4.block _ (blk_lt HRB3'.out)).trans HRB3'.out
 have H3Q:Hid (Fr w3 wq fun k=>k=wb∨(Value.slice dva dn.length dvc).ownBlock=some k):=fr_below hb4 (Nat.le_refl _) _
 have HR3Q:Hid (∃ cs,w3.heap[w.heap.size]? = some (.cells cs 79 (0,0))):=⟨_,HRB3'.out⟩
 have hwlt0:w.heap.size<w3.heap.size:=blk_lt HRB3'.out
 have hwb0:wb<w.heap.size:=blk_lt HW.out
 have HIQ:Hid (IR wq (.slice (some ⟨g1,0,none⟩) La.length La.length) La):=hi1
 have HLQ:Hid (La.length≤1000000∧Ba.length≤1000000):=by have:=HLen.out;exact ⟨by omega,by omega⟩
 have hob:∀ b,(Value.slice (some ⟨g2,0,none⟩) Ba.length Ba.length).ownBlock=some b→g2=b:=fun b hb=>by injection hb
 have HJQ:Hid (IR wq (.slice (some ⟨g2,0,none⟩) Ba.length Ba.length) Ba∧(Value.slice (some ⟨g2,0,none⟩) Ba.length Ba.length).ownBlock≠some wb∧∀ b,(Value.slice (some ⟨g2,0,none⟩) Ba.length Ba.length).ownBlock=some b→¬ b<w.heap.size):=⟨hi2,fun e=>by have:=hob _ e;omega,fun b hb=>by have:=hob _ hb;omega⟩
 clear hg1 hg2 hi1 hi2 hb4 hob c0 c0' q0 q1 q2 q3 q4 q5 q6
 have HRB3:Hid (wq.heap[w.heap.size]? = some (.cells #[.int .i64 0,.int .i64 0,.int .i64 0,.int .i64 0,.int .i64 0,.int .i64 0] 79 (0,0))):=HRQ
 have HW3:=Hid.mk' (HW.out.fr HFQ.out hwm)
 have c3:wq.cell? ⟨wb,3,none⟩=some (.slice dva dn.length dvc):=by
  rw [cell_of HW3.out];rfl
 obtain ⟨W4,hW4⟩:∃ W4,W4=wq.alloc (.cells #[.int .i64 (i:Int),.int .i64 (dn.length:Int),.int .i64 ((n - room:Nat):Int),.int .i64 (kn:Int),.int .i64 (La.length:Int),.int .i64 (Ba.length:Int)] 79):=⟨_,rfl⟩
 have g4:Grown wq W4:=by rw [hW4];exact (Grown.refl _).alloc _
 have hW4w:=HW3.out.fr (fr_grown g4 fun _=>False) id
 have c34:W4.cell? ⟨wb,3,none⟩=some (.slice dva dn.length dvc):=by rw [cell_of hW4w];rfl
 have hO4:OwnI W4 B (.slice dva dn.length dvc) dn:=OwnI.below (HDO.out wq HFQ.out) g4.below (Nat.le_refl _)
 have hU4:OwnI W4 B (.slice (some ⟨g,0,none⟩) n c) uu:=OwnI.below (HUO.out wq HFQ.out) g4.below (Nat.le_refl _)
 have hI4:IR W4 (.slice (some ⟨g1,0,none⟩) La.length La.length) (La):=HIQ.out.below g4.below (Nat.le_refl _)
 have hl1:(La).length≤1000000:=HLQ.out.1
 have hl5:(dn++La).length=dn.length+(La).length:=by rw [List.length_append]
 have hs4:B≤W4.heap.size:=by have:=g4.size;have:=HFQ.out.size;omega
 have hne4:∀ b,(Value.slice dva dn.length dvc).ownBlock=some b→b≠wb:=fun b hb=>hW4w.ne hO4 hb
 have htb:W4.heap[wq.heap.size]? = some (.cells #[.int .i64 (i:Int),.int .i64 (dn.length:Int),.int .i64 ((n - room:Nat):Int),.int .i64 (kn:Int),.int .i64 (La.length:Int),.int .i64 (Ba.length:Int)] 79 (0,0)):=by rw [hW4];exact heap_alloc_new _ _
 have hdlt:∀ b,(Value.slice dva dn.length dvc).ownBlock=some b→b<w.heap.size:=fun b hb=>(World.ownsRow.lt hD b hb).2
 have HA:Hid (∀ v5 w5,OwnI w5 B v5 (dn++La)→W4.grownBy w5 (Value.slice dva dn.length dvc).ownBlock→(v5.ownBlock=(Value.slice dva dn.length dvc).ownBlock∨v5.ownBlock=some W4.heap.size)→∃ p1 p2 p3,v5 = .slice p1 p2 p3∧OwnI w5 B v5 (dn++La)∧WKB w5 wb (.slice (some ⟨rg,ro,none⟩) rn rc) lv (.map (some mb)) (.slice dva dn.length dvc) (.slice (some ⟨g,0,none⟩) n c) room∧OwnI w5 B (.slice (some ⟨g,0,none⟩) n c) uu∧(Fr wq w5 fun k=>(Value.slice dva dn.length dvc).ownBlock=some k)∧w5.heap[wq.heap.size]? = some (.cells #[.int .i64 (i:Int),.int .i64 (dn.length:Int),.int .i64 ((n - room:Nat):Int),.int .i64 (kn:Int),.int .i64 (La.length:Int),.int .i64 (Ba.length:Int)] 79 (0,0))∧(v5.ownBlock=(Value.slice dva dn.length dvc).ownBlock∨∃ g,v5.ownBlock=some g∧wq.heap.size≤g)):=fun v5 w5 h1 h2 h6=>by
  obtain ⟨p1,p3,hv⟩:=h1.sl
  have hf:=fr_by h2
  refine ⟨p1,_,p3,hv,h1,hW4w.fr hf fun e=>hne4 wb e rfl,own_fr hU4 hf fun b hb e => ?_,(fr_grown g4 _).trans hf fun _ _ e=>e,(hf.block _ (blk_lt htb) fun e => ?_).trans htb,h6.imp id fun e=>⟨_,e,g4.size⟩⟩
  · injection hb with hb
    exact hdu b e (by have hb:g=b:=hb;omega)
  · have:=hdlt _ e
    have:=HFQ.out.size
    omega
 have HO4:=Hid.mk' hO4
 have HI4:=Hid.mk' hI4
 have HG4:=Hid.mk' g4
 clear hU4 hI4 hO4 hl5 hne4 htb
 subst hW4
 go_wp2_with (at_builtin;go_must (refine app_I3 rfl _ _ rfl B _ _ dn (La) rfl HO4.out rfl HI4.out (by omega) hs4 ?_;intro v5 w5 hO5 hg5 hk5;have HA5:=Hid.mk' (HA.out v5 w5 hO5 hg5 hk5);clear hO5 hg5 hk5;obtain ⟨p1,p2,p3,hv5,hA5⟩:=HA5.out;subst hv5;have HB5:=Hid.mk' hA5;have e35:w5.cell? ⟨wb,3,none⟩=some (.slice dva dn.length dvc):=(cell_of hA5.2.1).trans rfl;have f35:w5.frozen? ⟨wb,3,none⟩=false:=free_of hA5.2.1;clear hA5 HA5))
 have hs3:=HFQ.out.size
 have hwlt:wb<w.heap.size:=blk_lt HW.out
 have hglt:g<w.heap.size:=(World.ownsRow.lt hU g rfl).2
 have hsz3:w.heap.size<wq.heap.size:=blk_lt HRB3.out
 have hW6:=HB5.out.2.1.done (.slice p1 p2 p3)
 have hf6:=fr_set w5 wb 3 (.slice p1 p2 p3)
 have hU6:OwnI (w5.setCell ⟨wb,3,none⟩ (.slice p1 p2 p3)) B (.slice (some ⟨g,0,none⟩) n c) uu:=own_fr HB5.out.2.2.1 hf6 fun b hb e=>HB5.out.2.1.ne HB5.out.2.2.1 hb e
 have hO6:OwnI (w5.setCell ⟨wb,3,none⟩ (.slice p1 p2 p3)) B (.slice p1 p2 p3) (dn++La):=own_fr HB5.out.1 hf6 fun b hb e=>HB5.out.2.1.ne HB5.out.1 hb e
 have hz5:wq.heap.size≤w5.heap.size:=HB5.out.2.2.2.1.size
 have hI6:IR (w5.setCell ⟨wb,3,none⟩ (.slice p1 p2 p3)) (.slice (some ⟨g2,0,none⟩) Ba.length Ba.length) (Ba):=(HJQ.out.1.fr HB5.out.2.2.2.1 fun b hb e=>HJQ.out.2.2 b hb (hdlt b e)).fr hf6 fun b hb e=>HJQ.out.2.1 (by rw [hb,e])
 refine (swap_any (took:=kn) (bl:=Ba) (bv:=(.slice (some ⟨g2,0,none⟩) Ba.length Ba.length)) hW6 hU6 hul (by omega) hn8 hI6 HJQ.out.2.1 HLQ.out.2 (by simp [World.setCell];omega)).mono ?_
 rintro e w7 ⟨rfl,hQ⟩
 have hgb:∀ k,(Value.slice (some ⟨g,0,none⟩) n c).ownBlock=some k→k=g:=fun k hk=>by injection hk with hk;exact hk.symm
 have ht7:w7.heap[wq.heap.size]? = some (.cells #[.int .i64 (i:Int),.int .i64 (dn.length:Int),.int .i64 ((n - room:Nat):Int),.int .i64 (kn:Int),.int .i64 (La.length:Int),.int .i64 (Ba.length:Int)] 79 (0,0)):=by
  have h1:=HB5.out.2.2.2.2.1
  have h2:=(hf6.block _ (blk_lt h1) (by omega)).trans h1
  refine (hQ.fr.block _ (blk_lt h2) ?_).trans h2
  rintro (e | e)
  · omega
  · have:=hgb _ e;omega
 have hr7:w7.heap[w.heap.size]? = some (.cells #[.int .i64 0,.int .i64 0,.int .i64 0,.int .i64 0,.int .i64 0,.int .i64 0] 79 (0,0)):=by
  have h1:=(HB5.out.2.2.2.1.block _ hsz3 fun e=>by have:=(World.ownsRow.lt hD _ e).2;omega).trans HRB3.out
  have h2:=(hf6.block _ (blk_lt h1) (by omega)).trans h1
  refine (hQ.fr.block _ (blk_lt h2) ?_).trans h2
  rintro (e | e)
  · omega
  · have:=hgb _ e;omega
 have t0:w7.cell? ⟨wq.heap.size,0,none⟩=some (.int .i64 (i:Int)):=(cell_of ht7).trans rfl
 have t1:w7.cell? ⟨wq.heap.size,1,none⟩=some (.int .i64 (dn.length:Int)):=(cell_of ht7).trans rfl
 have t2:w7.cell? ⟨wq.heap.size,2,none⟩=some (.int .i64 ((n - room:Nat):Int)):=(cell_of ht7).trans rfl
 have t3:w7.cell? ⟨wq.heap.size,3,none⟩=some (.int .i64 (kn:Int)):=(cell_of ht7).trans rfl
 have t4:w7.cell? ⟨wq.heap.size,4,none⟩=some (.int .i64 (La.length:Int)):=(cell_of ht7).trans rfl
 have t5:w7.cell? ⟨wq.heap.size,5,none⟩=some (.int .i64 (Ba.length:Int)):=(cell_of ht7).trans rfl
 have HQ:=Hid.mk' hQ
 have HO6:=Hid.mk' hO6
 have r0:w7.cell? ⟨w.heap.size,0,none⟩=some (.int .i64 0):=(cell_of hr7).trans rfl
 have r1:w7.cell? ⟨w.heap.size,1,none⟩=some (.int .i64 0):=(cell_of hr7).trans rfl
 have r2:w7.cell? ⟨w.heap.size,2,none⟩=some (.int .i64 0):=(cell_of hr7).trans rfl
 have r3:w7.cell? ⟨w.heap.size,3,none⟩=some (.int .i64 0):=(cell_of hr7).trans rfl
 have r4:w7.cell? ⟨w.heap.size,4,none⟩=some (.int .i64 0):=(cell_of hr7).trans rfl
 have r5:w7.cell? ⟨w.heap.size,5,none⟩=some (.int .i64 0):=(cell_of hr7).trans rfl
 have f0:=free_of (j:=0) hr7
 have f1:=free_of (j:=1) hr7
 have f2:=free_of (j:=2) hr7
 have f3:=free_of (j:=3) hr7
 have f4:=free_of (j:=4) hr7
 have f5:=free_of (j:=5) hr7
 have HR7:=Hid.mk' hr7
 clear hQ ht7 hr7 hO6 hU6 hf6 hW6 hgb e35 f35 c34 hI6
 go_wp2
 refine ret_st rfl rfl (set_heap (set_heap (set_heap (set_heap (set_heap (set_heap HR7.out)))))) ?_
 have hNx:NxW w w3 B mb N rs d f':=⟨HX3.out.map,HX3.out.fi,HF3.out⟩
 have hFr6:Fr w3 (w5.setCell ⟨wb,3,none⟩ (.slice p1 p2 p3)) fun k=>k=wb∨(Value.slice dva dn.length dvc).ownBlock=some k:=(H3Q.out.trans HB5.out.2.2.2.1 fun _ _ e => .inr e).trans (fr_set _ _ _ _) fun _ _ e => .inl e
 have hblk:(Value.slice p1 p2 p3).ownBlock=(Value.slice dva dn.length dvc).ownBlock∨∃ g,(Value.slice p1 p2 p3).ownBlock=some g∧w3.heap.size≤g:=HB5.out.2.2.2.2.2.imp id fun ⟨g,e1,e2⟩=>⟨g,e1,Nat.le_trans H3Q.out.size e2⟩
 refine ⟨w3,f',_,_,w7,rfl,hNx,HFM.out,HR3Q.out,HO6.out,hblk,hFr6,HQ.out,?_⟩
 exact ((((((fr_set _ _ _ _).trans (fr_set _ _ _ _) fun _ _ e=>e).trans (fr_set _ _ _ _) fun _ _ e=>e).trans (fr_set _ _ _ _) fun _ _ e=>e).trans (fr_set _ _ _ _) fun _ _ e=>e).trans (fr_set _ _ _ _) fun _ _ e=>e)
end Go.Proofs
