/-
  Several texts in one (Xrv Xy9v).
-/
import Derived.Test.YtcfcjljapamcoaaGreatDoorMpwv
import Derived.Test.YtcfcjljapamcoaaGreatDoorMgiv
import Derived.Test.YtcfcjljapamcoaaGreatDoorMpqv
import Derived.Test.YtcfcjljapamcoaaGreatDoorMgav
namespace Go.Proofs
open Go.RowKit Go.Shelf
set_option maxRecDepth 100000
attribute [local go_sem] Oper.semAt_some
structure OvL (w3 wr:World) (vo:Value) (vs:List Value) (s:List (Int × Int)):Prop where
 row:OwnVs wr w3.heap.size vo vs
 bel:Below w3.heap.size w3 wr
 el:∀ v∈vs,OwnR wr w3.heap.size v s
 off:vs.Pairwise fun a b=>∀ k,a.ownBlock=some k→b.ownBlock≠some k
theorem OvL.below {w3 W W':World} {vo:Value} {vs:List Value} {s:List (Int × Int)} (h:OvL w3 W vo vs s) (hb:Below W.heap.size W W'):OvL w3 W' vo vs s:=
 ⟨ownsRow_below8 h.row hb (Nat.le_refl _),h.bel.trans (hb.mono h.bel.size),fun v hv=>(h.el v hv).below hb (Nat.le_refl _),h.off⟩
theorem OvL.more {w3 W W1 W':World} {vo vo' v:Value} {vs:List Value} {s:List (Int × Int)} (h:OvL w3 W vo vs s) {W2:World} (hb:Below W.heap.size W W1) (hv:OwnR W1 W.heap.size v s) (hg:Grown W1 W2) (hO:OwnVs W' w3.heap.size vo' (vs++[v])) (hgr:W2.grownBy W' vo.ownBlock):OvL w3 W' vo' (vs++[v]) s:=by
 have h1:=h.below hb
 have h2:=h1.below hg.below
 have hv2:OwnR W2 W.heap.size v s:=hv.below hg.below (Nat.le_refl _)
 have hsz:=h.bel.size
 have hne:∀ a,OwnR W2 w3.heap.size a s→a.ownBlock=none∨a.ownBlock≠vo.ownBlock:=fun a ha=>by
  rcases e:a.ownBlock with _ | b
  · exact .inl rfl
  · exact .inr fun e2=>own_ne ha h2.row (by decide) e e2.symm
 refine ⟨hO,h2.bel.grown hgr h2.bel.size fun k hk=>(World.ownsRow.lt h2.row k hk).1,fun a ha => ?_,?_⟩
 · rcases List.mem_append.1 ha with ha | ha
   · exact (h2.el a ha).kept hgr (hne a (h2.el a ha))
   · simp only [List.mem_singleton] at ha
     subst ha
     exact (hv2.le hsz).kept hgr (hne a (hv2.le hsz))
 · rw [List.pairwise_append]
   refine ⟨h.off,List.pairwise_singleton _ _,fun a ha b hb k hk e => ?_⟩
   simp only [List.mem_singleton] at hb
   subst hb
   have h3:=(World.ownsRow.lt (h.el a ha) k hk).2
   have h4:=(World.ownsRow.lt hv2 k e).1
   omega
theorem RvR.len {rs:List Rl} {s:List (Int × Int)} {n c:Int} (h:RvR rs s n c):s.length≤1000000:=by
 rcases h with ⟨_,_,h⟩ | ⟨_,t,_,_,⟨_,h,_⟩ | ⟨h1,h,_⟩⟩
 · rw [h];simp
 · rw [h];simp
 · rw [h];omega
set_option maxHeartbeats 16000000 in
theorem law4_any (v:Value) (rs:List Rl) (w:World) (hT:Tab w) (h:PsR w v rs) (hn:rs.length≤1048576) (hz:∀ r∈rs,Go.Proofs.YtcfcjljapamcoaaGreatDoor.Small r 1048576):Calls Tryz.prog 4 #[.agg #[v]] w fun e w'=>e = .returned (.bool true)∧Below w.heap.size w w':=by
 obtain ⟨ra,rc,rfl,hrc,hro⟩:=h
 obtain ⟨n,hnn⟩:∃ n,rs.length=n:=⟨_,rfl⟩
 have hps:PsR w (.slice ra n rc) rs:=⟨ra,rc,by rw [hnn],hrc,hro⟩
 obtain ⟨W1,hW1⟩:∃ W1,w.alloc (.cells #[.slice ra n rc] 24)=W1:=⟨_,rfl⟩
 have hb1:Below w.heap.size w W1:=by rw [←hW1];exact (Below.refl _ w).alloc (Nat.le_refl _) _
 have hk1:W1.heap[w.heap.size]? = some (.cells #[.slice ra n rc] 24 (0,0)):=by rw [←hW1];exact al_new _ _ rfl
 have x0:W1.cell? ⟨w.heap.size,0,none⟩=some (.slice ra n rc):=by rw [cell_of hk1];rfl
 have HT:Hid (∀ W,Below w.heap.size w W→Tab W):=fun W hb j v hv=>cell_below (hT j v hv) hb (Nat.le_refl _)
 have H:Hid (rs.length=n∧Below w.heap.size w W1∧(∀ W,Below W1.heap.size W1 W→W.cell? ⟨w.heap.size,0,none⟩=some (.slice ra n rc))∧(∀ W,Below w.heap.size w W→PsR W (.slice ra n rc) rs)∧(∀ r∈rs,Go.Proofs.YtcfcjljapamcoaaGreatDoor.Small r 1048576)):=⟨hnn,hb1,fun W hb=>cell_below x0 hb (Nat.le_refl _),fun W hb=>hps.below hb (Nat.le_refl _),hz⟩
 have HB9:Hid (Calls Tryz.prog 9 #[.agg #[.slice ra n rc]] W1 fun e w'=>IsB e∧Below W1.heap.size W1 w'):=beyond9_any _ rs W1 (hps.below hb1 (Nat.le_refl _)) hn hz
 rw [hnn] at hn hrc ⊢
 clear hro hz hnn hb1 hk1 hT hps
 go_enter Tryz.func4,Tryz.ntmps4
 go_wp2_with fail
 refine HB9.out.mono ?_
 rintro e w1 ⟨⟨b,rfl⟩,hb⟩
 have HB1:Hid (Below W1.heap.size W1 w1∧Below w.heap.size w w1):=⟨hb,H.out.2.1.trans (hb.mono H.out.2.1.size)⟩
 clear hb HB9 x0 hW1
 cases b with
 | true=>
  go_wp2
  go_ret
  exact ⟨rfl,HB1.out.2⟩
 | false=>
  go_wp2_with fail
  refine (shown19_any w1 (HT.out w1 HB1.out.2)).mono ?_
  rintro e w2 ⟨rfl,hb⟩
  have HB2:Hid (Below W1.heap.size W1 w2∧Below w.heap.size w w2):=⟨HB1.out.1.trans (hb.mono HB1.out.1.size),HB1.out.2.trans (hb.mono HB1.out.2.size)⟩
  have x0:=H.out.2.2.1 w2 HB2.out.1
  clear hb HB1
  go_wp2_with fail
  refine (rover_any _ rs w2 (H.out.2.2.2.1 w2 HB2.out.2)).mono ?_
  rintro e w3 ⟨wv,en,ec,s,rfl,hO3,hb3,hv3⟩
  have HB3:Hid (Below W1.heap.size W1 w3∧Below w.heap.size w w3):=⟨HB2.out.1.trans (hb3.mono HB2.out.1.size),HB2.out.2.trans (hb3.mono HB2.out.2.size)⟩
  obtain ⟨wa,wc,rfl,-⟩:=hO3.rs
  have HWV:Hid (∀ W,Below w3.heap.size w3 W→Rs W (.slice wa s.length wc) s):=fun W hb=>hO3.rs.below hb (Nat.le_refl _)
  have HRV:Hid (RvR rs s en ec):=hv3
  obtain ⟨sn,hsn⟩:∃ sn,s.length=sn:=⟨_,rfl⟩
  have HSN:Hid (s.length=sn):=hsn
  have HSB:Hid (s.length≤1000000):=hv3.len
  rw [hsn] at HWV ⊢
  have HL0:Hid (OvL w3 (w3.alloc (.cells #[] 40)) (.slice (some ⟨w3.heap.size,0,none⟩) 0 0) [] s):=⟨World.ownsRow_lit (base:=w3.heap.size) (e:=40) (size:=1) w3 #[] 0 (Nat.le_refl _) (by unfold maxLen;omega) rfl,(Below.refl _ w3).alloc (Nat.le_refl _) _,by simp,List.Pairwise.nil⟩
  clear hO3 hb3 hv3 hsn HB2 x0
  go_wp2
  go_loopw [6,7] (fun vo vi wr=>∃ i:Nat,vi = .int .i64 i∧i≤2∧IsSl vo∧Hid (∃ vs,vs.length=i∧OvL w3 wr vo vs s)) (fun _ vi _=>2 - (intOf vi).toNat)
  case atStart=>exact ⟨0,rfl,by omega,⟨_,_,_,rfl⟩,[],rfl,HL0.out⟩
  case round=>
   obtain ⟨i,rfl,hi,⟨oa,on,oc,rfl⟩,HV⟩:=hrel
   clear HL0
   obtain ⟨ws,hws⟩:∃ ws,ws=wr:=⟨_,rfl⟩
   subst hws
   have HBS:Hid (Below w3.heap.size w3 ws∧Below W1.heap.size W1 ws∧Below w.heap.size w ws):=by
    obtain ⟨vs,_,h⟩:=HV.out
    exact ⟨h.bel,HB3.out.1.trans (h.bel.mono HB3.out.1.size),HB3.out.2.trans (h.bel.mono HB3.out.2.size)⟩
   have x0:=H.out.2.2.1 ws HBS.out.2.1
   have hi0:(0:Int)≤(i:Int):=by omega
   by_cases hlt:i<2
   · have hlt':(i:Int)<2:=by omega
     go_wp2_with fail
     refine (lend_any _ rs ws (H.out.2.2.2.1 ws HBS.out.2.2) (by rw [H.out.1];exact hn) H.out.2.2.2.2).mono ?_
     rintro e w5 ⟨base,xb,rv,sv,gv,cv,G,S,C,R,rg,c,hbase,rfl,erv,hlx,hR,hb5⟩
     rw [H.out.1] at hlx erv
     have hRl:R.length=n:=by rw [←H.out.1,←hR];simp
     have hps5:PsR w5 (.slice (some ⟨rg,0,none⟩) n c) rs:=by
      have h1:=hlx
      rw [←hRl] at h1 erv
      have:=h1.psr erv
      rw [hRl,hR] at this
      exact this
     have z0:w5.cell? ⟨xb,0,none⟩=some (.slice (some ⟨rg,0,none⟩) n c):=by rw [cell_of hlx.x];rfl
     have HX:=hidT (And.intro hlx (And.intro erv (And.intro hR (And.intro hbase hb5))))
     have HB5:Hid (Below w3.heap.size w3 w5∧Below W1.heap.size W1 w5∧Below w.heap.size w w5):=⟨HBS.out.1.trans (hb5.mono HBS.out.1.size),HBS.out.2.1.trans (hb5.mono HBS.out.2.1.size),HBS.out.2.2.trans (hb5.mono HBS.out.2.2.size)⟩
     have HO18:Hid (Calls Tryz.prog 18 #[.agg #[.slice (some ⟨rg,0,none⟩) n c]] w5 (OveQ w5 rs)):=over_any _ rs w5 (HT.out w5 HB5.out.2.2) hps5
     clear hlx erv hR hbase hb5 hRl hps5 x0
     go_wp2_with fail
     refine HO18.out.mono ?_
     rintro e w6 ⟨v6,n6,c6,s6,rfl,hO6,hb6,hv6⟩
     obtain ⟨rfl,rfl,rfl⟩:=over_same hv6 HRV.out
     obtain ⟨va,vc,rfl,-⟩:=hO6.rs
     have H6:=hidT (And.intro hO6 hb6)
     rw [HSN.out] at H6 ⊢
     have x6:=H.out.2.2.1 w6 (HB5.out.2.1.trans (hb6.mono HB5.out.2.1.size))
     have HB6:Hid (Below w3.heap.size w3 w6∧Below W1.heap.size W1 w6∧Below w.heap.size w w6):=⟨HB5.out.1.trans (hb6.mono HB5.out.1.size),HB5.out.2.1.trans (hb6.mono HB5.out.2.1.size),HB5.out.2.2.trans (hb6.mono HB5.out.2.2.size)⟩
     clear hO6 hb6 hv6 HO18 z0
     go_wp2_with fail
     refine (sameSet_eq _ _ _ w6 H6.out.1.rs (HWV.out w6 HB6.out.1) (by have:=HSN.out;have:=HSB.out;omega)).mono ?_
     rintro e w7 ⟨rfl,hg7⟩
     have HG7:=hidT hg7.below
     have HB7:Hid (Below w3.heap.size w3 w7∧Below W1.heap.size W1 w7∧Below w.heap.size w w7):=⟨HB6.out.1.trans (hg7.below.mono HB6.out.1.size),HB6.out.2.1.trans (hg7.below.mono HB6.out.2.1.size),HB6.out.2.2.trans (hg7.below.mono HB6.out.2.2.size)⟩
     have x7:=H.out.2.2.1 w7 HB7.out.2.1
     have HS15:Hid (Calls Tryz.prog 15 #[.pointer (some ⟨xb,0,none⟩),.agg #[.slice ra n rc]] w7 fun e w'=>e = .returned (.bool true)∧Fr w7 w' (fun b=>(BT G b∨BT S b∨BT C b)∨b=rg)):=
      still_lxF (HX.out.1.below (H6.out.2.trans (HG7.out.mono H6.out.2.size)) (Nat.le_refl _)) HX.out.2.1 HX.out.2.2.1 H.out.1 _ (H.out.2.2.2.1 w7 HB7.out.2.2) hn H.out.2.2.2.2
     clear x6 hg7
     go_wp2_with fail
     refine HS15.out.mono ?_
     rintro e w8 ⟨rfl,hf8⟩
     have HW8:Hid (Below ws.heap.size ws w8∧OwnR w8 ws.heap.size (.slice va sn vc) s6):=by
      obtain ⟨hlx,erv,hR,hbase,hb5⟩:=HX.out
      have ht:∀ b,((BT G b∨BT S b∨BT C b)∨b=rg)→base≤b∧b<w5.heap.size:=fun b hb=>by
       refine hlx.lt ?_
       rcases hb with (hb | hb | hb) | hb
       · exact .inr (.inr (.inr (.inr (.inr (.inl hb)))))
       · exact .inr (.inr (.inr (.inr (.inr (.inr (.inl hb))))))
       · exact .inr (.inr (.inr (.inr (.inr (.inr (.inr hb))))))
       · subst hb
         exact .inr (.inl (by rw [erv];rfl))
      have h7:Below ws.heap.size ws w7:=(hb5.trans (H6.out.2.mono hb5.size)).trans (HG7.out.mono (Nat.le_trans hb5.size H6.out.2.size))
      refine ⟨h7.trans (hf8.below (fun b hb=>Nat.le_trans hbase (ht b hb).1) h7.size),?_⟩
      have hv7:OwnR w7 w5.heap.size (.slice va sn vc) s6:=H6.out.1.below HG7.out (Nat.le_refl _)
      have hv8:OwnR w8 w5.heap.size (.slice va sn vc) s6:=own_fr hv7 hf8 fun b hb hB=>by
       have h1:=(World.ownsRow.lt hv7 b hb).1
       have h2:=(ht b hB).2
       omega
      exact OwnR.le hv8 hb5.size
     clear hf8 HS15 x7
     obtain ⟨vs,hvl,hV⟩:=HV.out
     have HV9:=hidT (And.intro hvl hV)
     have HA:Hid (OvL w3 (w8.alloc (.cells #[.slice va sn vc] 40)) (.slice oa on oc) vs s6∧SVs (w8.alloc (.cells #[.slice va sn vc] 40)) (.slice (some ⟨w8.heap.size,0,none⟩) 1 1) [.slice va sn vc]):=by
      refine ⟨(hV.below HW8.out.1).below ((Below.refl _ w8).alloc (Nat.le_refl _) _),_,1,rfl,Nat.le_refl _,.inr ⟨_,0,rfl,fun j hj => ?_⟩⟩
      have hj:j=0:=by simpa using hj
      subst hj
      rw [cell_of (World.alloc_heap_new _ _)]
      rfl
     clear hvl hV HV
     go_wp2_with (refine app_Vs2 rfl (.tmp 58) (.tmp 60) rfl w3.heap.size (.slice oa on oc) _ vs [.slice va sn vc] rfl HA.out.1.row rfl HA.out.2 (fun u hu=>by simp at hu;subst hu;exact ⟨_,_,_,rfl⟩) (by have:=HV9.out.1;simp;omega) HA.out.1.bel.size ?_;intro v9 w9 hO9 hg9;have H9:=hidT (And.intro hO9 hg9);clear hO9 hg9)
     have H10:Hid (∃ vs,vs.length=i+1∧OvL w3 w9 v9 vs s6):=⟨vs++[.slice va sn vc],by rw [List.length_append,HV9.out.1];rfl,HV9.out.2.more HW8.out.1 HW8.out.2 ((Grown.refl _).alloc _) H9.out.1 H9.out.2⟩
     exact ⟨⟨i+1,by go_num,by omega,(OwnVs.sv H9.out.1).sl,H10⟩,by simp [intOf];omega⟩
   · have hge:¬ (i:Int)<2:=by omega
     obtain rfl:i=2:=by omega
     obtain ⟨vs,hvl,hV⟩:=HV.out
     obtain ⟨a,b,rfl⟩:∃ a b,vs=[a,b]:=by
      match vs,hvl with
      | [a,b],_=>exact ⟨a,b,rfl⟩
     obtain ⟨oA,oC,e1,_,hsv⟩:=OwnVs.sv hV.row
     injection e1 with e2 e3 e4
     subst e2 e3 e4
     obtain ⟨og,oo,rfl,hcc⟩:=hsv.resolve_left (by simp)
     have hne:oo=0:=by
      rcases hV.row.2 with ⟨e,_⟩ | ⟨g',_,_,e,_⟩
      · cases e
      · injection e with e
        injection e with e
        injection e
     subst hne
     have ca:=hcc 0 (by simp)
     have cb:=hcc 1 (by simp)
     simp only [List.getElem_cons_zero,List.getElem_cons_succ] at ca cb
     have oa:=hV.el a (by simp)
     have ob:=hV.el b (by simp)
     obtain ⟨a1,a3,rfl,-⟩:=oa.rs
     obtain ⟨b1,b3,rfl,-⟩:=ob.rs
     have HOA:=hidT oa
     have HOB:=hidT ob
     have HR:=hidT hV.row
     have HOF:Hid (∀ k,(Value.slice a1 s.length a3).ownBlock=some k→(Value.slice b1 s.length b3).ownBlock≠some k):=by
      have:=hV.off
      rw [List.pairwise_cons] at this
      exact this.1 _ (by simp)
     rw [HSN.out] at HOA HOB HR HOF ca cb
     have HSP:=hidT (spoil20_any _ s 31 w3.heap.size ws HOA.out ⟨by omega,by omega⟩ HSB.out)
     clear hV hcc hsv oa ob HV x0
     rw [HSN.out] at HSP
     go_wp2_with fail
     refine HSP.out.mono ?_
     rintro e w10 ⟨⟨u10,rfl⟩,hf10,hr10⟩
     have hne1:∀ k,(Value.slice (some ⟨og,0,none⟩) 2 oc).ownBlock=some k→(Value.slice a1 sn a3).ownBlock≠some k:=fun k hk=>own_ne HR.out HOA.out (by decide) hk
     have hne2:∀ k,(Value.slice (some ⟨og,0,none⟩) 2 oc).ownBlock=some k→(Value.slice b1 sn b3).ownBlock≠some k:=fun k hk=>own_ne HR.out HOB.out (by decide) hk
     have hlg:=(World.ownsRow.lt HR.out og rfl).2
     have hbk:w10.heap[og]? = ws.heap[og]? := hf10.block og hlg fun e=>hne1 og rfl e
     have ca10:=(World.cell?_of_block (a:=⟨og,0,none⟩) hbk).trans ca
     have cb10:=(World.cell?_of_block (a:=⟨og,1,none⟩) hbk).trans cb
     have hbw:Below w3.heap.size ws w10:=hf10.below (fun k hk=>(World.ownsRow.lt HOA.out k hk).1) HBS.out.1.size
     have HB10:=hidT (HBS.out.1.trans hbw)
     have HOB10:Hid (OwnR w10 w3.heap.size (.slice b1 sn b3) s):=own_fr HOB.out hf10 fun k hk e=>HOF.out k e hk
     have HRA:=hidT hr10
     have HN2:=hidT hne2
     have hlg10:og<w10.heap.size:=Nat.lt_of_lt_of_le hlg hf10.size
     clear hne1 hne2 hlg hbk hbw hf10 hr10 ca cb HSP HOA HOB
     go_wp2_with fail
     refine (sameSet_eq _ _ s w10 HOB10.out.rs (HWV.out w10 HB10.out) (by have:=HSB.out;omega)).mono ?_
     rintro e w11 ⟨rfl,hg11⟩
     have hbk:w11.heap[og]? = w10.heap[og]? := hg11.below.block og hlg10
     have ca11:=(World.cell?_of_block (a:=⟨og,0,none⟩) hbk).trans ca10
     have cb11:=(World.cell?_of_block (a:=⟨og,1,none⟩) hbk).trans cb10
     have HB11:=hidT (HB10.out.trans (hg11.below.mono HB10.out.size))
     have HOB11:Hid (OwnR w11 w3.heap.size (.slice b1 sn b3) s):=HOB10.out.below hg11.below (Nat.le_refl _)
     have HRA11:=hidT (HRA.out.below hg11.below (Nat.le_refl _))
     have hlg11:og<w11.heap.size:=Nat.lt_of_lt_of_le hlg10 hg11.below.size
     have HSP:=hidT (spoil20_any _ s 32 w3.heap.size w11 HOB11.out ⟨by omega,by omega⟩ HSB.out)
     rw [HSN.out] at HSP
     clear hbk hg11 ca10 cb10 HOB10 HRA hlg10
     go_wp2_with fail
     refine HSP.out.mono ?_
     rintro e w12 ⟨⟨u12,rfl⟩,hf12,hr12⟩
     have hbk:w12.heap[og]? = w11.heap[og]? := hf12.block og hlg11 fun e=>HN2.out og rfl e
     have ca12:=(World.cell?_of_block (a:=⟨og,0,none⟩) hbk).trans ca11
     have cb12:=(World.cell?_of_block (a:=⟨og,1,none⟩) hbk).trans cb11
     have hbw:Below w3.heap.size w11 w12:=hf12.below (fun k hk=>(World.ownsRow.lt HOB11.out k hk).1) HB11.out.size
     have HB12:=hidT (HB3.out.2.trans ((HB11.out.trans hbw).mono HB3.out.2.size))
     have HRA12:=hidT (HRA11.out.fr hf12 fun k hk e=>HOF.out k hk e)
     have HRB12:=hidT hr12
     have hsn:sn≤1000000:=by rw [←HSN.out];exact HSB.out
     clear hbk hbw hf12 hr12 ca11 cb11 HSP HOB11 HRA11 hlg11
     go_wp2_with fail
     refine (marked_any _ sn 31 w12 HRA12.out ⟨by omega,by omega⟩ hsn).mono ?_
     rintro e w13 ⟨rfl,rfl⟩
     go_wp2_with fail
     refine (marked_any _ sn 32 _ HRB12.out ⟨by omega,by omega⟩ hsn).mono ?_
     rintro e w14 ⟨rfl,rfl⟩
     go_wp2
     go_ret
     exact ⟨rfl,HB12.out⟩
end Go.Proofs
namespace Go.Proofs.YtcfcjljapamcoaaGreatDoor
open Go.ChangeShapes Go.WideShapes Go.ChangeAt Go.RowKit Go.WideMaps Go.WideElems Go.Deep
set_option maxRecDepth 100000
section
variable {H:Type} {enc:TypeId × Value→H} {W:World}
noncomputable instance:Inhabited Rl:=⟨⟨false,false,0,[],[],[],[]⟩⟩
theorem pass_read {fuel:Nat} {cs:List Value} {x:DataW H × List MemPlace} (hf:DataW.trod enc Tryz.prog W 0 (fun _=>true) true fuel 24 cs=some x):∃ v rs,cs=[v]∧PsR W v rs∧rs.length≤Rows.uptoBulk x.1∧∀ r∈rs,Small r (Rows.uptoBulk x.1):=by
 obtain ⟨xs,k,hk,hxy,hcl,hxl,hff⟩:=DataW.trod_struct Tryz.underlying24 hf
 rw [cells24] at hcl
 match xs,hxl,cs,hcl with
 | [y0],_,[v0],_=>
  have g0:=hff 0 _ rfl
  simp [cells22] at g0
  obtain ⟨a,cap,l,hcs,h1,hm,hb,h2⟩:=slice_read Tryz.underlying22 cells60 (by decide) (fun cs d (r:Rl)=>∃ av kv pv rv,cs=[.bool r.bg,av,kv,pv,.bool r.en,rv,.int .i64 r.cu]∧RR W av kv pv rv r∧Small r (Rows.uptoBulk d)) (fun n cs x h=>by
   obtain ⟨av,kv,pv,rv,r,e,h1,h2⟩:=rule_read h
   exact ⟨r,av,kv,pv,rv,e,h1,h2⟩) g0
  have hbk:Rows.uptoBulk y0.1≤Rows.uptoBulk x.1:=by
   rw [hxy]
   simp only [List.map_cons,List.map_nil,Rows.uptoBulk,Rows.uptoBulkAll]
   omega
  have each:∀ r∈l,Small r (Rows.uptoBulk x.1):=fun r hr=>by
   rcases h2 with rfl | ⟨g,o,_,h⟩
   · cases hr
   · obtain ⟨j,hj,rfl⟩:=List.getElem_of_mem hr
     obtain ⟨cs',d,_,⟨_,_,_,_,_,_,hs⟩,h5,_⟩:=h j hj
     exact hs.mono (Nat.le_trans h5 hbk)
  simp only [List.cons.injEq,and_true] at hcs
  subst hcs
  refine ⟨_,l,rfl,⟨a,cap,rfl,h1,h2.imp id ?_⟩,Nat.le_trans hb hbk,each⟩
  rintro ⟨g,o,rfl,h⟩
  refine ⟨g,o,rfl,fun j hj => ?_⟩
  obtain ⟨cs',_,_,⟨av,kv,pv,rv,rfl,hR,_⟩,_,h3⟩:=h j hj
  exact ⟨av,kv,pv,rv,h3 0 _ rfl,h3 1 _ rfl,h3 2 _ rfl,h3 3 _ rfl,h3 4 _ rfl,h3 5 _ rfl,h3 6 _ rfl,hR⟩
end
end Go.Proofs.YtcfcjljapamcoaaGreatDoor
