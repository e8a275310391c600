/-
  core 98, walked.
-/
import Derived.Test.YtcfcjljapamcoabGreatDoorMpkr
namespace Go.Proofs
open Go.RowKit Go.Shelf
set_option maxRecDepth 100000
attribute [local go_sem] Oper.semAt_some
theorem SVs.tn {m:Nat} {w w':World} {v:Value} {vs:List Value} (h:SVs w v vs) (hT:Tn m w w') (hm:∀ g o n c,v = .slice (some ⟨g,o,none⟩) n c→n≠0→g≠m):SVs w' v vs:=by
 obtain ⟨A,c,rfl,h1,h2⟩:=h
 refine ⟨A,c,rfl,h1,?_⟩
 rcases h2 with h2 | ⟨g,o,rfl,h3⟩
 · exact .inl h2
 · by_cases h0:vs=[]
   · exact .inl h0
   · have hl:0<vs.length:=List.length_pos_iff.2 h0
     refine .inr ⟨g,o,rfl,fun j hj => ?_⟩
     have:=h3 j hj
     have hlt:=cell_lt this
     exact (cell_eqb (a:=⟨g,o+j,none⟩) (hT.2 g (hm g o _ c rfl (by omega)) hlt)).trans this
def CorQ (w:World) (rs:List Rl) (e:Ending) (w':World):Prop:=∃ v s,e = .returned v∧OwnR w' w.heap.size v s∧Up s∧(∀ u,inL s u=true↔∃ l∈rs.flatMap waS,inL l u=true)∧Below w.heap.size w w'
theorem way_sets {w:World} {r:Rl} {kv iv:Value} (hk:SR w kv r.key) (hi:SR w iv (img r)) (ho:Ok r) (b:Nat) (W:World) (hB:Below w.heap.size w W) (c1:W.cell? ⟨b,0,none⟩=some kv) (c2:W.cell? ⟨b,1,none⟩=some iv) :
 ∃ vs,vs.length=(waS r).length∧(∀ (j:Nat) (u:Value),vs[j]? = some u→∃ l,(waS r)[j]? = some l∧Rs w u l)∧Calls Tryz.prog 77 #[.slice (some ⟨b,0,none⟩) 2 2] W fun e w'=>∃ v',e = .returned v'∧OwnVs w' W.heap.size v' vs∧Below W.heap.size W w':=by
 obtain ⟨ks,sk,lk,ek⟩:=hk.sv
 obtain ⟨is,si,li,ei⟩:=hi.sv
 have hl:=waS_len ho
 have hlen:(ks++is).length=(waS r).length:=by rw [List.length_append,lk,li];simp [waS]
 refine ⟨ks++is,hlen,fun j u hj => ?_,concatS_any b kv iv ks is W c1 c2 (sk.below hB (Nat.le_refl _)) (si.below hB (Nat.le_refl _)) (fun u hu => ?_) (fun u hu => ?_) (by rw [←List.length_append,hlen];exact hl.2) (by rw [←List.length_append,hlen];omega)⟩
 · unfold waS
   by_cases hjk:j<ks.length
   · rw [List.getElem?_append_left hjk] at hj
     rw [List.getElem?_append_left (by omega)]
     exact ek j u hj
   · rw [List.getElem?_append_right (by omega)] at hj
     rw [List.getElem?_append_right (by omega),←lk]
     exact ei _ u hj
 · obtain ⟨j,hj⟩:=List.getElem?_of_mem hu
   obtain ⟨l,_,h⟩:=ek j u hj
   exact h.sl
 · obtain ⟨j,hj⟩:=List.getElem?_of_mem hu
   obtain ⟨l,_,h⟩:=ei j u hj
   exact h.sl
set_option maxHeartbeats 8000000 in
theorem core_any (w:World) (v:Value) (rs:List Rl) (h:WyR w v rs) (hn:rs.length≤256) (ho:∀ r∈rs,Ok r):Calls Tryz.prog 49 #[v] w (CorQ w rs):=by
 obtain ⟨a,cap,rfl,hcap,hr⟩:=h
 obtain ⟨n,hnn⟩:∃ n,rs.length=n:=⟨_,rfl⟩
 have H:Hid (rs.length=n∧(∀ r∈rs,Ok r)∧(rs=[]∨∃ g o,a=some ⟨g,o,none⟩∧∀ (j:Nat) (hj:j<rs.length),WyAt w g (o+j*8) rs[j])):=⟨hnn,ho,hr⟩
 have H0:Hid (CoI w.heap.size (w.alloc (.map #[] 0)) (w.alloc (.map #[] 0)) 0 []):=CoI.start w
 have hmm := @run_makeMap Tryz.prog
 rw [hnn] at hn ⊢
 obtain ⟨W1,hW1⟩:∃ W1,W1=w.alloc (.map #[] 0):=⟨_,rfl⟩
 have HW:Hid (Below w.heap.size w W1):=by show Below _ _ _;rw [hW1];exact (Below.refl _ w).alloc (Nat.le_refl _) _
 rw [←hW1] at H0
 clear ho hr hnn hcap
 go_enter Tryz.func49,Tryz.ntmps49
 go_wp2
 rw [←hW1]
 clear hW1
 go_loopw [11] (fun vi wr=>∃ k:Nat,vi = .int .i64 k∧k≤n∧Hid (CoI w.heap.size W1 wr (k*30000) ((rs.take k).flatMap waS))) (fun vi _=>n - (intOf vi).toNat)
 case atStart=>exact ⟨0,rfl,by omega,H0⟩
 case round=>
  obtain ⟨k,rfl,hk,HB⟩:=hrel
  obtain ⟨wo,hwo⟩:∃ x,x=wr:=⟨_,rfl⟩
  subst hwo
  by_cases hlt:k<n
  · have hlt':(k:Int)<(n:Int):=by omega
    have hpos:(0:Int)≤(k:Int):=by omega
    have hkl:k<rs.length:=by rw [H.out.1];exact hlt
    obtain ⟨g,o,rfl,hr⟩:=H.out.2.2.resolve_left (by intro e;rw [e] at hkl;simp at hkl)
    obtain ⟨av,kv,pv,rv,iv,hc,hwc⟩:=hr k hkl
    have hok:=H.out.2.1 _ (List.getElem_mem hkl)
    have hfm:Hid ((rs.take (k+1)).flatMap waS=(rs.take k).flatMap waS++waS rs[k]):=by
     show _=_
     rw [List.take_succ_eq_append_getElem hkl,List.flatMap_append,List.flatMap_cons,List.flatMap_nil,List.append_nil]
    obtain ⟨r,hre⟩:∃ r,rs[k]'hkl=r:=⟨_,rfl⟩
    rw [hre] at hc hwc hok hfm
    have hbo:Below w.heap.size w wo:=HW.out.trans HB.out.tn.1
    have q:=fun i v hv=>cell_below (hc i v hv) hbo (Nat.le_refl _)
    have q0:=q 0 _ rfl
    have q1:=q 1 _ rfl
    have q2:=q 2 _ rfl
    have q3:=q 3 _ rfl
    have q4:=q 4 _ rfl
    have q5:=q 5 _ rfl
    have q6:=q 6 _ rfl
    have q7:=q 7 _ rfl
    simp only [Nat.add_zero] at q0
    obtain ⟨aa,an,ac,rfl⟩:=hwc.rr.a.sl
    obtain ⟨ka,kn,kc,rfl⟩:=hwc.rr.k.sl
    obtain ⟨pa,pn,pc,rfl⟩:=hwc.rr.p.sl
    obtain ⟨ra,rn,rc,rfl⟩:=hwc.rr.r.sl
    obtain ⟨ia,im,ic,rfl⟩:=hwc.im.sl
    have HWC:Hid (WyC w r (.slice aa an ac) (.slice ka kn kc) (.slice pa pn pc) (.slice ra rn rc) (.slice ia im ic)∧Ok r∧Below w.heap.size w wo):=⟨hwc,hok,hbo⟩
    clear q hc hwc hok hr hre hbo
    obtain ⟨Wc,hWc⟩:∃ Wc,Wc=(wo.alloc (.cells #[.bool r.bg,.slice aa an ac,.slice ka kn kc,.slice pa pn pc,.bool r.en,.slice ra rn rc,.int .i64 r.cu,.slice ia im ic] 79)).alloc (.cells #[.slice ka kn kc,.slice ia im ic] 56):=⟨_,rfl⟩
    have hbc:Below wo.heap.size wo Wc:=by rw [hWc];exact ((Below.refl _ wo).alloc (Nat.le_refl _) _).alloc (by simp) _
    have hsc:Wc.heap.size=wo.heap.size+1+1:=by rw [hWc];simp
    have c1:Wc.cell? ⟨wo.heap.size+1,0,none⟩=some (.slice ka kn kc):=by
     rw [hWc,←World.size_alloc wo (.cells #[.bool r.bg,.slice aa an ac,.slice ka kn kc,.slice pa pn pc,.bool r.en,.slice ra rn rc,.int .i64 r.cu,.slice ia im ic] 79),cell_of (World.alloc_heap_new _ _)]
     rfl
    have c2:Wc.cell? ⟨wo.heap.size+1,1,none⟩=some (.slice ia im ic):=by
     rw [hWc,←World.size_alloc wo (.cells #[.bool r.bg,.slice aa an ac,.slice ka kn kc,.slice pa pn pc,.bool r.en,.slice ra rn rc,.int .i64 r.cu,.slice ia im ic] 79),cell_of (World.alloc_heap_new _ _)]
     rfl
    obtain ⟨vs,hvl,hve,hC⟩:=way_sets HWC.out.1.rr.k HWC.out.1.im HWC.out.2.1 (wo.heap.size+1) Wc (HWC.out.2.2.trans (hbc.mono HWC.out.2.2.size)) c1 c2
    have HC:Hid (Calls Tryz.prog 77 #[.slice (some ⟨wo.heap.size+1,0,none⟩) 2 2] Wc fun e w'=>∃ v',e = .returned v'∧OwnVs w' Wc.heap.size v' vs∧Below Wc.heap.size Wc w'):=hC
    have HV:Hid (vs.length=(waS r).length∧(∀ (j:Nat) (u:Value),vs[j]? = some u→∃ l,(waS r)[j]? = some l∧Rs w u l)∧Below wo.heap.size wo Wc∧Wc.heap.size=wo.heap.size+1+1):=⟨hvl,hve,hbc,hsc⟩
    clear hvl hve hC hbc hsc c1 c2
    go_wp2_with fail
    rw [←hWc]
    clear hWc
    refine HC.out.mono ?_
    rintro e w2 ⟨v',rfl,hO2,hb2⟩
    obtain ⟨ba,bc,rfl,_⟩:=hO2.sv
    obtain ⟨nv,hnv⟩:∃ nv,vs.length=nv:=⟨_,rfl⟩
    rw [hnv] at hO2 ⊢
    have hbo2:Below wo.heap.size wo w2:=HV.out.2.2.1.trans (hb2.mono (by have:=HV.out.2.2.2;omega))
    have hmo:w.heap.size<wo.heap.size:=HB.out.lt
    have HR:Hid (∀ W',Tn w.heap.size w2 W'→SVs W' (.slice ba nv bc) vs):=fun W' hT=>by
     have hO3:=hO2
     rw [←hnv] at hO3 ⊢
     refine SVs.tn hO3.sv hT fun g o n c e h0 => ?_
     injection e with e1 e2 e3
     rcases hO3.2 with ⟨e4,h5⟩ | ⟨g5,cap5,cur5,e5,h6,_⟩
     · omega
     · injection e5 with e6
       rw [e6] at e1
       injection e1 with e7
       injection e7 with e8
       have:=HV.out.2.2.2
       omega
    have H2:Hid (CoI w.heap.size W1 w2 (k*30000+0*1024) ((rs.take k).flatMap waS++(waS r).take 0)∧Tn w.heap.size w2 w2):=⟨by simpa using HB.out.grown hbo2,Tn.refl _ _⟩
    have HNV:Hid (vs.length=nv∧Below w.heap.size w w2∧w.heap.size≤w2.heap.size):=⟨hnv,HWC.out.2.2.trans (hbo2.mono HWC.out.2.2.size),by have:=hbo2.size;omega⟩
    have hnv24:nv≤24:=by
     have h1:=HV.out.1
     have h2:=(waS_len HWC.out.2.1).1
     omega
    have hk30:k*30000≤30000000:=by omega
    clear hO2 hb2 hnv hbo2 hmo HC HB q0 q1 q2 q3 q4 q5 q6 q7
    go_wp2
    go_loopw [23] (fun vi wr=>∃ j:Nat,vi = .int .i64 j∧j≤nv∧Hid (CoI w.heap.size W1 wr (k*30000+j*1024) ((rs.take k).flatMap waS++(waS r).take j)∧Tn w.heap.size w2 wr)) (fun vi _=>nv - (intOf vi).toNat)
    case atStart=>exact ⟨0,rfl,by omega,H2⟩
    case round=>
     obtain ⟨j,rfl,hj,HJ⟩:=hrel
     by_cases hjl:j<nv
     · have hjl':(j:Int)<(nv:Int):=by omega
       have hjpos:(0:Int)≤(j:Int):=by omega
       have hjv:j<vs.length:=by rw [HNV.out.1];exact hjl
       obtain ⟨A5,c5,e5,_,h5⟩:=HR.out wr HJ.out.2
       injection e5 with e5 e5b e5c
       clear e5b e5c
       obtain ⟨g5,o5,e6,h6⟩:=h5.resolve_left (by intro e;rw [e] at hjv;simp at hjv)
       subst e5
       subst e6
       have cu:=h6 j hjv
       obtain ⟨u,hu⟩:∃ u,vs[j]? = some u:=⟨_,List.getElem?_eq_getElem hjv⟩
       obtain ⟨_,hue⟩:=List.getElem?_eq_some_iff.1 hu
       rw [hue] at cu
       obtain ⟨l,hl,hRu⟩:=HV.out.2.1 j u hu
       have hokl:=waS_ok HWC.out.2.1 l (List.mem_of_getElem? hl)
       obtain ⟨ua,un,uc,rfl⟩:=hRu.sl
       have HA:Hid (Calls Tryz.prog 33 #[.map (some w.heap.size),.slice ua un uc,.int .i64 1] wr fun e w'=>e = .returned (.tuple #[])∧CoI w.heap.size W1 w' (k*30000+(j+1)*1024) ((rs.take k).flatMap waS++(waS r).take (j+1))∧Tn w.heap.size w2 w'):=by
        refine (HJ.out.1.add hokl (by omega) (fun W' hT=>hRu.below (HNV.out.2.1.trans (HJ.out.2.1.trans hT.1)) (Nat.le_refl _))).mono ?_
        rintro e w' ⟨rfl,hC,hT⟩
        refine ⟨rfl,?_,HJ.out.2.trans hT⟩
        obtain ⟨hjw,hle⟩:=List.getElem?_eq_some_iff.1 hl
        rw [List.take_succ_eq_append_getElem hjw,hle,←List.append_assoc]
        exact hC.mono (by omega)
       clear hu hue hl hRu hokl h6 h5 HJ
       go_wp2_with fail
       refine HA.out.mono ?_
       rintro e w3 ⟨rfl,hC3,hT3⟩
       have H3:Hid (CoI w.heap.size W1 w3 (k*30000+(j+1)*1024) ((rs.take k).flatMap waS++(waS r).take (j+1))∧Tn w.heap.size w2 w3):=⟨hC3,hT3⟩
       clear hC3 hT3 HA cu
       go_wp2
       exact ⟨⟨j+1,by go_num,by omega,H3⟩,by simp [intOf];omega⟩
     · have HF:Hid (CoI w.heap.size W1 wr ((k+1)*30000) ((rs.take (k+1)).flatMap waS)):=by
        have:=HJ.out.1
        rw [List.take_of_length_le (l:=waS r) (by have:=HV.out.1;have:=HNV.out.1;omega),←hfm.out] at this
        exact this.mono (by omega)
       clear HJ
       go_wp2
       exact ⟨⟨k+1,by go_num,by omega,HF⟩,by simp [intOf];omega⟩
  · have HF:Hid (CoI w.heap.size W1 wo (n*30000) (rs.flatMap waS)):=by
     have:=HB.out
     rw [show k=n by omega,List.take_of_length_le (by rw [H.out.1];exact Nat.le_refl _)] at this
     exact this
    have HU:Hid (Calls Tryz.prog 34 #[.map (some w.heap.size)] wo (CorQ w rs)):=by
     refine (HF.out.units (by omega) (fun l hl => ?_)).mono ?_
     · obtain ⟨r,hr,hlr⟩:=List.mem_flatMap.1 hl
       exact waS_ok (H.out.2.1 r hr) l hlr
     · rintro e w' ⟨v,s,rfl,hO,hU,hu,hB⟩
       have hb:=HW.out.trans HF.out.tn.1
       exact ⟨v,s,rfl,hO.le hb.size,hU,hu,hb.trans (hB.mono hb.size)⟩
    clear HB HF
    go_wp2_with fail
    refine HU.out.mono ?_
    rintro e w3 ⟨v,s,rfl,hO,hU,hu,hB⟩
    obtain ⟨va,vc,rfl,_⟩:=hO.rs
    have HF:Hid (CorQ w rs (.returned (.slice va s.length vc)) w3):=⟨_,s,rfl,hO,hU,hu,hB⟩
    clear hO hU hu hB HU
    go_wp2
    go_ret
    exact HF.out
end Go.Proofs
