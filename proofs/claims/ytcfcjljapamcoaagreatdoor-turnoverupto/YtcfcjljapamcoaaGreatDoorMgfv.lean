/-
  Several texts in one (Sa Sc Sb Sd Se Sf Sg Sh Si Od Sj Ra2).
-/
import Derived.RangeFuncNested
import Derived.RangeFuncBound
import Derived.RangeFuncCalls
import Derived.RangeFuncLeaves
import Derived.Shelf.Abstract
import Derived.Shelf.RegionOpen
import Derived.WalkKit
import Derived.WalkSpells
import Derived.WalkLawsBesides
import Derived.OwnWalkIn
import Derived.TacticsInMore
import Derived.LoopNIn
import Derived.LoopIn
import Derived.BigQuiet
import Derived.RegionIn
import Derived.Deep.QuietTactic
import Derived.Deep.RegionWith
import Derived.Lib.OthersKept
import Derived.Maps.AppendAt
import Derived.Lib.SmallJoins
import Derived.Shelf.SlSortCmp.QuietGrown
import Derived.Test.YtcfcjljapamcoaaGreatDoorMgev
import Derived.Test.YtcfcjljapamcoaaGreatDoorMgbv
import Derived.Test.YtcfcjljapamcoaaGreatDoorMgav
import Derived.Deep.AppendLies
import Derived.Deep.Upon
import Derived.Lib.AppendZeros
namespace Go.Proofs
open Go.RowKit Go.Shelf
set_option maxRecDepth 100000
attribute [local go_sem] Oper.semAt_some
attribute [local go_sem ↓] Go.wp_at_zero Go.wp_at_succ
def lt (key:Int→Int) (x y:Int):Prop:=key y<key x∨(key x=key y∧x<y)
theorem new_blk {W:World} {b:Nat} {o:Obj} (h:W.heap.size=b):(W.alloc o).heap[b]? = some o:=by subst h;exact heap_alloc_new _ _
def RowI (w:World) (base xb:Nat) (pv rv sv gv cv:Value) (G:List It) (S:List (Value × List It)) (C:List (Value × List (Pc × Value))) (R:List LRu) (re:List Value) (n:Nat) (ls:List (List (Int × Int))) (wr:World) (ov:Value) (k:Nat):Prop:=
 ∃ gv' its ob cap,ov = .slice (some ⟨ob,0,none⟩) k cap∧its.length=k∧its.map Prod.snd=ls.take k∧LX wr base xb pv rv sv gv' cv (G++its) S C R re n∧wr.ownsRow base 40 1 ov k (its.map fun y=>cut y.1)∧Fr w wr (Bs xb rv sv gv cv G S C)∧(∀ b,Bs xb rv sv gv' cv (G++its) S C b→Bs xb rv sv gv cv G S C b∨w.heap.size≤b)∧w.heap.size≤ob∧¬ Bs xb rv sv gv' cv (G++its) S C ob
theorem own_empty59 (w:World) (base:Nat) (hb:base≤w.heap.size):(w.alloc (.cells #[] 40)).ownsRow base 40 1 (.slice (some ⟨w.heap.size,0,none⟩) 0 0) 0 []:=
 ⟨rfl,.inr ⟨w.heap.size,0,#[],rfl,hb,heap_alloc_new w _,Nat.le_refl _,Nat.zero_le _,rfl,rfl⟩⟩
set_option maxHeartbeats 8000000 in
theorem row_lx {w:World} {base xb:Nat} {pv rv sv gv cv:Value} {G:List It} {S:List (Value × List It)} {C:List (Value × List (Pc × Value))} {R:List LRu} {re:List Value} {n:Nat} (h:LX w base xb pv rv sv gv cv G S C R re n) (lv:Value) (ls:List (List (Int × Int))) (hs:∀ V,Below base w V→SR V lv ls) (hl:∀ l∈ls,l.length≤2147483647) (hn:ls.length≤2147483647) (hG:G.length+ls.length≤4398046511104) (hS:S.length≤4294967295) :
 Calls Tryz.prog 36 #[.pointer (some ⟨xb,0,none⟩),lv] w fun e w'=>∃ v' gv' sv' its,e = .returned (cut v')∧its.map Prod.snd=ls∧LX w' base xb pv rv sv' gv' cv (G++its) (S++[(v',its)]) C R re n∧Fr w w' (Bs xb rv sv gv cv G S C)∧∀ b,Bs xb rv sv' gv' cv (G++its) (S++[(v',its)]) C b→Bs xb rv sv gv cv G S C b∨w.heap.size≤b:=by
 have HX:Hid (LX w base xb pv rv sv gv cv G S C R re n):=h
 have HSR:Hid (∀ V,Below base w V→SR V lv ls):=hs
 have HBW:Hid (base≤w.heap.size):=by have:=(h.lt (.inl rfl));show _≤_;omega
 have HBB:Hid (∀ b,Bs xb rv sv gv cv G S C b→base≤b∧b<w.heap.size):=fun b hb=>h.lt hb
 obtain ⟨la,lc,hlv,hx1,hx2⟩:=hs w (Below.refl _ _)
 subst hlv
 clear hx1 hx2 hs
 obtain ⟨N,hN⟩:∃ N,ls.length=N:=⟨_,rfl⟩
 have HN:Hid (ls.length=N):=hN
 rw [hN] at HSR hn hG ⊢
 have hNI:(N:Int)≤2147483647:=by omega
 have hN0:(0:Int)≤(N:Int):=by omega
 have HL:Hid (∀ l∈ls,l.length≤2147483647):=hl
 have HI0:Hid (RowI w base xb pv rv sv gv cv G S C R re n ls (w.alloc (.cells #[] 40)) (.slice (some ⟨w.heap.size,0,none⟩) 0 0) 0):=by
  have hg:=(Grown.refl w).alloc (.cells #[] 40)
  refine ⟨gv,[],w.heap.size,0,rfl,rfl,by simp,by simpa using h.grown hg,own_empty59 w base HBW.out,fr_grown hg _,fun b hb => .inl (by simpa using hb),Nat.le_refl _,fun hb => ?_⟩
  have:=HBB.out w.heap.size (by simpa using hb)
  omega
 clear hN hl h
 go_enter Tryz.func36,Tryz.ntmps36
 go_wp2
 generalize w.alloc (.cells #[] 40)=wI at HI0 ⊢
 go_loopw [5,6] (fun v5 v6 wr=>∃ k:Nat,v6 = .int .i64 k∧k≤N∧Hid (RowI w base xb pv rv sv gv cv G S C R re n ls wr v5 k)) (fun _ v6 _=>N - (intOf v6).toNat)
 case atStart=>exact ⟨0,rfl,by omega,HI0⟩
 case round=>
  obtain ⟨k,rfl,hk,HI⟩:=hrel
  have hk0:(0:Int)≤(k:Int):=by omega
  obtain ⟨gv1,its,ob,cap,hov,hil,him,hLX,hown,hfr,hgr,hob,hnb⟩:=HI.out
  subst hov
  have HLX:Hid (LX wr base xb pv rv sv gv1 cv (G++its) S C R re n):=hLX
  have HOW:Hid (wr.ownsRow base 40 1 (.slice (some ⟨ob,0,none⟩) k cap) k (its.map fun y=>cut y.1)):=hown
  have HFR:Hid (Fr w wr (Bs xb rv sv gv cv G S C)):=hfr
  have HGR:Hid (∀ b,Bs xb rv sv gv1 cv (G++its) S C b→Bs xb rv sv gv cv G S C b∨w.heap.size≤b):=hgr
  have HOB:Hid (w.heap.size≤ob∧ob<wr.heap.size∧¬ Bs xb rv sv gv1 cv (G++its) S C ob):=⟨hob,(World.ownsRow.lt hown ob rfl).2,hnb⟩
  have HIL:Hid (its.length=k∧its.map Prod.snd=ls.take k):=⟨hil,him⟩
  have HB:Hid (Below base w wr):=hfr.below (fun k hk=>(HBB.out k hk).1) HBW.out
  clear hLX hown hfr hgr hob hnb hil him HI HI0
  by_cases hlt:k<N
  · have hltI:(k:Int)<(N:Int):=by omega
    have hkl:k<ls.length:=by rw [HN.out];exact hlt
    obtain ⟨la',lc',e',_,hR⟩:=HSR.out wr HB.out
    obtain ⟨lg,lo,hla,hR2⟩:=hR.resolve_left (fun e=>by rw [e] at hkl;simp at hkl)
    injection e' with e1 e2 e3
    clear e2 e3
    rw [hla] at e1
    subst e1
    obtain ⟨xv,cx,hrx⟩:=hR2 k hkl
    obtain ⟨x1,x2,x3,rfl⟩:=hrx.sl
    have HC:Hid (Calls Tryz.prog 35 #[.pointer (some ⟨xb,0,none⟩),.slice x1 x2 x3] wr fun e w'=>∃ v' gv',e = .returned (cut v')∧LX w' base xb pv rv sv gv' cv ((G++its)++[(v',ls[k])]) S C R re n∧Fr wr w' (Bs xb rv sv gv1 cv (G++its) S C)∧∀ b,Bs xb rv sv gv' cv ((G++its)++[(v',ls[k])]) S C b→Bs xb rv sv gv1 cv (G++its) S C b∨wr.heap.size≤b):=
     set_lx HLX.out _ ls[k] hrx (HL.out _ (List.getElem_mem hkl)) (by rw [List.length_append,HIL.out.1];omega)
    clear hR hR2 hrx hla
    go_wp2_with (first
     | (go_at_call 35
        refine HC.out.mono ?_
        rintro e w1 ⟨v1,gv2,rfl,hLX1,hFR1,hGR1⟩
        have HLX1:Hid (LX w1 base xb pv rv sv gv2 cv ((G++its)++[(v1,ls[k])]) S C R re n):=hLX1
        have HFR1:Hid (Fr wr w1 (Bs xb rv sv gv1 cv (G++its) S C)):=hFR1
        have HGR1:Hid (∀ b,Bs xb rv sv gv2 cv ((G++its)++[(v1,ls[k])]) S C b→Bs xb rv sv gv1 cv (G++its) S C b∨wr.heap.size≤b):=hGR1
        have HOW1:Hid (w1.ownsRow base 40 1 (.slice (some ⟨ob,0,none⟩) k cap) k (its.map fun y=>cut y.1)):=own_fr HOW.out hFR1 fun b e hb=>by injection e with e;have e:ob=b:=e;subst e;exact HOB.out.2.2 hb
        have hvf:∃ g c,v1 = .slice (some ⟨g,0,none⟩) (ls[k].length+1) c:=by
         have:=hLX1.gi (v1,ls[k]) (by simp)
         unfold OwnR at this
         rw [List.length_append] at this
         obtain ⟨g,c,e,_⟩:=fl_slice this
         exact ⟨g,c,e⟩
        obtain ⟨vg,vc,hv1⟩:=hvf
        have HV1:Hid (v1 = .slice (some ⟨vg,0,none⟩) (ls[k].length+1) vc):=hv1
        have hcv:cut v1 = .slice (some ⟨vg,0,none⟩) ls[k].length vc:=by rw [hv1];rfl
        obtain ⟨vn,hvn⟩:∃ vn,ls[k].length=vn:=⟨_,rfl⟩
        rw [hvn] at hcv
        rw [hcv]
        have HCV:Hid (cut v1 = .slice (some ⟨vg,0,none⟩) vn vc):=hcv
        clear hLX1 hFR1 hGR1 hv1 hcv hvn)
     | (at_builtin;go_must (first
        | (refine app_gen rfl _ _ 34 rfl 40 (.slice none 0 0) 1 24 Tryz.underlying34 inf59 rfl (by decide) base _ k (its.map fun y=>cut y.1) rfl (World.ownsRow.alloc HOW1.out _) w1.heap.size _ [cut v1] rfl rfl 40 (by rw [HCV.out];exact heap_alloc_new _ _) (by intro u hu;simp at hu;subst hu;rw [HCV.out];rfl) (by omega) (by omega) (by have:=HBW.out;have:=HFR.out.size;have:=HFR1.out.size;simp;omega) ?_
           intro g4 c4 w4 hO4 hF4 hg4
           have HO4:Hid (w4.ownsRow base 40 1 (.slice (some ⟨g4,0,none⟩) (k+1) c4) (k+1) ((its.map fun y=>cut y.1)++[cut v1])):=hO4
           have HF4:Hid (Fr w1 w4 fun j=>ob=j):=(fr_grown ((Grown.refl w1).alloc _) _).trans hF4 fun _ _ e=>by injection e
           have HG4:Hid (ob=g4∨w1.heap.size≤g4):=hg4.elim (fun e => .inl (by injection e)) fun e => .inr (by rw [e];exact ((Grown.refl w1).alloc _).size)
           clear hO4 hF4 hg4))))
    have hOB:=HOB.out
    have hnb1:¬ Bs xb rv sv gv2 cv ((G++its)++[(v1,ls[k])]) S C ob:=fun hb=>by
     rcases HGR1.out ob hb with h | h
     · exact hOB.2.2 h
     · omega
    have hLX4:=HLX1.out.fr HF4.out fun b hb e=>hnb1 (by rw [e];exact hb)
    refine ⟨⟨k+1,by go_num,by omega,gv2,its++[(v1,ls[k])],g4,c4,rfl,by simp [HIL.out.1],?_,by rw [←List.append_assoc];exact hLX4,?_,?_,?_,?_,?_⟩,by simp [intOf];omega⟩
    · rw [List.map_append,HIL.out.2,List.take_add_one,List.getElem?_eq_getElem hkl];rfl
    · rw [List.map_append];exact HO4.out
    · exact (HFR.out.trans HFR1.out fun i hi e=>(HGR.out i e).resolve_right (by omega)).trans HF4.out fun i hi e=>by have e:ob=i:=e;omega
    · rw [←List.append_assoc]
      intro b hb
      rcases HGR1.out b hb with h | h
      · exact HGR.out b h
      · exact .inr (by have:=HFR.out.size;omega)
    · rcases HG4.out with e | e
      · omega
      · have:=HFR.out.size;have:=HFR1.out.size;omega
    · rw [←List.append_assoc]
      intro hb
      rcases HG4.out with e | e
      · rw [←e] at hb;exact hnb1 hb
      · have:=(HLX1.out.lt hb).2;omega
  · have hge:¬ (k:Int)<(N:Int):=by omega
    have HKN:Hid (k=N):=by show _=_;omega
    have HIM:Hid (its.length=N∧its.map Prod.snd=ls):=⟨by rw [HIL.out.1];exact HKN.out,by rw [HIL.out.2,HKN.out,←HN.out,List.take_length]⟩
    go_wp2_with (first
     | (go_at_call 43
        refine (mark_any _).mono ?_
        rintro e w1 ⟨rfl,hg1⟩
        have HG1:Hid (Grown wr w1):=hg1
        clear hg1)
     | (at_builtin;go_must (first
        | (refine app_gen rfl _ _ 34 rfl 40 (.slice none 0 0) 1 24 Tryz.underlying34 inf59 rfl (by decide) base _ k (its.map fun y=>cut y.1) rfl (World.ownsRow.alloc (World.ownsRow.alloc (own_fr HOW.out (fr_grown HG1.out fun _=>False) fun _ _=>id) _) _) _ _ [.slice (some ⟨w1.heap.size,0,none⟩) 1 1] rfl rfl 40 (new_blk (by simp)) (by intro u hu;simp at hu;subst hu;rfl) (by omega) (by omega) (by have:=HBW.out;have:=HFR.out.size;have:=HG1.out.size;simp;omega) ?_
           intro g4 c4 w4 hO4 hF4 hg4
           have HO4:Hid (w4.ownsRow base 40 1 (.slice (some ⟨g4,0,none⟩) (k+1) c4) (k+1) ((its.map fun y=>cut y.1)++[.slice (some ⟨w1.heap.size,0,none⟩) 1 1])):=hO4
           have HGA:Hid (∀ o1 o2,Grown wr ((w1.alloc o1).alloc o2)):=fun o1 o2=>(HG1.out.alloc o1).alloc o2
           have HF4:Hid (Fr wr w4 fun j=>ob=j):=(fr_grown (HGA.out _ _) _).trans hF4 fun _ _ e=>by injection e
           have HG4:Hid (ob=g4∨wr.heap.size≤g4):=hg4.elim (fun e => .inl (by injection e)) fun e => .inr (by rw [e];exact (HGA.out _ _).size)
           have HX4:Hid (LX w4 base xb pv rv sv gv1 cv (G++its) S C R re n):=HLX.out.fr HF4.out fun b hb e=>HOB.out.2.2 (by rw [e];exact hb)
           have e4:w4.cell? ⟨xb,2,none⟩=some sv:=by rw [cell_of HX4.out.x];rfl
           have hcc:k+1≤c4:=by
            rcases hO4.2 with ⟨e,_⟩ | ⟨_,_,_,e,_,_,h2,_⟩
            · cases e
            · injection e with _ _ e;omega
           have hccI:(N:Int)≤(c4:Int):=by have:=HKN.out;omega
           have hccN:N≤c4:=by have:=HKN.out;omega
           clear hO4 hF4 hg4 hcc)
        | (refine app_gen rfl _ _ 33 rfl 34 (.slice none 0 0) 1 24 Tryz.underlying33 inf35 rfl (by decide) base _ S.length (S.map Prod.fst) rfl (HX4.out.grown ((Grown.refl _).alloc _)).s w4.heap.size _ [.slice (some ⟨g4,0,none⟩) (k+1) c4] rfl rfl 34 (heap_alloc_new _ _) (by intro u hu;simp at hu;subst hu;rfl) (by omega) (by omega) (by have:=HBW.out;have:=HFR.out.size;have:=HF4.out.size;simp;omega) ?_
           intro g5 c5 w5 hO5 hF5 hg5
           have HO5:Hid (w5.ownsRow base 34 1 (.slice (some ⟨g5,0,none⟩) (S.length+1) c5) (S.length+1) (S.map Prod.fst++[.slice (some ⟨g4,0,none⟩) (k+1) c4])):=hO5
           have HF5:Hid (Fr w4 w5 fun j=>sv.ownBlock=some j):=(fr_grown ((Grown.refl w4).alloc _) _).trans hF5 fun _ _ e=>e
           have HG5:Hid (sv.ownBlock=some g5∨w4.heap.size≤g5):=hg5.elim .inl fun e => .inr (by rw [e];exact ((Grown.refl w4).alloc _).size)
           have HX5:Hid (w5.heap[xb]? = some (.cells #[pv,rv,sv,gv1,cv] 37 (0,0))):=(HF5.out.block xb (blk_lt HX4.out.x) (HX4.out.x_ne HX4.out.s (by decide))).trans HX4.out.x
           have e5:w5.cell? ⟨xb,2,none⟩=some sv:=by rw [cell_of HX5.out];rfl
           have f5:w5.frozen? ⟨xb,2,none⟩=false:=free_of HX5.out
           clear hO5 hF5 hg5))))
    go_ret
    have hk1:k+1=its.length+1:=by rw [HIL.out.1]
    have hO4:=HO4.out
    rw [hk1] at hO4
    have hnb4:¬ Bs xb rv sv gv1 cv (G++its) S C g4:=fun hb=>by
     rcases HG4.out with e | e
     · rw [←e] at hb;exact HOB.out.2.2 hb
     · have:=(HLX.out.lt hb).2;omega
    obtain ⟨hp1,hp2,hp3⟩:=HX4.out.pushS (sv' := .slice (some ⟨g5,0,none⟩) (S.length+1) c5) hO4 ⟨_,_,rfl⟩ (fun y hy=>List.mem_append_right _ hy) (fun b e hb=>by injection e with e;have e:g4=b:=e;subst e;exact hnb4 hb) HF5.out (by rw [←hk1];exact HO5.out) (HG5.out.elim (fun e => .inl e.symm) fun e => .inr ⟨g5,rfl,e⟩)
    refine ⟨.slice (some ⟨g4,0,none⟩) (its.length+1) c4,gv1,.slice (some ⟨g5,0,none⟩) (S.length+1) c5,its,by rw [HIM.out.1];rfl,HIM.out.2,hp1,?_,fun b hb => ?_⟩
    · refine (HFR.out.trans HF4.out fun i hi e => ?_).trans hp2 fun i hi e=>(HGR.out i e).resolve_right (by omega)
      have e:ob=i:=e
      have:=HOB.out.1
      omega
    · rcases hp3 b hb with h | h | h
      · exact HGR.out b h
      · exact .inr (by have:=HFR.out.size;have:=HF4.out.size;omega)
      · injection h with h
        have h:g4=b:=h
        rcases HG4.out with e | e
        · exact .inr (by have:=HOB.out.1;omega)
        · exact .inr (by have:=HFR.out.size;omega)
end Go.Proofs
