/-
  Lays: what a rule writes where a key stands.
-/
import Derived.RangeFuncNested
import Derived.RangeFuncBound
import Derived.RangeFuncCalls
import Derived.RangeFuncLeaves
import Derived.Shelf.Abstract
import Derived.Shelf.RegionOpen
import Derived.WalkKit
import Derived.WalkSpells
import Derived.WalkLawsBesides
import Derived.OwnWalkIn
import Derived.TacticsInMore
import Derived.LoopNIn
import Derived.LoopIn
import Derived.BigQuiet
import Derived.RegionIn
import Derived.Deep.QuietTactic
import Derived.Deep.RegionWith
import Derived.Deep.LoopGhost
import Derived.Lib.OthersKept
import Derived.Maps.AppendAt
import Derived.Lib.SmallJoins
import Derived.Laws.CopyOwn
import Derived.Laws.MakeOwn
import Derived.Test.YtcfcjljapamcoabGreatDoorMpqr
import Derived.Test.YtcfcjljapamcoabGreatDoorWxr
namespace Go.Proofs
open Go.RowKit Go.Shelf
set_option maxRecDepth 100000
attribute [local go_sem] Oper.semAt_some
set_option maxHeartbeats 4000000 in
theorem lays_no (r:Rl) (av kv pv rv uv:Value) (us:List Int) (w:World) (hT:Tab w) (h:RR w av kv pv rv r) (hu:IR w uv us) (hb:layB r us=false) :
 Calls Tryz.prog 95 #[.agg #[.bool r.bg,av,kv,pv,.bool r.en,rv,.int .i64 r.cu],uv] w fun e w'=>e = .returned (.tuple #[.slice none 0 0,.slice none 0 0])∧Grown w w':=by
 have HC:Hid (∀ W,Grown w W→Calls Tryz.prog 98 #[.agg #[.bool r.bg,av,kv,pv,.bool r.en,rv,.int .i64 r.cu]] W fun e w'=>e = .returned (.int .i64 (chk r))∧Grown W w'):=fun W hW=>check_any r av kv pv rv W (hT.grown hW) (h.grown hW)
 have HS:Hid (r.key.length≤1000000→∀ W,Grown w W→Calls Tryz.prog 115 #[uv,kv] W fun e w'=>e = .returned (.bool (stB r.key us))∧Grown W w'):=fun hn W hW=>stands_any kv uv r.key us W (hT.grown hW) (h.k.grown hW) (hu.grown hW) hn
 obtain ⟨aa,an,ac,rfl⟩:=h.a.sl
 obtain ⟨ka,kn,kc,rfl⟩:=h.k.sl
 obtain ⟨pa,pn,pc,rfl⟩:=h.p.sl
 obtain ⟨ra,rn,rc,rfl⟩:=h.r.sl
 clear h hu hT
 by_cases h1:chk r=0
 · have hst:stB r.key us=false:=by simpa [layB,h1] using hb
   have hk8:=(chk_ok h1).k8
   have HS2:=HS.out (by omega)
   rw [hst] at HS2
   rw [h1] at HC
   obtain ⟨bg,en,cu,ante,key,post,res⟩:=r
   simp only at HC HS2 ⊢
   have HSS:Hid (∀ W,Grown w W→Calls Tryz.prog 115 #[uv,.slice ka kn kc] W fun e w'=>e = .returned (.bool false)∧Grown W w'):=HS2
   clear HS HS2 hst h1 hb hk8
   go_enter Tryz.func95,Tryz.ntmps95
   go_wp2_with fail
   refine (HC.out _ ((Grown.refl _).alloc _)).mono ?_
   rintro e w1 ⟨rfl,hb1⟩
   have c2:=hb1.cellv (a:=⟨w.heap.size,2,none⟩) (v := .slice ka kn kc) (by simp)
   go_wp2_with fail
   refine (HSS.out _ (((Grown.refl _).alloc _).trans hb1)).mono ?_
   rintro e w2 ⟨rfl,hb2⟩
   go_wp2
   go_ret2
   exact ⟨rfl,(((Grown.refl _).alloc _).trans hb1).trans hb2⟩
 · have h1':(chk r != 0)=true:=by simpa using h1
   generalize chk r=q at HC h1'
   obtain ⟨bg,en,cu,ante,key,post,res⟩:=r
   simp only at HC ⊢
   clear HS h1 hb
   go_enter Tryz.func95,Tryz.ntmps95
   go_wp2_with fail
   refine (HC.out _ ((Grown.refl _).alloc _)).mono ?_
   rintro e w1 ⟨rfl,hb1⟩
   go_wp2
   go_ret2
   exact ⟨rfl,((Grown.refl _).alloc _).trans hb1⟩
def LI (b cn k:Nat) (sv:Value) (Z1 Z2:List Value) (B:Nat):Nat→(Nat→Value)→World→Prop
 | 0,vs,_=>vs 0 = .pointer (some ⟨b,6,none⟩)
 | 1,vs,_=>vs 1 = .int .i64 cn
 | 2,vs,w=>∃ g,vs 2 = .slice (some ⟨g,0,none⟩) cn cn∧B≤g∧w.heap[g]? = some (.cells Z1.toArray 3 (0,0))
 | 3,vs,_=>vs 3=sv
 | 4,vs,_=>vs 4 = .int .i64 k
 | 5,vs,_=>vs 5 = .pointer (some ⟨b,6,none⟩)
 | 6,vs,_=>vs 6 = .int .i64 cn
 | 7,vs,_=>vs 7 = .int .i64 ((k - cn:Nat):Int)
 | 8,vs,w=>∃ g,vs 8 = .slice (some ⟨g,0,none⟩) (k - cn) (k - cn)∧B≤g∧w.heap[g]? = some (.cells Z2.toArray 3 (0,0))
 | 9,vs,_=>vs 9=vs 2
 | 10,vs,_=>vs 10=vs 8
 | _,_,_=>True
theorem LI.ext {b cn k:Nat} {sv:Value} {Z1 Z2:List Value} {B:Nat} (i:Nat) (vs:Nat→Value) (w w':World) (h:LI b cn k sv Z1 Z2 B i vs w) (he:Ext w w'):LI b cn k sv Z1 Z2 B i vs w':=by
 have hk:∀ g o,w.heap[g]? = some o→w'.heap[g]? = some o:=fun g o ho=>(he.block g (Array.getElem?_eq_some_iff.1 ho).1).trans ho
 match i,h with
 | 0,h=>exact h
 | 1,h=>exact h
 | 2,⟨g,h1,h2,h3⟩=>exact ⟨g,h1,h2,hk g _ h3⟩
 | 3,h=>exact h
 | 4,h=>exact h
 | 5,h=>exact h
 | 6,h=>exact h
 | 7,h=>exact h
 | 8,⟨g,h1,h2,h3⟩=>exact ⟨g,h1,h2,hk g _ h3⟩
 | 9,h=>exact h
 | 10,h=>exact h
 | _+11,_=>trivial
set_option maxHeartbeats 8000000 in
theorem lays_walk (r:Rl) (av kv pv rv uv:Value) (us:List Int) (w:World) (hT:Tab w) (h:RR w av kv pv rv r) (hu:IR w uv us) (hb:layB r us=true) :
 Calls Tryz.prog 95 #[.agg #[.bool r.bg,av,kv,pv,.bool r.en,rv,.int .i64 r.cu],uv] w fun e w'=>∃ v1 v2,e = .returned (.tuple #[v1,v2])∧NewI w' w.heap.size v1 ((outs r us).take r.cu.toNat)∧NewI w' w.heap.size v2 ((outs r us).drop r.cu.toNat)∧blkOf v1≠blkOf v2∧Below w.heap.size w w':=by
 simp only [layB,Bool.and_eq_true,decide_eq_true_eq] at hb
 have hok:=chk_ok hb.1
 have HC:Hid (∀ W,Grown w W→Calls Tryz.prog 98 #[.agg #[.bool r.bg,av,kv,pv,.bool r.en,rv,.int .i64 r.cu]] W fun e w'=>e = .returned (.int .i64 0)∧Grown W w'):=fun W hW=>by have:=check_any r av kv pv rv W (hT.grown hW) (h.grown hW);rwa [hb.1] at this
 have HS:Hid (∀ W,Grown w W→Calls Tryz.prog 115 #[uv,kv] W fun e w'=>e = .returned (.bool true)∧Grown W w'):=fun W hW=>by have:=stands_any kv uv r.key us W (hT.grown hW) (h.k.grown hW) (hu.grown hW) (by have:=hok.k8;omega);rwa [hb.2] at this
 have HW:Hid (∀ W,Below w.heap.size w W→∀ p∈r.res,∀ tv,Rs W tv p.tl→Calls Tryz.prog 116 #[.agg #[.int .i64 p.k,.int .i64 p.u,.int .i64 p.y,tv],kv,uv] W fun e w'=>e = .returned (.int .i64 (wrt r.key us p))∧Grown W w'):=fun W hW p hp tv ht=>
  written_any p tv kv uv r.key us W (hT.below hW hT.pos) (h.k.below hW (Nat.le_refl _)) (hu.below hW (Nat.le_refl _)) ht (fun hk=>by
   have:=st_len hb.2
   rcases pc_ok (hok.pc p hp) with h1 | h1 | h1
   · omega
   · exact ⟨h1.2.2.2.1,h1.2.2.2.2,by omega⟩
   · exact ⟨h1.2.2.1,h1.2.2.2.1,by omega⟩)
 have HR:Hid (∀ W,Below w.heap.size w W→PR W rv r.res):=fun W hW=>h.r.below hW (Nat.le_refl _)
 obtain ⟨aa,an,ac,rfl⟩:=h.a.sl
 obtain ⟨ka,kn,kc,rfl⟩:=h.k.sl
 obtain ⟨pa,pn,pc,rfl⟩:=h.p.sl
 obtain ⟨ua,un,uc,rfl⟩:=hu.sl
 obtain ⟨ra,rc,rfl,_,_⟩:=h.r
 obtain ⟨rn,hrn⟩:∃ rn,r.res.length=rn:=⟨_,rfl⟩
 rw [hrn] at HC HR ⊢
 have HN:Hid (r.res.length=rn):=hrn
 have hr16:rn≤16:=by rw [←hrn];exact hok.r16
 obtain ⟨cn,hcn⟩:∃ cn:Nat,r.cu=(cn:Int):=⟨r.cu.toNat,by have:=hok.c0;omega⟩
 have hcr:cn≤rn:=by have:=hok.c1;omega
 rw [hcn] at HC ⊢
 have HO:Hid (∀ k (hk:k<r.res.length),(outs r us).take (k+1)=(outs r us).take k++[wrt r.key us r.res[k]]):=fun k hk=>outs_succ hk
 have HL:Hid ((outs r us).length=rn):=by show _=_;rw [←hrn];simp [outs]
 rw [show ((cn:Int)).toNat=cn by omega]
 generalize outs r us=O at HO HL
 generalize hwk:wrt r.key us=wk at HO HW
 obtain ⟨bg,en,cu,ante,key,post,res⟩:=r
 simp only at HC HR HW HO HN ⊢
 clear h hu hok hb hrn hcn hwk
 have hT0:Hid (Tab w):=hT
 clear hT
 go_enter Tryz.func95,Tryz.ntmps95
 go_wp2_with fail
 refine (HC.out _ ((Grown.refl _).alloc _)).mono ?_
 rintro e w1 ⟨rfl,hb1⟩
 have hg1:=((Grown.refl w).alloc (rcells bg (.slice aa an ac) (.slice ka kn kc) (.slice pa pn pc) en (.slice ra rn rc) (cn:Int))).trans hb1
 have c2:=hb1.cellv (a:=⟨w.heap.size,2,none⟩) (v := .slice ka kn kc) (by simp)
 have c5:=hb1.cellv (a:=⟨w.heap.size,5,none⟩) (v := .slice ra rn rc) (by simp)
 have c6:=hb1.cellv (a:=⟨w.heap.size,6,none⟩) (v := .int .i64 (cn:Int)) (by simp)
 clear hb1
 go_wp2_with fail
 refine (HS.out _ hg1).mono ?_
 rintro e w2 ⟨rfl,hb2⟩
 have d2:=hb2.cellv c2
 have d5:=hb2.cellv c5
 have d6:=hb2.cellv c6
 have hg2:=hg1.trans hb2
 have HG2:Hid (Below w.heap.size w w2):=hg2.below
 clear c2 c5 c6 hg1 hb2 hg2 HC HS
 go_wp2
 go_loopw [6,22] (fun sa vi wr=>∃ (va:Value) (kk:Nat),va=sa∧vi = .int .i64 kk∧kk≤rn∧Hid (OwnI wr w2.heap.size va (O.take kk)∧Below w2.heap.size w2 wr)) (fun _ vi _=>rn - (intOf vi).toNat)
 case atStart=>exact ⟨_,0,rfl,rfl,Nat.zero_le _,OwnI.nil _ _,Below.refl _ _⟩
 case round=>
  obtain ⟨va,k,rfl,rfl,hk,HG⟩:=hrel
  have hkI:(0:Int)≤(k:Int):=by omega
  have hkI2:(k:Int)≤16:=by omega
  have e2:=cell_below d2 HG.out.2 (Nat.le_refl _)
  have e5:=cell_below d5 HG.out.2 (Nat.le_refl _)
  have e6:=cell_below d6 HG.out.2 (Nat.le_refl _)
  by_cases hlt:k<rn
  · have hlt':(k:Int)<(rn:Int):=by omega
    have hkl:k<res.length:=by rw [HN.out];exact hlt
    have HBw:Below w.heap.size w wr:=HG2.out.trans (HG.out.2.mono HG2.out.size)
    obtain ⟨ra',rc',hre,_,hP⟩:=HR.out wr HBw
    obtain ⟨g,o,hra,hP2⟩:=hP.resolve_left (fun e=>by rw [e] at hkl;simp at hkl)
    cases hre
    subst hra
    obtain ⟨tv,p0,p1,p2,p3,hRs⟩:=hP2 k hkl
    have HCC:Hid (∀ W,Grown wr W→Calls Tryz.prog 116 #[.agg #[.int .i64 res[k].k,.int .i64 res[k].u,.int .i64 res[k].y,tv],.slice ka kn kc,.slice ua un uc] W fun e w'=>e = .returned (.int .i64 (wk res[k]))∧Grown W w'):=fun W hW=>HW.out W (HBw.trans (hW.below.mono HBw.size)) res[k] (List.getElem_mem hkl) tv (hRs.grown hW)
    have HOO:Hid (O.take (k+1)=O.take k++[wk res[k]]):=HO.out k hkl
    obtain ⟨ta,tn,tc,rfl⟩:=hRs.sl
    generalize wk res[k]=q at HCC HOO
    generalize res[k].k=xk at HCC p0
    generalize res[k].u=xu at HCC p1
    generalize res[k].y=xy at HCC p2
    have e2':=fun o=>cell_up e2 o
    have hOl:(O.take k).length+1≤8796093022208:=by rw [List.length_take];omega
    clear hRs hP hP2 HBw
    go_wp2_with fail
    refine (HCC.out _ ((Grown.refl _).alloc _)).mono ?_
    rintro e w4 ⟨rfl,hb4⟩
    have HB4:=((Grown.refl wr).alloc (.cells #[.int .i64 xk,.int .i64 xu,.int .i64 xy,.slice ta tn tc] 58)).trans hb4
    have HP2:Hid (∀ ob,OwnI (w4.alloc ob) w2.heap.size va (O.take k)∧w2.heap.size≤(w4.alloc ob).heap.size∧Below w2.heap.size w2 (w4.alloc ob)):=fun ob=>by
     have hb5:Below wr.heap.size wr (w4.alloc ob):=(HB4.alloc ob).below
     exact ⟨HG.out.1.below hb5 (Nat.le_refl _),Nat.le_trans HG.out.2.size hb5.size,HG.out.2.trans (hb5.mono HG.out.2.size)⟩
    clear hb4 HB4
    go_wp2_with (at_builtin;go_must (refine push_I rfl _ _ 25 rfl Tryz.underlying25 w2.heap.size _ (O.take k) rfl (HP2.out _).1 _ _ q rfl (by simp) hOl (HP2.out _).2.1 ?_;intro v3 w3 hO3 hB3))
    go_roundw
    case rel=>
     refine ⟨_,k+1,rfl,by simp,hlt,?_,(HP2.out _).2.2.trans hB3⟩
     rw [HOO.out]
     exact hO3
    case measure=>simp [intOf];omega
  · have hge:¬ (k:Int)<(rn:Int):=by omega
    obtain rfl:k=rn:=by omega
    have HOw:Hid (OwnI wr w2.heap.size va O):=by have:=HG.out.1;rwa [List.take_of_length_le (by rw [HL.out];omega)] at this
    have HBw:Hid (Below w2.heap.size w2 wr):=HG.out.2
    obtain ⟨sa,sc,rfl,_,_⟩:=HOw.out.ir
    rw [HL.out] at HOw ⊢
    clear HG HW HO HR hT0
    obtain ⟨Z1,hZ1,hmk1⟩:=make_ints cn (by omega)
    obtain ⟨Z2,hZ2,hmk2⟩:=make_ints (k - cn) (by omega)
    have hck:(k:Int) - (cn:Int)=((k - cn:Nat):Int):=by omega
    have hwr:IntKind.i64.wrap ((k:Int) - (cn:Int))=((k - cn:Nat):Int):=by rw [IntKind.wrap_i64];omega
    have hwr2:IntKind.i64.wrap (((k - cn:Nat)):Int)=((k - cn:Nat):Int):=by rw [IntKind.wrap_i64];omega
    go_wp2_with fail
    rename_i Kx hx
    refine wp_region_fresh (by kernel_rfl) (by kernel_rfl) (by kernel_rfl) (by kernel_rfl) (LI w.heap.size cn k (.slice sa k sc) Z1 Z2 wr.heap.size) (fun i=>i == 2 || i == 8) (fun i vs wa wb h he=>LI.ext i vs wa wb h he) ?_ ⟨?_,?_,?_,?_,?_,?_,?_,?_,?_,?_,?_,trivial⟩ ?_
    · as_aux_lemma=>
       clear hx
       intro i o vs us wz ho hj hI
       match i,ho,hI with
       | 0,_,h=>show us 0=_;rw [hj 0 (.inl rfl)];exact h
       | 1,_,h=>show us 1=_;rw [hj 1 (.inl rfl)];exact h
       | 2,_,⟨g,h1,h2⟩=>exact ⟨g,by rw [hj 2 (.inl rfl)];exact h1,h2⟩
       | 3,_,h=>show us 3=_;rw [hj 3 (.inl rfl)];exact h
       | 4,_,h=>show us 4=_;rw [hj 4 (.inl rfl)];exact h
       | 5,_,h=>show us 5=_;rw [hj 5 (.inl rfl)];exact h
       | 6,_,h=>show us 6=_;rw [hj 6 (.inl rfl)];exact h
       | 7,_,h=>show us 7=_;rw [hj 7 (.inl rfl)];exact h
       | 8,_,⟨g,h1,h2⟩=>exact ⟨g,by rw [hj 8 (.inl rfl)];exact h1,h2⟩
       | 9,ho,h=>
        injection ho with ho
        subst ho
        show us 9=us 2
        rw [hj 9 (.inl rfl),hj 2 (.inr (by kernel_rfl))];exact h
       | 10,ho,h=>
        injection ho with ho
        subst ho
        show us 10=us 8
        rw [hj 10 (.inl rfl),hj 8 (.inr (by kernel_rfl))];exact h
       | _+11,_,_=>trivial
    · as_aux_lemma=>
       clear hx
       intro a wx vs hE hd hval hfr K hK
       have d:a.tmps.getD 2 undef = .pointer (some ⟨w.heap.size,0,none⟩):=hfr 2 (by kernel_rfl)
       exact step_value (v := .pointer (some ⟨w.heap.size,6,none⟩)) (w':=wx) rfl (fun _ _ h=>by cases h) (rho [(2,.pointer (some ⟨w.heap.size,0,none⟩))]) (rho_of (by intro q hm;simp only [List.mem_cons,List.not_mem_nil,or_false] at hm;rcases hm with rfl;exact d) (by kernel_rfl)) (by kernel_rfl) (hK _ _ (Below.refl _ _) rfl (fun h=>by cases h))
    · as_aux_lemma=>
       clear hx
       intro a wx vs hE hd hval hfr K hK
       have d:a.tmps.getD 35 undef = .pointer (some ⟨w.heap.size,6,none⟩):=(hval 0 _ 35 (by kernel_rfl) (by rfl) rfl).trans (hd 0 (by kernel_rfl))
       have hc:=cell_below e6 hE (Nat.le_refl _)
       simp only [Array.getD_eq_getD_getElem?] at d
       have hK1:=hK (.int .i64 (cn:Int)) wx (Below.refl _ _) rfl (fun h=>by cases h)
       clear hval hfr hd hE hK
       go_simp
       exact hK1
    · as_aux_lemma=>
       clear hx
       intro a wx vs hE hd hval hfr K hK
       have d:a.tmps.getD 36 undef = .int .i64 (cn:Int):=(hval 1 _ 36 (by kernel_rfl) (by rfl) rfl).trans (hd 1 (by kernel_rfl))
       simp only [Array.getD_eq_getD_getElem?] at d
       have hK1:=hK (.slice (some ⟨wx.heap.size,0,none⟩) cn cn) (wx.alloc (.cells Z1.toArray 3)) ((Below.refl _ wx).alloc (Nat.le_refl _) _) ⟨wx.heap.size,rfl,hE.size,heap_alloc_new wx _⟩ (fun _=>⟨Nat.le_refl _,by rw [World.size_alloc];exact Nat.lt_succ_self _⟩)
       have hm:=hmk1 wx
       clear hval hfr hd hE hK
       go_simp
       exact hK1
    · as_aux_lemma=>
       clear hx
       intro a wx vs hE hd hval hfr K hK
       have d:a.tmps.getD 6 undef = .slice sa k sc:=hfr 6 (by kernel_rfl)
       exact step_value (v := .slice sa k sc) (w':=wx) rfl (fun _ _ h=>by cases h) (rho [(6,.slice sa k sc)]) (rho_of (by intro q hm;simp only [List.mem_cons,List.not_mem_nil,or_false] at hm;rcases hm with rfl;exact d) (by kernel_rfl)) (by kernel_rfl) (hK _ _ (Below.refl _ _) rfl (fun h=>by cases h))
    · as_aux_lemma=>
       clear hx
       intro a wx vs hE hd hval hfr K hK
       have d:a.tmps.getD 38 undef = .slice sa k sc:=(hval 3 _ 38 (by kernel_rfl) (by rfl) rfl).trans (hd 3 (by kernel_rfl))
       exact step_value (v := .int .i64 (k:Int)) (w':=wx) rfl (fun _ _ h=>by cases h) (rho [(38,.slice sa k sc)]) (rho_of (by intro q hm;simp only [List.mem_cons,List.not_mem_nil,or_false] at hm;rcases hm with rfl;exact d) (by kernel_rfl)) (by kernel_rfl) (hK _ _ (Below.refl _ _) rfl (fun h=>by cases h))
    · as_aux_lemma=>
       clear hx
       intro a wx vs hE hd hval hfr K hK
       have d:a.tmps.getD 2 undef = .pointer (some ⟨w.heap.size,0,none⟩):=hfr 2 (by kernel_rfl)
       exact step_value (v := .pointer (some ⟨w.heap.size,6,none⟩)) (w':=wx) rfl (fun _ _ h=>by cases h) (rho [(2,.pointer (some ⟨w.heap.size,0,none⟩))]) (rho_of (by intro q hm;simp only [List.mem_cons,List.not_mem_nil,or_false] at hm;rcases hm with rfl;exact d) (by kernel_rfl)) (by kernel_rfl) (hK _ _ (Below.refl _ _) rfl (fun h=>by cases h))
    · as_aux_lemma=>
       clear hx
       intro a wx vs hE hd hval hfr K hK
       have d:a.tmps.getD 40 undef = .pointer (some ⟨w.heap.size,6,none⟩):=(hval 5 _ 40 (by kernel_rfl) (by rfl) rfl).trans (hd 5 (by kernel_rfl))
       have hc:=cell_below e6 hE (Nat.le_refl _)
       simp only [Array.getD_eq_getD_getElem?] at d
       have hK1:=hK (.int .i64 (cn:Int)) wx (Below.refl _ _) rfl (fun h=>by cases h)
       clear hval hfr hd hE hK
       go_simp
       exact hK1
    · as_aux_lemma=>
       clear hx
       intro a wx vs hE hd hval hfr K hK
       have d1:a.tmps.getD 39 undef = .int .i64 (k:Int):=(hval 4 _ 39 (by kernel_rfl) (by rfl) rfl).trans (hd 4 (by kernel_rfl))
       have d2:a.tmps.getD 41 undef = .int .i64 (cn:Int):=(hval 6 _ 41 (by kernel_rfl) (by rfl) rfl).trans (hd 6 (by kernel_rfl))
       simp only [Array.getD_eq_getD_getElem?] at d1 d2
       have hK1:=hK (.int .i64 ((k - cn:Nat):Int)) wx (Below.refl _ _) rfl (fun h=>by cases h)
       clear hval hfr hd hE hK
       go_simp
       first | exact hK1 | (rw [←hck] at hK1;exact hK1)
    · as_aux_lemma=>
       clear hx
       intro a wx vs hE hd hval hfr K hK
       have d:a.tmps.getD 42 undef = .int .i64 ((k - cn:Nat):Int):=(hval 7 _ 42 (by kernel_rfl) (by rfl) rfl).trans (hd 7 (by kernel_rfl))
       simp only [Array.getD_eq_getD_getElem?] at d
       have hK1:=hK (.slice (some ⟨wx.heap.size,0,none⟩) (k - cn) (k - cn)) (wx.alloc (.cells Z2.toArray 3)) ((Below.refl _ wx).alloc (Nat.le_refl _) _) ⟨wx.heap.size,rfl,hE.size,heap_alloc_new wx _⟩ (fun _=>⟨Nat.le_refl _,by rw [World.size_alloc];exact Nat.lt_succ_self _⟩)
       have hm:=hmk2 wx
       clear hval hfr hd hE hK
       generalize k - cn=dn at *
       go_simp
       exact hK1
    · as_aux_lemma=>
       clear hx
       intro a wx vs hE hd hval hfr K hK
       have d:a.tmps.getD 37 undef=vs 2:=hval 2 _ 37 (by kernel_rfl) (by rfl) rfl
       exact step_value (v:=vs 2) (w':=wx) rfl (fun _ _ h=>by cases h) (rho [(37,vs 2)]) (rho_of (by intro q hm;simp only [List.mem_cons,List.not_mem_nil,or_false] at hm;rcases hm with rfl;exact d) (by kernel_rfl)) (by kernel_rfl) (hK _ _ (Below.refl _ _) rfl (fun h=>by cases h))
    · as_aux_lemma=>
       clear hx
       intro a wx vs hE hd hval hfr K hK
       have d:a.tmps.getD 43 undef=vs 8:=hval 8 _ 43 (by kernel_rfl) (by rfl) rfl
       exact step_value (v:=vs 8) (w':=wx) rfl (fun _ _ h=>by cases h) (rho [(43,vs 8)]) (rho_of (by intro q hm;simp only [List.mem_cons,List.not_mem_nil,or_false] at hm;rcases hm with rfl;exact d) (by kernel_rfl)) (by kernel_rfl) (hK _ _ (Below.refl _ _) rfl (fun h=>by cases h))
    · intro vs wz hE hI hap
      obtain ⟨g1,h2,hg1,hz1⟩:=hI 2 (by decide)
      obtain ⟨g2,h8,hg2,hz2⟩:=hI 8 (by decide)
      have h9:vs 9=vs 2:=hI 9 (by decide)
      have h10:vs 10=vs 8:=hI 10 (by decide)
      have hne:g2≠g1:=by
       have:=hap 2 8 (by decide) (by decide) (by decide) rfl rfl
       rw [h2,h8] at this
       exact fun e=>this e.symm
      rw [h2] at h9
      rw [h8] at h10
      have h0:vs 0 = .pointer (some ⟨w.heap.size,6,none⟩):=hI 0 (by decide)
      have h1:vs 1 = .int .i64 (cn:Int):=hI 1 (by decide)
      have h3:vs 3 = .slice sa k sc:=hI 3 (by decide)
      have h4:vs 4 = .int .i64 (k:Int):=hI 4 (by decide)
      have h5:vs 5 = .pointer (some ⟨w.heap.size,6,none⟩):=hI 5 (by decide)
      have h6:vs 6 = .int .i64 (cn:Int):=hI 6 (by decide)
      have h7:vs 7 = .int .i64 ((k - cn:Nat):Int):=hI 7 (by decide)
      have e6w:=e6
      have e6:=cell_below e6 hE (Nat.le_refl _)
      have HIR:Hid (IR wz (.slice sa k sc) O):=by
       have:=HOw.out.ir
       exact this.below hE (Nat.le_refl _)
      obtain ⟨w5,hcp1,hr1,hb5,hk5⟩:=copy_ints wz g1 cn k sc sa Z1 O hz1 hZ1 HIR.out hcr wr.heap.size hg1
      have hz2':=(hk5 g2 hne).trans hz2
      have hE5:Below wr.heap.size wr w5:=Below.trans hE hb5
      have f6:=cell_below e6w hE5 (Nat.le_refl _)
      have HI5:Hid (IR w5 (.slice sa k sc) O):=by
       have:=HOw.out.ir
       exact this.below hE5 (Nat.le_refl _)
      have hOl:O.length=k:=HL.out
      have HT1:Hid ((O.take cn).length=cn):=by show _=_;rw [List.length_take];omega
      have HT2:Hid ((O.drop cn).length=k - cn):=by show _=_;rw [List.length_drop];omega
      have HW5:Hid (Below w.heap.size w w5):=HG2.out.trans ((HBw.out.trans (hE5.mono HBw.out.size)).mono HG2.out.size)
      have HWs:Hid (w.heap.size≤wr.heap.size):=Nat.le_trans HG2.out.size HBw.out.size
      have hscn:k≤sc:=by obtain ⟨_,_,e,h,_⟩:=HI5.out;cases e;omega
      have hckI:(cn:Int)≤(k:Int):=by omega
      have hcnI:(0:Int)≤(cn:Int):=by omega
      by_cases hsc:cn=sc
      · obtain rfl:cn=k:=by omega
        subst hsc
        have hk0:cn - cn=0:=Nat.sub_self _
        obtain ⟨w6,hcp2,hr2,hb6,hk6⟩:=copy_ints w5 g2 (cn - cn) 0 0 sa Z2 [] hz2' hZ2 ⟨sa,0,rfl,Nat.le_refl _,.inl rfl⟩ (by omega) wr.heap.size hg2
        have HN1:Hid (NewI w6 w.heap.size (.slice (some ⟨g1,0,none⟩) cn cn) (O.take cn)):=⟨g1,by rw [HT1.out],Nat.le_trans HWs.out hg1,(hk6 g1 (fun e=>hne e.symm)).trans hr1⟩
        have HN2:Hid (NewI w6 w.heap.size (.slice (some ⟨g2,0,none⟩) (cn - cn) (cn - cn)) (O.drop cn)):=⟨g2,by rw [HT2.out],Nat.le_trans HWs.out hg2,by rw [hr2,List.drop_eq_nil_of_le (by omega)];simp [ints]⟩
        have HB6:Hid (Below w.heap.size w w6):=HW5.out.trans (hb6.mono HWs.out)
        rw [putL_eq]
        simp only [putsL,List.set_cons_zero,List.set_cons_succ]
        rw [h0,h1,h2,h3,h4,h5,h6,h7,h8,h9,h10]
        refine hx _ _ ?_
        clear hx hI hap h0 h1 h2 h3 h4 h5 h6 h7 h8 h9 h10 hmk1 hmk2 hck hwr hwr2 hr1 hr2 hb5 hb6 hk5 hk6 hz1 hz2 hz2' hE hE5 HIR HI5 HW5 hOl hg1 hg2 hscn hcr hr16 hkI2 hlt
        rw [hk0] at *
        go_wp2
        go_ret2
        exact ⟨_,_,rfl,HN1.out,HN2.out,fun e=>hne e.symm,HB6.out⟩
      · have hIRd:=HI5.out.drop (cn:=cn) hOl hcr
        obtain ⟨w6,hcp2,hr2,hb6,hk6⟩:=copy_ints w5 g2 (k - cn) (k - cn) (sc - cn) (sa.map fun x=>x.add cn) Z2 (O.drop cn) hz2' hZ2 hIRd (Nat.le_refl _) wr.heap.size hg2
        have HN1:Hid (NewI w6 w.heap.size (.slice (some ⟨g1,0,none⟩) cn cn) (O.take cn)):=⟨g1,by rw [HT1.out],Nat.le_trans HWs.out hg1,(hk6 g1 (fun e=>hne e.symm)).trans hr1⟩
        have HN2:Hid (NewI w6 w.heap.size (.slice (some ⟨g2,0,none⟩) (k - cn) (k - cn)) (O.drop cn)):=⟨g2,by rw [HT2.out],Nat.le_trans HWs.out hg2,by rw [hr2,List.take_of_length_le (by rw [HT2.out];exact Nat.le_refl _)]⟩
        have HB6:Hid (Below w.heap.size w w6):=HW5.out.trans (hb6.mono HWs.out)
        rw [putL_eq]
        simp only [putsL,List.set_cons_zero,List.set_cons_succ]
        rw [h0,h1,h2,h3,h4,h5,h6,h7,h8,h9,h10]
        refine hx _ _ ?_
        have hscI:((cn:Int) == (sc:Int))=false:=by simp;omega
        clear hx hI hap h0 h1 h2 h3 h4 h5 h6 h7 h8 h9 h10 hmk1 hmk2 hck hwr hwr2 hr1 hr2 hb5 hb6 hk5 hk6 hz1 hz2 hz2' hE hE5 HIR HI5 HW5 hOl hg1 hg2 hcr hr16 hkI2 hlt hIRd
        go_wp2
        go_ret2
        exact ⟨_,_,rfl,HN1.out,HN2.out,fun e=>hne e.symm,HB6.out⟩
def LaysO (w':World) (base:Nat) (r:Rl) (us:List Int) (v1 v2:Value):Prop:=
 (layB r us=false∧v1 = .slice none 0 0∧v2 = .slice none 0 0)∨(layB r us=true∧NewI w' base v1 ((outs r us).take r.cu.toNat)∧NewI w' base v2 ((outs r us).drop r.cu.toNat)∧blkOf v1≠blkOf v2)
theorem lays_any (r:Rl) (av kv pv rv uv:Value) (us:List Int) (w:World) (hT:Tab w) (h:RR w av kv pv rv r) (hu:IR w uv us) :
 Calls Tryz.prog 95 #[.agg #[.bool r.bg,av,kv,pv,.bool r.en,rv,.int .i64 r.cu],uv] w fun e w'=>∃ v1 v2,e = .returned (.tuple #[v1,v2])∧LaysO w' w.heap.size r us v1 v2∧Below w.heap.size w w':=by
 by_cases hb:layB r us=true
 · refine (lays_walk r av kv pv rv uv us w hT h hu hb).mono ?_
   rintro e w' ⟨v1,v2,rfl,h1,h2,h3,h4⟩
   exact ⟨v1,v2,rfl,.inr ⟨hb,h1,h2,h3⟩,h4⟩
 · have hb':layB r us=false:=by simpa using hb
   refine (lays_no r av kv pv rv uv us w hT h hu hb').mono ?_
   rintro e w' ⟨rfl,h1⟩
   exact ⟨_,_,rfl,.inl ⟨hb',rfl,rfl⟩,h1.below⟩
end Go.Proofs
