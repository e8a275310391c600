/-
  meet 139: whether two rows that rise have a unit in common.
-/
import Derived.Deep.DeepCutAuto
import Derived.Test.YtcfcjljapamcoabGreatDoorYer
namespace Go.Proofs
open Go.RowKit Go.Shelf
set_option maxRecDepth 100000
attribute [local go_sem] Oper.semAt_some
theorem up_rise {l:List (Int × Int)} (h:Up l) {i j:Nat} (hij:i<j) (hj:j<l.length):(rg l i).2+1<(rg l j).1:=by
 rw [rg_lt hj,rg_lt (show i<l.length by omega)]
 exact List.pairwise_iff_getElem.1 h.1 i j (by omega) hj hij
theorem up_at {l:List (Int × Int)} (h:Up l) {i:Nat} (hi:i<l.length):(rg l i).1≤(rg l i).2:=by
 rw [rg_lt hi];exact h.2 _ (List.getElem_mem hi)
theorem Up.drop {l:List (Int × Int)} (h:Up l) (k:Nat):Up (l.drop k):=⟨h.1.sublist (List.drop_sublist _ _),fun x hx=>h.2 x (List.mem_of_mem_drop hx)⟩
theorem fnd_up {l:List (Int × Int)} (h:Up l) (u:Int) {i:Nat} (hi:i<l.length):i<fnd l u↔(rg l i).2<u:=by
 unfold fnd
 rw [←countP_first (fun i => !decide (u≤(rg l i).2)) l.length ?_ i hi]
 · simp
 · intro a b hab hb hp
   by_cases e:a=b
   · subst e;exact hp
   · have h1:=up_rise h (show a<b by omega) hb
     have h2:=up_at h hb
     simp at hp ⊢;omega
set_option maxHeartbeats 1000000 in
theorem closureMeet (sb ub g o c n:Nat) (u _z y:Int) (i:Nat) (W:World) (hi:i<n)
 (hs:W.cell? ⟨sb,0,none⟩=some (.slice (some ⟨g,o,none⟩) n c)) (hu:W.cell? ⟨ub,0,none⟩=some (.int .i64 u)) (hc:W.cell? ⟨g,o+i*2+1,none⟩=some (.int .i64 y)) :
 Calls Tryz.prog 105 (#[.int .i64 i]++#[.pointer (some ⟨ub,0,none⟩),.pointer (some ⟨sb,0,none⟩)]) W fun e w'=>e = .returned (.bool (decide (u≤y)))∧∃ q,w'=W.drewN q:=by
 have hiz:(i:Int)<(n:Int):=by omega
 have hi0:(0:Int)≤(i:Int):=by omega
 go_enter Tryz.func105,Tryz.ntmps105
 go_wp2
 go_quiet (fail)
 go_wp2
 go_ret
 exact ⟨by first | rfl | simp,_,rfl⟩
theorem searchMeet (sb ub:Nat) (a:Option Addr) (c:Nat) (l:List (Int × Int)) (u:Int) (W:World) (hG:Up l) (hn:l.length≤10000000)
 (hs:W.cell? ⟨sb,0,none⟩=some (.slice a l.length c)) (hu:W.cell? ⟨ub,0,none⟩=some (.int .i64 u)) (hr:l=[]∨∃ g o,a=some ⟨g,o,none⟩∧Reads W g o l) :
 Calls Tryz.prog 39 #[.int .i64 l.length,.func (.func 105) #[] #[.pointer (some ⟨ub,0,none⟩),.pointer (some ⟨sb,0,none⟩)]] W fun e w'=>e = .returned (.int .i64 (fnd l u))∧Grown W w':=by
 have eg:∀ args w,(callFunc 105 args).run Tryz.prog w = .ok (.enter 105 args) w:=enters_of Tryz.func105 (by kernel_rfl) rfl
 exact Any.sort_Search Tryz.search 105 #[.pointer (some ⟨ub,0,none⟩),.pointer (some ⟨sb,0,none⟩)] l.length (fun i=>decide (u≤(rg l i).2)) W eg (by omega)
  (fun m os i hi=>by
   obtain ⟨g,o,rfl,hr2⟩:=hr.resolve_left (fun e=>by rw [e] at hi;simp at hi)
   have hg:Grown W (Go.Sort.grow (W.drewN m) os):=⟨m,os,rfl⟩
   exact (closureMeet sb ub g o c l.length u 0 _ i _ hi (hg.cellv hs) (hg.cellv hu) (hg.cellv (hr2 i hi).2)).mono fun _ _ ⟨he,q,hq⟩=>⟨he,q,#[],by rw [hq,Go.Sort.grow_empty]⟩)
  (fun x y hxy hy h=>by
   by_cases e:x=y
   · subst e;exact h
   · have h1:=up_rise hG (show x<y by omega) hy
     have h2:=up_at hG hy
     simp at h ⊢;omega)
def metB (a b:List (Int × Int)):Bool:=b.any fun y=>a.any fun x=>decide (x.1≤y.2) && decide (y.1≤x.2)
def sfA (A:Option Addr) (f c:Nat):Option Addr:=if c=f then A else A.map (·.add (f*2))
theorem size_elem40 (W:World):(sizeOf (Tryz.prog.elem 39)).run Tryz.prog W = .ok 2 W:=by
 rw [show Tryz.prog.elem 39=55 by kernel_rfl]
 exact Tryz.sizeOf55 W
theorem run_from (A:Option Addr) (m c f:Nat) (h:f≤m) (W:World):(Instr.slice 39 (.slice A m c) (some (.int .i64 f)) none none).run Tryz.prog W = .ok (.slice (sfA A f c) (m - f) (c - f)) W:=by
 rw [run_slice_l W 39 A m c (by kernel_rfl) .i64 f (by omega) (by omega),size_elem40]
 simp [Result.andThen,sliced,sfA]
theorem Rs.from {w:World} {A:Option Addr} {m c f:Nat} {l:List (Int × Int)} (h:Rs w (.slice A m c) l) (hf:f≤m):Rs w (.slice (sfA A f c) (m - f) (c - f)) (l.drop f):=by
 obtain ⟨a2,c2,e,hc,h3⟩:=h
 injection e with e1 e2 e3
 subst e1 e3
 refine ⟨_,c - f,by rw [List.length_drop,e2],by rw [List.length_drop];omega,?_⟩
 by_cases h0:l.drop f=[]
 · exact .inl h0
 · have hl:f<l.length:=by
    have:=List.length_pos_iff.2 h0
    rw [List.length_drop] at this
    omega
   obtain ⟨g,o,rfl,hr⟩:=h3.resolve_left (by rintro rfl;simp at hl)
   refine .inr ⟨g,o+f*2,?_,fun j hj => ?_⟩
   · unfold sfA
     rw [if_neg (by omega)]
     simp [Addr.add]
   · rw [List.length_drop] at hj
     obtain ⟨c1,c2⟩:=hr (f+j) (by omega)
     have hg:rg (l.drop f) j=rg l (f+j):=by
      rw [rg_lt (show f+j<l.length by omega),rg_lt (show j<(l.drop f).length by rw [List.length_drop];omega)]
      simp
     rw [hg,show o+f*2+j*2=o+(f+j)*2 by omega]
     exact ⟨c1,c2⟩
theorem rg_drop {l:List (Int × Int)} {k i:Nat} (h:k+i<l.length):rg (l.drop k) i=rg l (k+i):=by
 rw [rg_lt h,rg_lt (show i<(l.drop k).length by rw [List.length_drop];omega)]
 simp
theorem meet_step {a b:List (Int × Int)} (ha:Up a) (_hb:Up b) {j k f:Nat} {p q:Int} (hj:j<b.length) (hpq:rg b j=(p,q)) (hk:k≤a.length) (hlo:∀ i,i<k→∀ j',j≤j'→j'<b.length→(rg a i).2<(rg b j').1) (hf:fnd (a.drop k) p=f) :
 (∀ i,i<k+f→(rg a i).2<p)∧(a.any fun x=>decide (x.1≤q) && decide (p≤x.2))=(decide (k+f<a.length) && decide ((rg a (k+f)).1≤q)):=by
 have hfl:f≤a.length - k:=by rw [←hf,←List.length_drop];exact fnd_le _ _
 have h1:∀ i,i<k+f→(rg a i).2<p:=fun i hi=>by
  by_cases h:i<k
  · have:=hlo i h j (Nat.le_refl _) hj
    rw [hpq] at this
    exact this
  · have:=(fnd_up (ha.drop k) p (i:=i - k) (by rw [List.length_drop];omega)).1 (by omega)
    rw [rg_drop (by omega),show k+(i - k)=i by omega] at this
    exact this
 refine ⟨h1,?_⟩
 have h2:k+f<a.length→p≤(rg a (k+f)).2:=fun h=>by
  have:=mt (fnd_up (ha.drop k) p (i:=f) (by rw [List.length_drop];omega)).2 (by omega)
  rw [rg_drop h] at this
  omega
 rw [Bool.eq_iff_iff,List.any_eq_true]
 simp only [Bool.and_eq_true,decide_eq_true_eq]
 constructor
 · rintro ⟨x,hx,h3,h4⟩
   obtain ⟨i,hi,rfl⟩:=List.getElem_of_mem hx
   rw [←rg_lt hi] at h3 h4
   by_cases hik:i<k+f
   · have:=h1 i hik;omega
   · refine ⟨by omega,?_⟩
     by_cases e:i=k+f
     · rw [←e];exact h3
     · have:=up_rise ha (show k+f<i by omega) hi
       have:=up_at ha (show k+f<a.length by omega)
       omega
 · rintro ⟨h3,h4⟩
   refine ⟨a[k+f],List.getElem_mem h3,?_,?_⟩
   · rw [←rg_lt h3];exact h4
   · rw [←rg_lt h3];exact h2 h3
theorem metB_take {a b:List (Int × Int)} {j:Nat} {p q:Int} (hj:j<b.length) (hpq:rg b j=(p,q)):metB a (b.take (j+1))=(metB a (b.take j) || a.any fun x=>decide (x.1≤q) && decide (p≤x.2)):=by
 rw [rg_lt hj] at hpq
 unfold metB
 rw [List.take_succ_eq_append_getElem hj,List.any_append,hpq]
 simp
theorem metB_some {a b:List (Int × Int)} {j:Nat} (h:metB a (b.take j)=true):metB a b=true:=by
 unfold metB at h ⊢
 rw [List.any_eq_true] at h ⊢
 obtain ⟨x,hx,h⟩:=h
 exact ⟨x,List.mem_of_mem_take hx,h⟩
structure MeI (w:World) (a b:List (Int × Int)) (j:Nat) (wr:World):Prop where
 bl:Below w.heap.size w wr
 bx:∃ k A c,k≤a.length∧wr.heap[w.heap.size]? = some (.cells #[.slice A (a.length - k) c] 39 (0,0))∧Rs w (.slice A (a.length - k) c) (a.drop k)∧∀ i,i<k→∀ j',j≤j'→j'<b.length→(rg a i).2<(rg b j').1
 no:metB a (b.take j)=false
set_option maxHeartbeats 8000000 in
theorem meet_any (w:World) (av bv:Value) (a b:List (Int × Int)) (ha:Rs w av a) (hb:Rs w bv b) (hau:Up a) (hbu:Up b) (hal:a.length≤10000000) (hbl:b.length≤10000000) :
 Calls Tryz.prog 82 #[av,bv] w fun e w'=>e = .returned (.bool (metB a b))∧Below w.heap.size w w':=by
 obtain ⟨aa,ac,rfl,hac,har⟩:=ha
 obtain ⟨ba,bc,rfl,hbc,hbr⟩:=hb
 obtain ⟨na,hna⟩:∃ na,a.length=na:=⟨_,rfl⟩
 obtain ⟨nb,hnb⟩:∃ nb,b.length=nb:=⟨_,rfl⟩
 have H0:Hid (MeI w a b 0 (w.alloc (.cells #[.slice aa a.length ac] 39))):=⟨(Below.refl _ w).alloc (Nat.le_refl _) _,⟨0,aa,ac,Nat.zero_le _,World.alloc_heap_new _ _,⟨aa,ac,rfl,hac,har⟩,fun i hi=>by omega⟩,by simp [metB]⟩
 have H:Hid (a.length=na∧b.length=nb∧Up a∧Up b∧(b=[]∨∃ g o,ba=some ⟨g,o,none⟩∧Reads w g o b)):=⟨hna,hnb,hau,hbu,hbr⟩
 obtain ⟨M,hM⟩:∃ M,metB a b=M:=⟨_,rfl⟩
 have HM:Hid (metB a b=M):=hM
 rw [hM,hna,hnb]
 rw [hna] at H0 hal
 rw [hnb] at hbl
 clear hau hbu har hbr hac hbc hM hna hnb
 go_enter Tryz.func82,Tryz.ntmps82
 go_wp2
 go_loopw [9] (fun vi wr=>∃ j:Nat,vi = .int .i64 j∧j≤nb∧Hid (MeI w a b j wr)) (fun vi _=>nb - (intOf vi).toNat)
 case atStart=>exact ⟨0,rfl,by omega,H0⟩
 case round=>
  obtain ⟨j,rfl,hj,HB⟩:=hrel
  by_cases hlt:j<nb
  · have hlt':(j:Int)<(nb:Int):=by omega
    have hpos:(0:Int)≤(j:Int):=by omega
    have hjl:j<b.length:=by rw [H.out.2.1];exact hlt
    obtain ⟨g,o,rfl,hr⟩:=H.out.2.2.2.2.resolve_left (by rintro rfl;simp at hjl)
    obtain ⟨p,q,hpq⟩:∃ p q:Int,rg b j=(p,q):=⟨_,_,rfl⟩
    obtain ⟨ca,cb⟩:=hr j hjl
    rw [hpq] at ca cb
    simp only at ca cb
    have ca:=cell_below ca HB.out.bl (Nat.le_refl _)
    have cb:=cell_below cb HB.out.bl (Nat.le_refl _)
    obtain ⟨k,A,c,hk,hbx,hRk,hlo⟩:=HB.out.bx
    obtain ⟨m,hm⟩:∃ m,a.length - k=m:=⟨_,rfl⟩
    rw [hm] at hbx hRk
    have hxl:w.heap.size<wr.heap.size:=(Array.getElem?_eq_some_iff.1 hbx).1
    have x0:wr.cell? ⟨w.heap.size,0,none⟩=some (.slice A m c):=by rw [cell_of hbx];rfl
    have HK:Hid (k≤a.length∧a.length - k=m∧Rs w (.slice A m c) (a.drop k)∧(∀ i,i<k→∀ j',j≤j'→j'<b.length→(rg a i).2<(rg b j').1)∧rg b j=(p,q)∧wr.heap[w.heap.size]? = some (.cells #[.slice A m c] 39 (0,0))):=⟨hk,hm,hRk,hlo,hpq,hbx⟩
    have hmI:m≤10000000:=by have:=H.out.1;omega
    have hdl:(a.drop k).length=m:=by rw [List.length_drop];exact hm
    obtain ⟨f,hf⟩:∃ f,fnd (a.drop k) p=f:=⟨_,rfl⟩
    have hfm:f≤m:=by rw [←hf,←hdl];exact fnd_le _ _
    have HS:Hid (∀ W,Grown (wr.alloc (.cells #[.int .i64 p,.int .i64 q] 55)) W→Calls Tryz.prog 39 #[.int .i64 m,.func (.func 105) #[] #[.pointer (some ⟨wr.heap.size,0,none⟩),.pointer (some ⟨w.heap.size,0,none⟩)]] W fun e w'=>e = .returned (.int .i64 f)∧Grown W w'):=by
     intro W hG
     have hg:Grown wr W:=((Grown.refl _).alloc _).trans hG
     have hR2:=hRk.below (HB.out.bl.trans (hg.below.mono HB.out.bl.size)) (Nat.le_refl _)
     obtain ⟨a2,c2,e2,_,h3⟩:=hR2
     injection e2 with e3 e4 e5
     subst e3
     have:=searchMeet w.heap.size wr.heap.size A c (a.drop k) p W (H.out.2.2.1.drop k) (by omega) (by rw [hdl];exact hg.cellv x0) (hG.cellv (by rw [cell_of (World.alloc_heap_new _ _)];rfl)) h3
     rw [hf,hdl] at this
     exact this
    have hfI:(f:Int)≤(m:Int):=by omega
    have hf0:(0:Int)≤(f:Int):=by omega
    have HF:Hid (fnd (a.drop k) p=f):=hf
    clear hr hpq hk hm hRk hlo hbx hf hdl
    have hsl:=run_from A m c f hfm
    have hslA:∀ W,(Instr.sliceAt 39 (.slice A m c) (some (.int .i64 f)) none none).run Tryz.prog W = .ok (.slice (sfA A f c) (m - f) (c - f)) W:=fun W=>by
     rw [run_sliceAt_slice W 39 _ _ _ _ (by kernel_rfl)]
     exact hsl W
    have HD:Hid (Rs w (.slice (sfA A f c) (m - f) (c - f)) ((a.drop k).drop f)):=HK.out.2.2.1.from hfm
    obtain ⟨A2,hA2⟩:∃ A2,sfA A f c=A2:=⟨_,rfl⟩
    obtain ⟨m2,hm2⟩:∃ m2,m - f=m2:=⟨_,rfl⟩
    obtain ⟨c2,hc2⟩:∃ c2,c - f=c2:=⟨_,rfl⟩
    have HM2:Hid (m - f=m2):=hm2
    rw [hA2,hm2,hc2] at HD
    simp only [hA2,hm2,hc2] at hsl hslA
    clear hA2 hm2 hc2
    have HX:Hid (∀ W,Grown wr W→W.cell? ⟨w.heap.size,0,none⟩=some (.slice A m c)∧W.frozen? ⟨w.heap.size,0,none⟩=false):=fun W hG=>by
     have hb:W.heap[w.heap.size]? = some (.cells #[.slice A m c] 39 (0,0)):=(hG.below.block _ hxl).trans HK.out.2.2.2.2.2
     exact ⟨by rw [cell_of hb];rfl,free_of hb⟩
    have x1:=(HX.out wr (Grown.refl _)).2
    go_upto_region 4 with fail
    go_cut [] (fun wx=>Hid (∃ w5,Grown (wr.alloc (.cells #[.int .i64 p,.int .i64 q] 55)) w5∧wx=w5.setCell ⟨w.heap.size,0,none⟩ (.slice A2 m2 c2)))
    case first=>
     go_region_with (go_at_call 39;go_must (refine (HS.out _ (by (repeat (first | exact Grown.refl _ | refine Grown.alloc ?_ _ | refine Grown.drew ?_ | refine Grown.drewN ?_ _ | refine Grown.quiet ?_ _ _)))).mono ?_;rintro e w5 ⟨rfl,hg5⟩;obtain ⟨y0,y1⟩:=HX.out w5 (Grown.trans (by (repeat (first | exact Grown.refl _ | refine Grown.alloc ?_ _ | refine Grown.drew ?_ | refine Grown.drewN ?_ _ | refine Grown.quiet ?_ _ _))) hg5)))
     all_goals
      go_wp2
      go_meet
      exact ⟨_,Grown.trans (by (repeat (first | exact Grown.refl _ | refine Grown.alloc ?_ _ | refine Grown.drew ?_ | refine Grown.drewN ?_ _ | refine Grown.quiet ?_ _ _))) hg5,rfl⟩
    case rest=>
     obtain ⟨w5,hg5,rfl⟩:=hcut.out
     have hbw5:w5.heap[w.heap.size]? = some (.cells #[.slice A m c] 39 (0,0)):=((((Grown.refl wr).alloc _).trans hg5).below.block _ hxl).trans HK.out.2.2.2.2.2
     have hbwc:(w5.setCell ⟨w.heap.size,0,none⟩ (.slice A2 m2 c2)).heap[w.heap.size]? = some (.cells #[.slice A2 m2 c2] 39 (0,0)):=set_heap hbw5
     have hbr:(w5.setCell ⟨w.heap.size,0,none⟩ (.slice A2 m2 c2)).heap[wr.heap.size]? = some (.cells #[.int .i64 p,.int .i64 q] 55 (0,0)):=by
      rw [turns_set w5 w.heap.size 0 _ wr.heap.size (by omega)]
      exact (hg5.below.block _ (by simp)).trans (World.alloc_heap_new _ _)
     have hbl:Below w.heap.size w (w5.setCell ⟨w.heap.size,0,none⟩ (.slice A2 m2 c2)):=(HB.out.bl.trans ((((Grown.refl wr).alloc _).trans hg5).below.mono HB.out.bl.size)).setCell (Nat.le_refl _) _
     have hno:=HB.out.no
     obtain ⟨s1,s2⟩:=meet_step H.out.2.2.1 H.out.2.2.2.1 hjl HK.out.2.2.2.2.1 HK.out.1 HK.out.2.2.2.1 HF.out
     obtain ⟨wc,hwc⟩:∃ wc,w5.setCell ⟨w.heap.size,0,none⟩ (.slice A2 m2 c2)=wc:=⟨_,rfl⟩
     have HW:Hid (wc.heap[w.heap.size]? = some (.cells #[.slice A2 m2 c2] 39 (0,0))∧Below w.heap.size w wc∧metB a (b.take (j+1))=(decide (k+f<a.length) && decide ((rg a (k+f)).1≤q))∧(∀ i,i<k+f→(rg a i).2<p)):=by
      rw [←hwc]
      exact ⟨hbwc,hbl,by rw [metB_take hjl HK.out.2.2.2.2.1,hno,s2];rfl,s1⟩
     have z0:wc.cell? ⟨w.heap.size,0,none⟩=some (.slice A2 m2 c2):=by rw [cell_of HW.out.1];rfl
     have z1:wc.cell? ⟨wr.heap.size,1,none⟩=some (.int .i64 q):=by rw [←hwc,cell_of hbr];rfl
     rw [hwc]
     clear hwc hbw5 hbwc hbr hbl hno s1 s2 hg5 hcut HB hsl hslA
     have hMeI:∀ W,Grown wc W→metB a (b.take (j+1))=false→MeI w a b (j+1) W:=fun W hG h9=>by
      refine ⟨HW.out.2.1.trans (hG.below.mono HW.out.2.1.size),⟨k+f,A2,c2,by have:=HK.out.1;have:=HK.out.2.1;omega,?_,?_,fun i hi j' h1 h2 => ?_⟩,h9⟩
      · rw [show a.length - (k+f)=m2 by have:=HK.out.2.1;have:=HM2.out;omega]
        exact (hG.below.block _ (by have:=(Array.getElem?_eq_some_iff.1 HW.out.1).1;exact this)).trans HW.out.1
      · rw [show a.length - (k+f)=m2 by have:=HK.out.2.1;have:=HM2.out;omega,←List.drop_drop]
        exact HD.out
      · have h3:=HW.out.2.2.2 i hi
        have h4:=up_rise H.out.2.2.2.1 (show j<j' by omega) h2
        have h5:=up_at H.out.2.2.2.1 hjl
        rw [HK.out.2.2.2.2.1] at h4 h5
        simp only at h4 h5
        omega
     have HME:Hid (∀ W,Grown wc W→metB a (b.take (j+1))=false→MeI w a b (j+1) W):=hMeI
     have hm2I:(m2:Int)≤10000000:=by have:=HM2.out;omega
     clear hMeI
     by_cases h0:0<m2
     · have d0:decide ((0:Int)<(m2:Int))=true:=by simpa using h0
       have hkf:k+f<a.length:=by have:=HK.out.2.1;have:=HM2.out;omega
       obtain ⟨a9,c9,e9,_,h9⟩:=HD.out
       injection e9 with e91 e92 e93
       clear e92 e93
       obtain ⟨g9,o9,e94,hr9⟩:=h9.resolve_left (by intro e;have:=congrArg List.length e;rw [List.length_drop,List.length_drop] at this;simp at this;omega)
       subst e91
       subst e94
       have r0:=(hr9 0 (by rw [List.length_drop,List.length_drop];omega)).1
       rw [List.drop_drop,rg_drop (by omega)] at r0
       simp only [Nat.add_zero,Nat.zero_mul] at r0
       have r0:=cell_below r0 HW.out.2.1 (Nat.le_refl _)
       obtain ⟨x1,hx1⟩:∃ x1,(rg a (k+f)).1=x1:=⟨_,rfl⟩
       rw [hx1] at r0
       have HX1:Hid ((rg a (k+f)).1=x1∧k+f<a.length):=⟨hx1,hkf⟩
       clear hx1 hkf hr9 h9
       by_cases hle:x1≤q
       · have d1:decide (x1≤q)=true:=by simpa using hle
         have HMt:Hid (M=true∧Below w.heap.size w wc):=by
          refine ⟨?_,HW.out.2.1⟩
          rw [←HM.out]
          refine metB_some (j:=j+1) ?_
          rw [HW.out.2.2.1,HX1.out.1,decide_eq_true HX1.out.2,d1]
          rfl
         clear HME
         go_wp2
         go_big_quiet (fail)
         go_wp2
         go_ret
         exact ⟨by rw [HMt.out.1];rfl,HMt.out.2.trans ((Grown.below (by (repeat (first | exact Grown.refl _ | refine Grown.alloc ?_ _ | refine Grown.drew ?_ | refine Grown.drewN ?_ _ | refine Grown.quiet ?_ _ _)))).mono HMt.out.2.size)⟩
       · have d1:decide (x1≤q)=false:=by simpa using hle
         have HMf:Hid (metB a (b.take (j+1))=false):=by
          show _=_
          rw [HW.out.2.2.1,HX1.out.1,d1]
          simp
         go_wp2
         go_big_quiet (fail)
         go_wp2
         exact ⟨⟨j+1,by go_num,by omega,HME.out _ (by (repeat (first | exact Grown.refl _ | refine Grown.alloc ?_ _ | refine Grown.drew ?_ | refine Grown.drewN ?_ _ | refine Grown.quiet ?_ _ _))) HMf.out⟩,by simp [intOf];omega⟩
     · have d0:decide ((0:Int)<(m2:Int))=false:=by simp;omega
       have HMf:Hid (metB a (b.take (j+1))=false):=by
        show _=_
        rw [HW.out.2.2.1,decide_eq_false (by have:=HK.out.2.1;have:=HM2.out;omega)]
        rfl
       go_wp2
       go_big_quiet (fail)
       go_wp2
       exact ⟨⟨j+1,by go_num,by omega,HME.out _ (by (repeat (first | exact Grown.refl _ | refine Grown.alloc ?_ _ | refine Grown.drew ?_ | refine Grown.drewN ?_ _ | refine Grown.quiet ?_ _ _))) HMf.out⟩,by simp [intOf];omega⟩
  · have HF:Hid (metB a b=false∧Below w.heap.size w wr):=by
     have h1:=HB.out.no
     rw [List.take_of_length_le (by have:=H.out.2.1;omega)] at h1
     exact ⟨h1,HB.out.bl⟩
    have hMf:M=false:=by rw [←HM.out];exact HF.out.1
    subst hMf
    clear HB
    go_wp2
    go_ret
    exact ⟨rfl,HF.out.2⟩
end Go.Proofs
