/-
  Several texts in one (Yqx Z4x).
-/
import Derived.Test.YtcfcjljapamcoaaGreatDoorMplx
import Derived.Test.YtcfcjljapamcoaaGreatDoorZ3x
namespace Go.Proofs
open Go.RowKit Go.Shelf
set_option maxRecDepth 100000
attribute [local go_sem] Oper.semAt_some
def restP (r:Rl) (S:List (Int × Int)) (p:Nat):Pc:=
 if lenU S=1 then ⟨1,(rg S 0).1,0,[]⟩ else match (spk r p r.res.length).head? with
  | some n=>match r.res[n.toNat]? with
   | some q=>if q.k=3 then ⟨3,0,n,S⟩ else ⟨2,0,n,[]⟩
   | none=>⟨0,0,0,[]⟩
  | none=>⟨0,0,0,[]⟩
def RestQ (w:World) (kv:Value) (p:Nat) (S:List (Int × Int)) (c:Pc) (e:Ending) (w':World):Prop:=∃ tv,e = .returned (.agg #[.int .i64 c.k,.int .i64 c.u,.int .i64 c.y,tv])∧(tv = .slice none 0 0∧c.tl=[]∨c.tl=S∧∃ g o n cc,kv = .slice (some ⟨g,o,none⟩) n cc∧w.cell? ⟨g,o+p,none⟩=some tv)∧Below w.heap.size w w'
theorem ret_pc {tmps:Array Value} {W:World} {B:Nat} {a b c d:Value} {R:Ending→World→Prop} (hp:tmps.getD 4 undef = .pointer (some ⟨B,0,none⟩)) (hb:W.heap[B]? = some (.cells #[a,b,c,d] 64 (0,0)))
 (K:R (.returned (.agg #[a,b,c,d])) W):bodyPost Tryz.prog Tryz.f69 R Exit.ret { tmps:=tmps,defers:=[] } W:=
 bodyPost_ret (v := .agg #[a,b,c,d]) (results_cell_row rfl tmps W B 64 _ _ _ hp hb Tryz.underlying64 rfl (by kernel_rfl)) rfl K
theorem set_four {W:World} {B:Nat} {a b c d a' b' c' d':Value} (h:W.heap[B]? = some (.cells #[a,b,c,d] 64 (0,0))):((((W.setCell ⟨B,0,none⟩ a').setCell ⟨B,1,none⟩ b').setCell ⟨B,2,none⟩ c').setCell ⟨B,3,none⟩ d').heap[B]? = some (.cells #[a',b',c',d'] 64 (0,0)):=by
 rw [set_heap (set_heap (set_heap (set_heap h)))]
 rfl
theorem spk_at {r:Rl} {y:Int} {n:Int} (h:n∈spk r y r.res.length):∃ (k:Nat) (q:Pc),n=k∧r.res[k]? = some q:=by
 unfold spk at h
 obtain ⟨k,hk,rfl⟩:=List.mem_map.1 h
 obtain ⟨h1,h2⟩:=List.mem_filter.1 hk
 have h3:=List.mem_range.1 h1
 exact ⟨k,_,rfl,List.getElem?_eq_getElem h3⟩
set_option maxHeartbeats 8000000 in
theorem restores_any (r:Rl) (av kv pv rv iv:Value) (p:Nat) (S:List (Int × Int)) (w:World) (hT:Tab w) (h:WyC w r av kv pv rv iv) (ho:Ok r) (hS:r.key[p]? = some S) (hp:plcB r S p=true) :
 Calls Tryz.prog 69 #[wyVal r av kv pv rv iv,.int .i64 p] w (RestQ w kv p S (restP r S p)):=by
 have HSP:Hid (∀ W,Below w.heap.size w W→Calls Tryz.prog 102 #[wyVal r av kv pv rv iv,.int .i64 p] W (SpkQ W r p)):=fun W hb=>speakers_any r av kv pv rv iv p W (h.below hb (Nat.le_refl _)) ho.r16
 obtain ⟨aa,an,ac,rfl⟩:=h.rr.a.sl
 obtain ⟨ka,kc,rfl,hkc,hkr⟩:=h.rr.k
 obtain ⟨pa,pn,pc,rfl⟩:=h.rr.p.sl
 obtain ⟨ra,rc,rfl,hrc,hrr⟩:=h.rr.r
 obtain ⟨ia,im,ic,rfl⟩:=h.im.sl
 obtain ⟨hpl,hpe⟩:=List.getElem?_eq_some_iff.1 hS
 obtain ⟨kg,ko,rfl,hkrd⟩:=hkr.resolve_left (by intro e;rw [e] at hpl;simp at hpl)
 obtain ⟨sv,hsc,hss⟩:=hkrd p hpl
 rw [hpe] at hss
 obtain ⟨kn,hkn⟩:∃ kn,r.key.length=kn:=⟨_,rfl⟩
 obtain ⟨rn,hrn⟩:∃ rn,r.res.length=rn:=⟨_,rfl⟩
 have hk8:(kn:Int)≤8:=by have:=ho.k8;omega
 have hpI:(p:Int)<(kn:Int):=by omega
 have hp0:(0:Int)≤(p:Int):=by omega
 have HLO:Hid (∀ W,Below w.heap.size w W→Calls Tryz.prog 101 #[sv] W fun e w'=>e = .returned (.bool (decide (lenU S=1)))∧Grown W w'):=fun W hb=>lone_any sv S W (fun j v hv=>cell_below (hT j v hv) hb (Nat.le_refl _)) (hss.below hb (Nat.le_refl _))
 obtain ⟨sa,sc,rfl,hscap,hsr⟩:=hss
 obtain ⟨sn,hsn⟩:∃ sn,S.length=sn:=⟨_,rfl⟩
 have H:Hid (plcB r S p=true∧r.res.length=rn∧S.length=sn∧sn≤sc∧(S=[]∨∃ g o,sa=some ⟨g,o,none⟩∧Reads w g o S)∧(r.res=[]∨∃ g o,ra=some ⟨g,o,none⟩∧PRd w g o r.res)∧rn≤16∧w.cell? ⟨kg,ko+p,none⟩=some (.slice sa S.length sc)):=⟨hp,hrn,hsn,by omega,hsr,hrr,by rw [←hrn];exact ho.r16,hsc⟩
 obtain ⟨c,hc⟩:∃ c,restP r S p=c:=⟨_,rfl⟩
 have HC:Hid (restP r S p=c):=hc
 rw [hc]
 obtain ⟨L,hL⟩:∃ L,decide (lenU S=1)=L:=⟨_,rfl⟩
 have HL:Hid (decide (lenU S=1)=L):=hL
 unfold wyVal at HSP ⊢
 rw [hsn,hL] at HLO
 rw [hkn,hrn] at HSP
 rw [hsn] at hsc
 rw [hkn,hrn]
 obtain ⟨W2,hW2⟩:∃ W2,(w.alloc (.cells #[.bool r.bg,.slice aa an ac,.slice (some ⟨kg,ko,none⟩) kn kc,.slice pa pn pc,.bool r.en,.slice ra rn rc,.int .i64 r.cu,.slice ia im ic] 74)).alloc (.cells #[.int .i64 0,.int .i64 0,.int .i64 0,.slice none 0 0] 64)=W2:=⟨_,rfl⟩
 have hb1:Below w.heap.size w (w.alloc (.cells #[.bool r.bg,.slice aa an ac,.slice (some ⟨kg,ko,none⟩) kn kc,.slice pa pn pc,.bool r.en,.slice ra rn rc,.int .i64 r.cu,.slice ia im ic] 74)):=(Below.refl _ w).alloc (Nat.le_refl _) _
 have hb:Below w.heap.size w W2:=by rw [←hW2];exact hb1.alloc hb1.size _
 have hk1:W2.heap[w.heap.size]? = some (.cells #[.bool r.bg,.slice aa an ac,.slice (some ⟨kg,ko,none⟩) kn kc,.slice pa pn pc,.bool r.en,.slice ra rn rc,.int .i64 r.cu,.slice ia im ic] 74 (0,0)):=by
  rw [←hW2]
  exact ((((Below.refl _ _).alloc (Nat.le_refl _) _):Below (w.alloc (.cells #[.bool r.bg,.slice aa an ac,.slice (some ⟨kg,ko,none⟩) kn kc,.slice pa pn pc,.bool r.en,.slice ra rn rc,.int .i64 r.cu,.slice ia im ic] 74)).heap.size _ _).block _ (by simp)).trans (World.alloc_heap_new _ _)
 have hk2:W2.heap[w.heap.size+1]? = some (.cells #[.int .i64 0,.int .i64 0,.int .i64 0,.slice none 0 0] 64 (0,0)):=by
  rw [←hW2]
  have:=World.alloc_heap_new (w.alloc (.cells #[.bool r.bg,.slice aa an ac,.slice (some ⟨kg,ko,none⟩) kn kc,.slice pa pn pc,.bool r.en,.slice ra rn rc,.int .i64 r.cu,.slice ia im ic] 74)) (.cells #[.int .i64 0,.int .i64 0,.int .i64 0,.slice none 0 0] 64)
  simpa using this
 have hl1:=(Array.getElem?_eq_some_iff.1 hk1).1
 have hl2:=(Array.getElem?_eq_some_iff.1 hk2).1
 have HK:Hid (Below w.heap.size w W2∧(∀ W,Below W2.heap.size W2 W→W.heap[w.heap.size]? = some (.cells #[.bool r.bg,.slice aa an ac,.slice (some ⟨kg,ko,none⟩) kn kc,.slice pa pn pc,.bool r.en,.slice ra rn rc,.int .i64 r.cu,.slice ia im ic] 74 (0,0)))∧(∀ W,Below W2.heap.size W2 W→W.heap[w.heap.size+1]? = some (.cells #[.int .i64 0,.int .i64 0,.int .i64 0,.slice none 0 0] 64 (0,0)))):=⟨hb,fun W hW=>(hW.block _ hl1).trans hk1,fun W hW=>(hW.block _ hl2).trans hk2⟩
 have x2:W2.cell? ⟨w.heap.size,2,none⟩=some (.slice (some ⟨kg,ko,none⟩) kn kc):=by rw [cell_of hk1];rfl
 have y0:=cell_below hsc hb (Nat.le_refl _)
 clear h ho hT hkr hkrd hpe hpl hS hp hsr hrr hc hL hb hb1 hk1 hk2 hl1 hl2 hsc hkc hrc hscap hsn hrn hkn
 go_enter Tryz.func69,Tryz.ntmps69
 go_wp2_with fail
 refine (HLO.out _ HK.out.1).mono ?_
 rintro e w3 ⟨rfl,hg3⟩
 have HB3:Hid (Below W2.heap.size W2 w3∧Below w.heap.size w w3):=⟨hg3.below,HK.out.1.trans (hg3.below.mono HK.out.1.size)⟩
 clear hg3 HLO x2 y0
 cases L with
 | true=>
  have hS0:S≠[]:=by
   rintro rfl
   have:=HL.out
   simp [lenU,tot] at this
  have hSl:0<S.length:=List.length_pos_iff.2 hS0
  obtain ⟨g,o,rfl,hr⟩:=H.out.2.2.2.2.1.resolve_left hS0
  obtain ⟨c1,_⟩:=hr 0 hSl
  have c1:=cell_below c1 HB3.out.2 (Nat.le_refl _)
  simp only [Nat.zero_mul,Nat.add_zero] at c1
  have hsn1:(0:Int)<(sn:Int):=by have:=H.out.2.2.1;omega
  have hb3:=HK.out.2.2 w3 HB3.out.1
  have f0:w3.frozen? ⟨w.heap.size+1,0,none⟩=false:=free_of hb3
  have f1:w3.frozen? ⟨w.heap.size+1,1,none⟩=false:=free_of hb3
  have f2:w3.frozen? ⟨w.heap.size+1,2,none⟩=false:=free_of hb3
  have f3:w3.frozen? ⟨w.heap.size+1,3,none⟩=false:=free_of hb3
  have z0:w3.cell? ⟨w.heap.size+1,0,none⟩=some (.int .i64 0):=by rw [cell_of hb3];rfl
  have z1:w3.cell? ⟨w.heap.size+1,1,none⟩=some (.int .i64 0):=by rw [cell_of hb3];rfl
  have z2:w3.cell? ⟨w.heap.size+1,2,none⟩=some (.int .i64 0):=by rw [cell_of hb3];rfl
  have z3:w3.cell? ⟨w.heap.size+1,3,none⟩=some (.slice none 0 0):=by rw [cell_of hb3];rfl
  have HCC:Hid (c=⟨1,(rg S 0).1,0,[]⟩):=by
   show c=_
   rw [←HC.out,restP,if_pos (of_decide_eq_true HL.out)]
  have hb4:=set_four (a' := .int .i64 1) (b' := .int .i64 (rg S 0).1) (c' := .int .i64 0) (d' := .slice none 0 0) hb3
  have HBB:Hid (((((w3.setCell ⟨w.heap.size+1,0,none⟩ (.int .i64 1)).setCell ⟨w.heap.size+1,1,none⟩ (.int .i64 (rg S 0).1)).setCell ⟨w.heap.size+1,2,none⟩ (.int .i64 0)).setCell ⟨w.heap.size+1,3,none⟩ (.slice none 0 0)).heap[w.heap.size+1]? = some (.cells #[.int .i64 1,.int .i64 (rg S 0).1,.int .i64 0,.slice none 0 0] 64 (0,0))):=hb4
  clear hb3 hb4 hr HC HL hSl hS0
  go_wp2
  refine ret_pc rfl HBB.out ?_
  have hcc:=HCC.out
  exact ⟨.slice none 0 0,by rw [hcc],.inl ⟨rfl,by rw [hcc]⟩,(((HB3.out.2.setCell (Nat.le_succ _) _).setCell (Nat.le_succ _) _).setCell (Nat.le_succ _) _).setCell (Nat.le_succ _) _⟩
 | false=>
  have hb3:=HK.out.2.1 w3 HB3.out.1
  have x0:w3.cell? ⟨w.heap.size,0,none⟩=some (.bool r.bg):=by rw [cell_of hb3];rfl
  have x1:w3.cell? ⟨w.heap.size,1,none⟩=some (.slice aa an ac):=by rw [cell_of hb3];rfl
  have x2:w3.cell? ⟨w.heap.size,2,none⟩=some (.slice (some ⟨kg,ko,none⟩) kn kc):=by rw [cell_of hb3];rfl
  have x3:w3.cell? ⟨w.heap.size,3,none⟩=some (.slice pa pn pc):=by rw [cell_of hb3];rfl
  have x4:w3.cell? ⟨w.heap.size,4,none⟩=some (.bool r.en):=by rw [cell_of hb3];rfl
  have x5:w3.cell? ⟨w.heap.size,5,none⟩=some (.slice ra rn rc):=by rw [cell_of hb3];rfl
  have x6:w3.cell? ⟨w.heap.size,6,none⟩=some (.int .i64 r.cu):=by rw [cell_of hb3];rfl
  have x7:w3.cell? ⟨w.heap.size,7,none⟩=some (.slice ia im ic):=by rw [cell_of hb3];rfl
  have hnl:¬ lenU S=1:=of_decide_eq_false HL.out
  have hone:(spk r p r.res.length).length=1:=by
   have:=H.out.1
   rw [plcB,HL.out,Bool.false_or] at this
   exact of_decide_eq_true this
  obtain ⟨y,hy⟩:=List.length_eq_one_iff.1 hone
  obtain ⟨k,q,hyk,hq⟩:=spk_at (r:=r) (y:=(p:Int)) (n:=y) (by rw [hy];simp)
  obtain ⟨hkl,hqe⟩:=List.getElem?_eq_some_iff.1 hq
  obtain ⟨qg,qo,rfl,hpr⟩:=H.out.2.2.2.2.2.1.resolve_left (by intro e;rw [e] at hkl;simp at hkl)
  obtain ⟨tv,p0,p1,p2,p3,p4⟩:=hpr k hkl
  rw [hqe] at p0
  have HCC:Hid (c=if q.k=3 then ⟨3,0,k,S⟩ else ⟨2,0,k,[]⟩):=by
   show c=_
   rw [←HC.out,restP,if_neg hnl,hy,hyk]
   simp only [List.head?_cons,Int.toNat_natCast,hq]
  have HY:Hid (spk r p r.res.length=[(k:Int)]∧w.cell? ⟨qg,qo+k*4,none⟩=some (.int .i64 q.k)):=⟨by rw [hy,hyk],p0⟩
  have hkn:(k:Int)<(rn:Int):=by have:=H.out.2.1;omega
  have hk0:(0:Int)≤(k:Int):=by omega
  have hrI:(rn:Int)≤16:=by have:=H.out.2.2.2.2.2.2.1;omega
  clear hb3 hnl hone p1 p2 p3 p4 p0 hy hyk hq hqe hpr hkl tv HC HL
  go_wp2_with fail
  refine (HSP.out w3 HB3.out.2).mono ?_
  rintro e w4 ⟨v,rfl,hO,hb4⟩
  have HB4:Hid (Below W2.heap.size W2 w4∧Below w.heap.size w w4):=⟨HB3.out.1.trans (hb4.mono HB3.out.1.size),HB3.out.2.trans (hb4.mono HB3.out.2.size)⟩
  rw [HY.out.1] at hO
  obtain ⟨va,vc,rfl,hvc,hvr⟩:=hO.ir
  obtain ⟨vg,vo,rfl,hvd⟩:=hvr.resolve_left (by simp)
  have c0:=hvd 0 (by simp)
  simp only [List.getElem_cons_zero,Nat.add_zero] at c0
  have hb5:=HK.out.2.1 w4 HB4.out.1
  have x5:w4.cell? ⟨w.heap.size,5,none⟩=some (.slice (some ⟨qg,qo,none⟩) rn rc):=by rw [cell_of hb5];rfl
  have c1:=cell_below HY.out.2 HB4.out.2 (Nat.le_refl _)
  have hb6:=HK.out.2.2 w4 HB4.out.1
  have f0:w4.frozen? ⟨w.heap.size+1,0,none⟩=false:=free_of hb6
  have f1:w4.frozen? ⟨w.heap.size+1,1,none⟩=false:=free_of hb6
  have f2:w4.frozen? ⟨w.heap.size+1,2,none⟩=false:=free_of hb6
  have f3:w4.frozen? ⟨w.heap.size+1,3,none⟩=false:=free_of hb6
  have z0:w4.cell? ⟨w.heap.size+1,0,none⟩=some (.int .i64 0):=by rw [cell_of hb6];rfl
  have z1:w4.cell? ⟨w.heap.size+1,1,none⟩=some (.int .i64 0):=by rw [cell_of hb6];rfl
  have z2:w4.cell? ⟨w.heap.size+1,2,none⟩=some (.int .i64 0):=by rw [cell_of hb6];rfl
  have z3:w4.cell? ⟨w.heap.size+1,3,none⟩=some (.slice none 0 0):=by rw [cell_of hb6];rfl
  simp only [List.length_singleton] at *
  clear hO hb4 hvd hvr hb5 HSP x0 x1 x2 x3 x4 x6 x7 HB3
  by_cases h3:q.k=3
  · have d3:(q.k == 3)=true:=by simp [h3]
    have HBB:Hid (((((w4.setCell ⟨w.heap.size+1,0,none⟩ (.int .i64 3)).setCell ⟨w.heap.size+1,1,none⟩ (.int .i64 0)).setCell ⟨w.heap.size+1,2,none⟩ (.int .i64 k)).setCell ⟨w.heap.size+1,3,none⟩ (.slice sa sn sc)).heap[w.heap.size+1]? = some (.cells #[.int .i64 3,.int .i64 0,.int .i64 k,.slice sa sn sc] 64 (0,0))):=set_four hb6
    have HC3:Hid (c=⟨3,0,k,S⟩):=by
     show c=_
     rw [HCC.out,if_pos h3]
    clear hb6 h3 HCC
    go_wp2
    refine ret_pc rfl HBB.out ?_
    have hcc:=HC3.out
    have hbl:=(((HB4.out.2.setCell (p:=⟨w.heap.size+1,0,none⟩) (Nat.le_succ w.heap.size) (.int .i64 3)).setCell (p:=⟨w.heap.size+1,1,none⟩) (Nat.le_succ w.heap.size) (.int .i64 0)).setCell (p:=⟨w.heap.size+1,2,none⟩) (Nat.le_succ w.heap.size) (.int .i64 k)).setCell (p:=⟨w.heap.size+1,3,none⟩) (Nat.le_succ w.heap.size) (.slice sa sn sc)
    exact ⟨.slice sa sn sc,by rw [hcc],.inr ⟨by rw [hcc],_,_,_,_,rfl,by have:=H.out.2.2.2.2.2.2.2;rw [H.out.2.2.1] at this;exact this⟩,hbl⟩
  · have d3:(q.k == 3)=false:=by simp [h3]
    have HBB:Hid (((((w4.setCell ⟨w.heap.size+1,0,none⟩ (.int .i64 2)).setCell ⟨w.heap.size+1,1,none⟩ (.int .i64 0)).setCell ⟨w.heap.size+1,2,none⟩ (.int .i64 k)).setCell ⟨w.heap.size+1,3,none⟩ (.slice none 0 0)).heap[w.heap.size+1]? = some (.cells #[.int .i64 2,.int .i64 0,.int .i64 k,.slice none 0 0] 64 (0,0))):=set_four hb6
    have HC3:Hid (c=⟨2,0,k,[]⟩):=by
     show c=_
     rw [HCC.out,if_neg h3]
    clear hb6 h3 HCC
    go_wp2
    refine ret_pc rfl HBB.out ?_
    have hcc:=HC3.out
    exact ⟨.slice none 0 0,by rw [hcc],.inl ⟨rfl,by rw [hcc]⟩,(((HB4.out.2.setCell (Nat.le_succ _) _).setCell (Nat.le_succ _) _).setCell (Nat.le_succ _) _).setCell (Nat.le_succ _) _⟩
end Go.Proofs
namespace Go.Proofs
open Go.RowKit Go.Shelf
set_option maxRecDepth 100000
attribute [local go_sem] Oper.semAt_some
structure PV where
 c:Pc
 tv:Value
def PV.cs (x:PV):List Value:=[.int .i64 x.c.k,.int .i64 x.c.u,.int .i64 x.c.y,x.tv]
def pvcells (ps:List PV):List Value:=ps.flatMap PV.cs
theorem PV.len (x:PV):x.cs.length=4:=rfl
theorem pvcells_at {ps:List PV} : ∀ {j:Nat} (hj:j<ps.length) {i:Nat} (_:i<4),(pvcells ps)[j*4+i]? = (ps[j].cs)[i]? := by
 induction ps with
 | nil=>intro j hj;cases hj
 | cons x ps ih=>
  intro j hj i hi
  show (x.cs++pvcells ps)[j*4+i]? = _
  match j,hj with
  | 0,_=>
   rw [List.getElem?_append_left (by rw [PV.len];omega)]
   simp
  | j+1,hj=>
   rw [List.getElem?_append_right (by rw [PV.len];omega),PV.len,show (j+1)*4+i - 4=j*4+i by omega]
   have h2:j<ps.length:=by simpa using hj
   simpa using ih h2 hi
theorem pvcells_snoc (ps:List PV) (x:PV):pvcells (ps++[x])=pvcells ps++x.cs:=by simp [pvcells]
structure OwnPV (w0 w:World) (base:Nat) (v:Value) (ps:List PV):Prop where
 row:w.ownsRow base 64 4 v ps.length (pvcells ps)
 ok:∀ x∈ps,Rs w0 x.tv x.c.tl
 bel:Below w0.heap.size w0 w
 lo:w0.heap.size≤base
theorem OwnPV.below {w0 w w':World} {base n:Nat} {v:Value} {ps:List PV} (h:OwnPV w0 w base v ps) (hb:Below n w w') (hn:w.heap.size≤n):OwnPV w0 w' base v ps:=
 ⟨ownsRow_below8 h.row hb hn,h.ok,h.bel.trans (hb.mono (Nat.le_trans h.bel.size hn)),h.lo⟩
theorem OwnPV.form {w0 w:World} {base:Nat} {v:Value} {ps:List PV} (h:OwnPV w0 w base v ps):∃ a c,v = .slice a ps.length c:=by
 rcases h.row.2 with ⟨rfl,e⟩ | ⟨g,cap,cur,rfl,_⟩
 · exact ⟨none,0,by rw [e]⟩
 · exact ⟨_,cap,rfl⟩
theorem pv_one {w0:World} {x:PV} (h:Rs w0 x.tv x.c.tl):∀ u∈x.cs,u.oneCell'=true:=by
 intro u hu
 have h1:=isSl_one h.sl
 simp only [PV.cs,List.mem_cons,List.not_mem_nil,or_false] at hu
 rcases hu with rfl | rfl | rfl | rfl
 · rfl
 · rfl
 · rfl
 · exact h1
theorem step_P {ops:Array Oper} {o:Oper} {a:Act} {K:Act→World→Prop} {Q:Exit→Act→World→Prop} {E:Prop} {w:World} (hgd:o.guard=none) (s x:Operand)
 (ho:o.op = .call { callee := .builtin .append,args:=#[s,x],argTypes:=#[58,58] })
 (w0:World) (base:Nat) (v:Value) (ps:List PV) (hs:a.eval s=v) (hown:OwnPV w0 w base v ps) (g c:Nat) (y:PV) (hx:a.eval x = .slice (some ⟨g,0,none⟩) 1 c)
 (hy:w.heap[g]? = some (.cells y.cs.toArray 64 (0,0))) (hk:Rs w0 y.tv y.c.tl) (hl:ps.length+1≤1000000) (hbase:base≤w.heap.size)
 (h:∀ A c' w',OwnPV w0 w' base (.slice A (ps.length+1) c') (ps++[y])→w.grownBy w' v.ownBlock→K (a.put o.dst (.slice A (ps.length+1) c')) w') :
 if Region.wanted o (yielded ops a.tmps)=true then Oper.wp Tryz.prog o a w K Q else E:=by
 obtain ⟨i0,hi,hz0,hz1,hz2⟩:=info_parts inf66
 refine step_append_lies w hgd s x 58 ho base 64 i0 _ 4 48 Tryz.underlying58 hi hz0 hz1 hz2 rfl (by decide) v ps.length (pvcells ps) hs hown.row ⟨g,0,none⟩ 1 c y.cs hx (PV.len y) ?_ (pv_one hk) (by decide) (by unfold maxLen;omega) (by omega) hbase _ rfl (fun g' cap w' k2 k3 _ _ => ?_)
 · intro j u hj
   rw [add_zero_at]
   simp only [World.cell?,hy]
   simpa using hj
 · refine h _ _ w' ⟨by rw [List.length_append,pvcells_snoc];exact k2,fun z hz => ?_,hown.bel.grown k3 hown.bel.size fun k hk=>Nat.le_trans hown.lo (World.ownsRow.lt hown.row k hk).1,hown.lo⟩ k3
   rcases List.mem_append.1 hz with hz | hz
   · exact hown.ok z hz
   · simp only [List.mem_singleton] at hz
     subst hz
     exact hk
theorem OwnPV.rob {w0 w:World} {base n:Nat} {v:Value} {ps:List PV} (h:OwnPV w0 w base v ps) (hn:n≤base):Rob (fun k=>w0.heap.size≤k∧k<n) w fun W=>PR W v (ps.map PV.c):=fun W hf=>by
 rcases h.row.2 with ⟨rfl,e⟩ | ⟨g,cap,cur,rfl,hg,k2,hc,_⟩
 · have:ps=[]:=List.eq_nil_of_length_eq_zero (by omega)
   subst this
   exact ⟨none,0,rfl,Nat.le_refl _,.inl rfl⟩
 · refine ⟨_,cap,by rw [List.length_map],by rw [List.length_map];exact hc,.inr ⟨g,0,rfl,fun j hj => ?_⟩⟩
   have hj':j<ps.length:=by simpa using hj
   have e:(ps.map PV.c)[j]'hj=ps[j].c:=by simp
   rw [e]
   have hx:=h.ok _ (List.getElem_mem hj')
   have hgl:g<w.heap.size:=(Array.getElem?_eq_some_iff.1 k2).1
   have cel:∀ (i:Nat) (u:Value),(ps[j].cs)[i]? = some u→W.cell? ⟨g,0+j*4+i,none⟩=some u:=fun i u hu=>by
    have hi:i<4:=by have:=(List.getElem?_eq_some_iff.1 hu).1;simpa [PV.cs] using this
    have:=World.ownsRow.cells h.row rfl (j*4+i) u (by rw [pvcells_at hj' hi];exact hu)
    rw [add_zero_at] at this
    rw [Nat.zero_add]
    exact (cell_eqb (a:=⟨g,j*4+i,none⟩) (hf.block g hgl fun e=>by omega)).trans this
   refine ⟨ps[j].tv,cel 0 _ rfl,cel 1 _ rfl,cel 2 _ rfl,cel 3 _ rfl,hx.same fun g2 o2 n2 c2 e2 hn2 hg2 => ?_⟩
   exact (hf.block g2 (Nat.lt_of_lt_of_le hg2 h.bel.size) fun e=>by omega).trans (h.bel.block g2 hg2)
def resT (r:Rl) (k:Nat):List Pc:=(List.range k).map fun p=>restP r (r.key.getD p []) p
def turnR (r:Rl):Rl:=⟨r.bg,r.en,r.key.length,r.ante,img r,r.post,resT r r.key.length⟩
theorem resT_succ (r:Rl) (k:Nat):resT r (k+1)=resT r k++[restP r (r.key.getD k []) k]:=by
 unfold resT
 rw [List.range_succ,List.map_append]
 rfl
structure BkI (w0 W3 wr:World) (B:Nat) (r:Rl) (av iv pv xv:Value) (n:Nat) (ps:List PV):Prop where
 own:OwnPV w0 wr (B+1) xv ps
 blk:wr.heap[B]? = some (.cells #[.bool r.bg,av,iv,pv,.bool r.en,xv,.int .i64 n] 60 (0,0))
 bel:Below B W3 wr
theorem BkI.below {w0 W3 wr w':World} {B:Nat} {r:Rl} {av iv pv xv:Value} {n:Nat} {ps:List PV} (h:BkI w0 W3 wr B r av iv pv xv n ps) (hb:Below wr.heap.size wr w'):BkI w0 W3 w' B r av iv pv xv n ps:=
 ⟨h.own.below hb (Nat.le_refl _),(hb.block B (blk_lt h.blk)).trans h.blk,h.bel.trans (hb.mono (Nat.le_of_lt (blk_lt h.blk)))⟩
theorem BkI.more {w0 W3 wr w8:World} {B:Nat} {r:Rl} {av iv pv xv:Value} {n:Nat} {ps:List PV} (h:BkI w0 W3 wr B r av iv pv xv n ps) (hg:wr.grownBy w8 xv.ownBlock) {xv':Value} {y:PV} (hO:OwnPV w0 w8 (B+1) xv' (ps++[y])) (h0:w0.heap.size≤B) :
 w8.cell? ⟨B,5,none⟩=some xv∧w8.frozen? ⟨B,5,none⟩=false∧BkI w0 W3 (w8.setCell ⟨B,5,none⟩ xv') B r av iv pv xv' n (ps++[y]):=by
 have hlo:=World.ownsRow.lt h.own.row
 have hbk:w8.heap[B]? = some (.cells #[.bool r.bg,av,iv,pv,.bool r.en,xv,.int .i64 n] 60 (0,0)):=(hg.block B (blk_lt h.blk) fun e=>by have:=(hlo B e.symm).1;omega).trans h.blk
 have hne:∀ g,g≠B→(w8.setCell ⟨B,5,none⟩ xv').heap[g]? = w8.heap[g]? := fun g hg=>Below.heap_setCell w8 ⟨B,5,none⟩ xv' g hg
 refine ⟨by rw [cell_of hbk];rfl,free_of hbk,⟨⟨hO.row.1,?_⟩,hO.ok,hO.bel.setCell h0 _,hO.lo⟩,by rw [set_heap hbk];rfl,?_⟩
 · refine hO.row.2.imp id ?_
   rintro ⟨g,cap,cur,e1,k1,k2,k3⟩
   exact ⟨g,cap,cur,e1,k1,(hne g (by omega)).trans k2,k3⟩
 · exact (h.bel.grown hg (Nat.le_trans (Nat.le_of_lt (blk_lt h.blk)) (Nat.le_refl _)) fun k hk=>by have:=(hlo k hk).1;omega).setCell (Nat.le_refl _) _
def BackQ (w0 w:World) (r:Rl) (av pv iv:Value) (e:Ending) (w':World):Prop:=∃ y1 y2 y3,e = .returned (.agg #[.bool r.bg,av,iv,pv,.bool r.en,.slice y1 y2 y3,.int .i64 r.key.length])∧Rob (fun k=>w0.heap.size≤k∧k<w.heap.size) w' (fun W=>PR W (.slice y1 y2 y3) (resT r r.key.length))∧Below w.heap.size w w'
theorem ret_rl38 {tmps:Array Value} {W:World} {B:Nat} {a b c d e f g:Value} {R:Ending→World→Prop} (hp:tmps.getD 2 undef = .pointer (some ⟨B,0,none⟩)) (hb:W.heap[B]? = some (.cells #[a,b,c,d,e,f,g] 60 (0,0)))
 (K:R (.returned (.agg #[a,b,c,d,e,f,g])) W):bodyPost Tryz.prog Tryz.f38 R Exit.ret { tmps:=tmps,defers:=[] } W:=
 bodyPost_ret (v := .agg #[a,b,c,d,e,f,g]) (results_cell_row rfl tmps W B 60 _ _ _ hp hb Tryz.underlying60 rfl (by kernel_rfl)) rfl K
theorem set_seven {W:World} {B:Nat} {a b c d e f g a' b' c' d' e' f' g':Value} (h:W.heap[B]? = some (.cells #[a,b,c,d,e,f,g] 60 (0,0))):(((((((W.setCell ⟨B,0,none⟩ a').setCell ⟨B,1,none⟩ b').setCell ⟨B,2,none⟩ c').setCell ⟨B,3,none⟩ d').setCell ⟨B,4,none⟩ e').setCell ⟨B,5,none⟩ f').setCell ⟨B,6,none⟩ g').heap[B]? = some (.cells #[a',b',c',d',e',f',g'] 60 (0,0)):=by
 rw [set_heap (set_heap (set_heap (set_heap (set_heap (set_heap (set_heap h))))))]
 rfl
theorem set_seven_fr (W:World) (B:Nat) (a' b' c' d' e' f' g':Value):Fr W (((((((W.setCell ⟨B,0,none⟩ a').setCell ⟨B,1,none⟩ b').setCell ⟨B,2,none⟩ c').setCell ⟨B,3,none⟩ d').setCell ⟨B,4,none⟩ e').setCell ⟨B,5,none⟩ f').setCell ⟨B,6,none⟩ g') fun k=>k=B:=
 ((((((fr_set W B 0 a').trans (fr_set _ B 1 b') fun _ _ e=>e).trans (fr_set _ B 2 c') fun _ _ e=>e).trans (fr_set _ B 3 d') fun _ _ e=>e).trans (fr_set _ B 4 e') fun _ _ e=>e).trans (fr_set _ B 5 f') fun _ _ e=>e).trans (fr_set _ B 6 g') fun _ _ e=>e
end Go.Proofs
