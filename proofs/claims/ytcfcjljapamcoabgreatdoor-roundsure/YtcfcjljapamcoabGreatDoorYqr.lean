/-
  restores 69: the piece that writes what stood at a place of the key.
-/
import Derived.Test.YtcfcjljapamcoabGreatDoorMpor
namespace Go.Proofs
open Go.RowKit Go.Shelf
set_option maxRecDepth 100000
attribute [local go_sem] Oper.semAt_some
def restP (r:Rl) (S:List (Int × Int)) (p:Nat):Pc:=
 if lenU S=1 then ⟨1,(rg S 0).1,0,[]⟩ else match (spk r p r.res.length).head? with
  | some n=>match r.res[n.toNat]? with
   | some q=>if q.k=3 then ⟨3,0,n,S⟩ else ⟨2,0,n,[]⟩
   | none=>⟨0,0,0,[]⟩
  | none=>⟨0,0,0,[]⟩
def RestQ (w:World) (kv:Value) (p:Nat) (S:List (Int × Int)) (c:Pc) (e:Ending) (w':World):Prop:=∃ tv,e = .returned (.agg #[.int .i64 c.k,.int .i64 c.u,.int .i64 c.y,tv])∧(tv = .slice none 0 0∧c.tl=[]∨c.tl=S∧∃ g o n cc,kv = .slice (some ⟨g,o,none⟩) n cc∧w.cell? ⟨g,o+p,none⟩=some tv)∧Below w.heap.size w w'
theorem ret_pc {tmps:Array Value} {W:World} {B:Nat} {a b c d:Value} {R:Ending→World→Prop} (hp:tmps.getD 4 undef = .pointer (some ⟨B,0,none⟩)) (hb:W.heap[B]? = some (.cells #[a,b,c,d] 58 (0,0)))
 (K:R (.returned (.agg #[a,b,c,d])) W):bodyPost Tryz.prog Tryz.f61 R Exit.ret { tmps:=tmps,defers:=[] } W:=
 bodyPost_ret (v := .agg #[a,b,c,d]) (results_cell_row rfl tmps W B 58 _ _ _ hp hb Tryz.underlying58 rfl (by kernel_rfl)) rfl K
theorem set_four {W:World} {B:Nat} {a b c d a' b' c' d':Value} (h:W.heap[B]? = some (.cells #[a,b,c,d] 58 (0,0))):((((W.setCell ⟨B,0,none⟩ a').setCell ⟨B,1,none⟩ b').setCell ⟨B,2,none⟩ c').setCell ⟨B,3,none⟩ d').heap[B]? = some (.cells #[a',b',c',d'] 58 (0,0)):=by
 rw [set_heap (set_heap (set_heap (set_heap h)))]
 rfl
theorem spk_at {r:Rl} {y:Int} {n:Int} (h:n∈spk r y r.res.length):∃ (k:Nat) (q:Pc),n=k∧r.res[k]? = some q:=by
 unfold spk at h
 obtain ⟨k,hk,rfl⟩:=List.mem_map.1 h
 obtain ⟨h1,h2⟩:=List.mem_filter.1 hk
 have h3:=List.mem_range.1 h1
 exact ⟨k,_,rfl,List.getElem?_eq_getElem h3⟩
set_option maxHeartbeats 8000000 in
theorem restores_any (r:Rl) (av kv pv rv iv:Value) (p:Nat) (S:List (Int × Int)) (w:World) (hT:Tab w) (h:WyC w r av kv pv rv iv) (ho:Ok r) (hS:r.key[p]? = some S) (hp:plcB r S p=true) :
 Calls Tryz.prog 61 #[wyVal r av kv pv rv iv,.int .i64 p] w (RestQ w kv p S (restP r S p)):=by
 have HSP:Hid (∀ W,Below w.heap.size w W→Calls Tryz.prog 90 #[wyVal r av kv pv rv iv,.int .i64 p] W (SpkQ W r p)):=fun W hb=>speakers_any r av kv pv rv iv p W (h.below hb (Nat.le_refl _)) ho.r16
 obtain ⟨aa,an,ac,rfl⟩:=h.rr.a.sl
 obtain ⟨ka,kc,rfl,hkc,hkr⟩:=h.rr.k
 obtain ⟨pa,pn,pc,rfl⟩:=h.rr.p.sl
 obtain ⟨ra,rc,rfl,hrc,hrr⟩:=h.rr.r
 obtain ⟨ia,im,ic,rfl⟩:=h.im.sl
 obtain ⟨hpl,hpe⟩:=List.getElem?_eq_some_iff.1 hS
 obtain ⟨kg,ko,rfl,hkrd⟩:=hkr.resolve_left (by intro e;rw [e] at hpl;simp at hpl)
 obtain ⟨sv,hsc,hss⟩:=hkrd p hpl
 rw [hpe] at hss
 obtain ⟨kn,hkn⟩:∃ kn,r.key.length=kn:=⟨_,rfl⟩
 obtain ⟨rn,hrn⟩:∃ rn,r.res.length=rn:=⟨_,rfl⟩
 have hk8:(kn:Int)≤8:=by have:=ho.k8;omega
 have hpI:(p:Int)<(kn:Int):=by omega
 have hp0:(0:Int)≤(p:Int):=by omega
 have HLO:Hid (∀ W,Below w.heap.size w W→Calls Tryz.prog 89 #[sv] W fun e w'=>e = .returned (.bool (decide (lenU S=1)))∧Grown W w'):=fun W hb=>lone_any sv S W (fun j v hv=>cell_below (hT j v hv) hb (Nat.le_refl _)) (hss.below hb (Nat.le_refl _))
 obtain ⟨sa,sc,rfl,hscap,hsr⟩:=hss
 obtain ⟨sn,hsn⟩:∃ sn,S.length=sn:=⟨_,rfl⟩
 have H:Hid (plcB r S p=true∧r.res.length=rn∧S.length=sn∧sn≤sc∧(S=[]∨∃ g o,sa=some ⟨g,o,none⟩∧Reads w g o S)∧(r.res=[]∨∃ g o,ra=some ⟨g,o,none⟩∧PRd w g o r.res)∧rn≤16∧w.cell? ⟨kg,ko+p,none⟩=some (.slice sa S.length sc)):=⟨hp,hrn,hsn,by omega,hsr,hrr,by rw [←hrn];exact ho.r16,hsc⟩
 obtain ⟨c,hc⟩:∃ c,restP r S p=c:=⟨_,rfl⟩
 have HC:Hid (restP r S p=c):=hc
 rw [hc]
 obtain ⟨L,hL⟩:∃ L,decide (lenU S=1)=L:=⟨_,rfl⟩
 have HL:Hid (decide (lenU S=1)=L):=hL
 unfold wyVal at HSP ⊢
 rw [hsn,hL] at HLO
 rw [hkn,hrn] at HSP
 rw [hsn] at hsc
 rw [hkn,hrn]
 obtain ⟨W2,hW2⟩:∃ W2,(w.alloc (.cells #[.bool r.bg,.slice aa an ac,.slice (some ⟨kg,ko,none⟩) kn kc,.slice pa pn pc,.bool r.en,.slice ra rn rc,.int .i64 r.cu,.slice ia im ic] 79)).alloc (.cells #[.int .i64 0,.int .i64 0,.int .i64 0,.slice none 0 0] 58)=W2:=⟨_,rfl⟩
 have hb1:Below w.heap.size w (w.alloc (.cells #[.bool r.bg,.slice aa an ac,.slice (some ⟨kg,ko,none⟩) kn kc,.slice pa pn pc,.bool r.en,.slice ra rn rc,.int .i64 r.cu,.slice ia im ic] 79)):=(Below.refl _ w).alloc (Nat.le_refl _) _
 have hb:Below w.heap.size w W2:=by rw [←hW2];exact hb1.alloc hb1.size _
 have hk1:W2.heap[w.heap.size]? = some (.cells #[.bool r.bg,.slice aa an ac,.slice (some ⟨kg,ko,none⟩) kn kc,.slice pa pn pc,.bool r.en,.slice ra rn rc,.int .i64 r.cu,.slice ia im ic] 79 (0,0)):=by
  rw [←hW2]
  exact ((((Below.refl _ _).alloc (Nat.le_refl _) _):Below (w.alloc (.cells #[.bool r.bg,.slice aa an ac,.slice (some ⟨kg,ko,none⟩) kn kc,.slice pa pn pc,.bool r.en,.slice ra rn rc,.int .i64 r.cu,.slice ia im ic] 79)).heap.size _ _).block _ (by simp)).trans (World.alloc_heap_new _ _)
 have hk2:W2.heap[w.heap.size+1]? = some (.cells #[.int .i64 0,.int .i64 0,.int .i64 0,.slice none 0 0] 58 (0,0)):=by
  rw [←hW2]
  have:=World.alloc_heap_new (w.alloc (.cells #[.bool r.bg,.slice aa an ac,.slice (some ⟨kg,ko,none⟩) kn kc,.slice pa pn pc,.bool r.en,.slice ra rn rc,.int .i64 r.cu,.slice ia im ic] 79)) (.cells #[.int .i64 0,.int .i64 0,.int .i64 0,.slice none 0 0] 58)
  simpa using this
 have hl1:=(Array.getElem?_eq_some_iff.1 hk1).1
 have hl2:=(Array.getElem?_eq_some_iff.1 hk2).1
 have HK:Hid (Below w.heap.size w W2∧(∀ W,Below W2.heap.size W2 W→W.heap[w.heap.size]? = some (.cells #[.bool r.bg,.slice aa an ac,.slice (some ⟨kg,ko,none⟩) kn kc,.slice pa pn pc,.bool r.en,.slice ra rn rc,.int .i64 r.cu,.slice ia im ic] 79 (0,0)))∧(∀ W,Below W2.heap.size W2 W→W.heap[w.heap.size+1]? = some (.cells #[.int .i64 0,.int .i64 0,.int .i64 0,.slice none 0 0] 58 (0,0)))):=⟨hb,fun W hW=>(hW.block _ hl1).trans hk1,fun W hW=>(hW.block _ hl2).trans hk2⟩
 have x2:W2.cell? ⟨w.heap.size,2,none⟩=some (.slice (some ⟨kg,ko,none⟩) kn kc):=by rw [cell_of hk1];rfl
 have y0:=cell_below hsc hb (Nat.le_refl _)
 clear h ho hT hkr hkrd hpe hpl hS hp hsr hrr hc hL hb hb1 hk1 hk2 hl1 hl2 hsc hkc hrc hscap hsn hrn hkn
 go_enter Tryz.func61,Tryz.ntmps61
 go_wp2_with fail
 refine (HLO.out _ HK.out.1).mono ?_
 rintro e w3 ⟨rfl,hg3⟩
 have HB3:Hid (Below W2.heap.size W2 w3∧Below w.heap.size w w3):=⟨hg3.below,HK.out.1.trans (hg3.below.mono HK.out.1.size)⟩
 clear hg3 HLO x2 y0
 cases L with
 | true=>
  have hS0:S≠[]:=by
   rintro rfl
   have:=HL.out
   simp [lenU,tot] at this
  have hSl:0<S.length:=List.length_pos_iff.2 hS0
  obtain ⟨g,o,rfl,hr⟩:=H.out.2.2.2.2.1.resolve_left hS0
  obtain ⟨c1,_⟩:=hr 0 hSl
  have c1:=cell_below c1 HB3.out.2 (Nat.le_refl _)
  simp only [Nat.zero_mul,Nat.add_zero] at c1
  have hsn1:(0:Int)<(sn:Int):=by have:=H.out.2.2.1;omega
  have hb3:=HK.out.2.2 w3 HB3.out.1
  have f0:w3.frozen? ⟨w.heap.size+1,0,none⟩=false:=free_of hb3
  have f1:w3.frozen? ⟨w.heap.size+1,1,none⟩=false:=free_of hb3
  have f2:w3.frozen? ⟨w.heap.size+1,2,none⟩=false:=free_of hb3
  have f3:w3.frozen? ⟨w.heap.size+1,3,none⟩=false:=free_of hb3
  have z0:w3.cell? ⟨w.heap.size+1,0,none⟩=some (.int .i64 0):=by rw [cell_of hb3];rfl
  have z1:w3.cell? ⟨w.heap.size+1,1,none⟩=some (.int .i64 0):=by rw [cell_of hb3];rfl
  have z2:w3.cell? ⟨w.heap.size+1,2,none⟩=some (.int .i64 0):=by rw [cell_of hb3];rfl
  have z3:w3.cell? ⟨w.heap.size+1,3,none⟩=some (.slice none 0 0):=by rw [cell_of hb3];rfl
  have HCC:Hid (c=⟨1,(rg S 0).1,0,[]⟩):=by
   show c=_
   rw [←HC.out,restP,if_pos (of_decide_eq_true HL.out)]
  have hb4:=set_four (a' := .int .i64 1) (b' := .int .i64 (rg S 0).1) (c' := .int .i64 0) (d' := .slice none 0 0) hb3
  have HBB:Hid (((((w3.setCell ⟨w.heap.size+1,0,none⟩ (.int .i64 1)).setCell ⟨w.heap.size+1,1,none⟩ (.int .i64 (rg S 0).1)).setCell ⟨w.heap.size+1,2,none⟩ (.int .i64 0)).setCell ⟨w.heap.size+1,3,none⟩ (.slice none 0 0)).heap[w.heap.size+1]? = some (.cells #[.int .i64 1,.int .i64 (rg S 0).1,.int .i64 0,.slice none 0 0] 58 (0,0))):=hb4
  clear hb3 hb4 hr HC HL hSl hS0
  go_wp2
  refine ret_pc rfl HBB.out ?_
  have hcc:=HCC.out
  exact ⟨.slice none 0 0,by rw [hcc],.inl ⟨rfl,by rw [hcc]⟩,(((HB3.out.2.setCell (Nat.le_succ _) _).setCell (Nat.le_succ _) _).setCell (Nat.le_succ _) _).setCell (Nat.le_succ _) _⟩
 | false=>
  have hb3:=HK.out.2.1 w3 HB3.out.1
  have x0:w3.cell? ⟨w.heap.size,0,none⟩=some (.bool r.bg):=by rw [cell_of hb3];rfl
  have x1:w3.cell? ⟨w.heap.size,1,none⟩=some (.slice aa an ac):=by rw [cell_of hb3];rfl
  have x2:w3.cell? ⟨w.heap.size,2,none⟩=some (.slice (some ⟨kg,ko,none⟩) kn kc):=by rw [cell_of hb3];rfl
  have x3:w3.cell? ⟨w.heap.size,3,none⟩=some (.slice pa pn pc):=by rw [cell_of hb3];rfl
  have x4:w3.cell? ⟨w.heap.size,4,none⟩=some (.bool r.en):=by rw [cell_of hb3];rfl
  have x5:w3.cell? ⟨w.heap.size,5,none⟩=some (.slice ra rn rc):=by rw [cell_of hb3];rfl
  have x6:w3.cell? ⟨w.heap.size,6,none⟩=some (.int .i64 r.cu):=by rw [cell_of hb3];rfl
  have x7:w3.cell? ⟨w.heap.size,7,none⟩=some (.slice ia im ic):=by rw [cell_of hb3];rfl
  have hnl:¬ lenU S=1:=of_decide_eq_false HL.out
  have hone:(spk r p r.res.length).length=1:=by
   have:=H.out.1
   rw [plcB,HL.out,Bool.false_or] at this
   exact of_decide_eq_true this
  obtain ⟨y,hy⟩:=List.length_eq_one_iff.1 hone
  obtain ⟨k,q,hyk,hq⟩:=spk_at (r:=r) (y:=(p:Int)) (n:=y) (by rw [hy];simp)
  obtain ⟨hkl,hqe⟩:=List.getElem?_eq_some_iff.1 hq
  obtain ⟨qg,qo,rfl,hpr⟩:=H.out.2.2.2.2.2.1.resolve_left (by intro e;rw [e] at hkl;simp at hkl)
  obtain ⟨tv,p0,p1,p2,p3,p4⟩:=hpr k hkl
  rw [hqe] at p0
  have HCC:Hid (c=if q.k=3 then ⟨3,0,k,S⟩ else ⟨2,0,k,[]⟩):=by
   show c=_
   rw [←HC.out,restP,if_neg hnl,hy,hyk]
   simp only [List.head?_cons,Int.toNat_natCast,hq]
  have HY:Hid (spk r p r.res.length=[(k:Int)]∧w.cell? ⟨qg,qo+k*4,none⟩=some (.int .i64 q.k)):=⟨by rw [hy,hyk],p0⟩
  have hkn:(k:Int)<(rn:Int):=by have:=H.out.2.1;omega
  have hk0:(0:Int)≤(k:Int):=by omega
  have hrI:(rn:Int)≤16:=by have:=H.out.2.2.2.2.2.2.1;omega
  clear hb3 hnl hone p1 p2 p3 p4 p0 hy hyk hq hqe hpr hkl tv HC HL
  go_wp2_with fail
  refine (HSP.out w3 HB3.out.2).mono ?_
  rintro e w4 ⟨v,rfl,hO,hb4⟩
  have HB4:Hid (Below W2.heap.size W2 w4∧Below w.heap.size w w4):=⟨HB3.out.1.trans (hb4.mono HB3.out.1.size),HB3.out.2.trans (hb4.mono HB3.out.2.size)⟩
  rw [HY.out.1] at hO
  obtain ⟨va,vc,rfl,hvc,hvr⟩:=hO.ir
  obtain ⟨vg,vo,rfl,hvd⟩:=hvr.resolve_left (by simp)
  have c0:=hvd 0 (by simp)
  simp only [List.getElem_cons_zero,Nat.add_zero] at c0
  have hb5:=HK.out.2.1 w4 HB4.out.1
  have x5:w4.cell? ⟨w.heap.size,5,none⟩=some (.slice (some ⟨qg,qo,none⟩) rn rc):=by rw [cell_of hb5];rfl
  have c1:=cell_below HY.out.2 HB4.out.2 (Nat.le_refl _)
  have hb6:=HK.out.2.2 w4 HB4.out.1
  have f0:w4.frozen? ⟨w.heap.size+1,0,none⟩=false:=free_of hb6
  have f1:w4.frozen? ⟨w.heap.size+1,1,none⟩=false:=free_of hb6
  have f2:w4.frozen? ⟨w.heap.size+1,2,none⟩=false:=free_of hb6
  have f3:w4.frozen? ⟨w.heap.size+1,3,none⟩=false:=free_of hb6
  have z0:w4.cell? ⟨w.heap.size+1,0,none⟩=some (.int .i64 0):=by rw [cell_of hb6];rfl
  have z1:w4.cell? ⟨w.heap.size+1,1,none⟩=some (.int .i64 0):=by rw [cell_of hb6];rfl
  have z2:w4.cell? ⟨w.heap.size+1,2,none⟩=some (.int .i64 0):=by rw [cell_of hb6];rfl
  have z3:w4.cell? ⟨w.heap.size+1,3,none⟩=some (.slice none 0 0):=by rw [cell_of hb6];rfl
  simp only [List.length_singleton] at *
  clear hO hb4 hvd hvr hb5 HSP x0 x1 x2 x3 x4 x6 x7 HB3
  by_cases h3:q.k=3
  · have d3:(q.k == 3)=true:=by simp [h3]
    have HBB:Hid (((((w4.setCell ⟨w.heap.size+1,0,none⟩ (.int .i64 3)).setCell ⟨w.heap.size+1,1,none⟩ (.int .i64 0)).setCell ⟨w.heap.size+1,2,none⟩ (.int .i64 k)).setCell ⟨w.heap.size+1,3,none⟩ (.slice sa sn sc)).heap[w.heap.size+1]? = some (.cells #[.int .i64 3,.int .i64 0,.int .i64 k,.slice sa sn sc] 58 (0,0))):=set_four hb6
    have HC3:Hid (c=⟨3,0,k,S⟩):=by
     show c=_
     rw [HCC.out,if_pos h3]
    clear hb6 h3 HCC
    go_wp2
    refine ret_pc rfl HBB.out ?_
    have hcc:=HC3.out
    have hbl:=(((HB4.out.2.setCell (p:=⟨w.heap.size+1,0,none⟩) (Nat.le_succ w.heap.size) (.int .i64 3)).setCell (p:=⟨w.heap.size+1,1,none⟩) (Nat.le_succ w.heap.size) (.int .i64 0)).setCell (p:=⟨w.heap.size+1,2,none⟩) (Nat.le_succ w.heap.size) (.int .i64 k)).setCell (p:=⟨w.heap.size+1,3,none⟩) (Nat.le_succ w.heap.size) (.slice sa sn sc)
    exact ⟨.slice sa sn sc,by rw [hcc],.inr ⟨by rw [hcc],_,_,_,_,rfl,by have:=H.out.2.2.2.2.2.2.2;rw [H.out.2.2.1] at this;exact this⟩,hbl⟩
  · have d3:(q.k == 3)=false:=by simp [h3]
    have HBB:Hid (((((w4.setCell ⟨w.heap.size+1,0,none⟩ (.int .i64 2)).setCell ⟨w.heap.size+1,1,none⟩ (.int .i64 0)).setCell ⟨w.heap.size+1,2,none⟩ (.int .i64 k)).setCell ⟨w.heap.size+1,3,none⟩ (.slice none 0 0)).heap[w.heap.size+1]? = some (.cells #[.int .i64 2,.int .i64 0,.int .i64 k,.slice none 0 0] 58 (0,0))):=set_four hb6
    have HC3:Hid (c=⟨2,0,k,[]⟩):=by
     show c=_
     rw [HCC.out,if_neg h3]
    clear hb6 h3 HCC
    go_wp2
    refine ret_pc rfl HBB.out ?_
    have hcc:=HC3.out
    exact ⟨.slice none 0 0,by rw [hcc],.inl ⟨rfl,by rw [hcc]⟩,(((HB4.out.2.setCell (Nat.le_succ _) _).setCell (Nat.le_succ _) _).setCell (Nat.le_succ _) _).setCell (Nat.le_succ _) _⟩
end Go.Proofs
