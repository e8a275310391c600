/-
  Several texts in one (Yir Yjr).
-/
import Derived.Test.YtcfcjljapamcoabGreatDoorMplr
namespace Go.Proofs
open Go.RowKit Go.Shelf
set_option maxRecDepth 100000
attribute [local go_sem] Oper.semAt_some
theorem idxT0 (w:World):(Instr.index 84 (.agg #[.int .i64 0,.int .i64 55295,.int .i64 57344,.int .i64 1114111,.int .i64 1114240,.int .i64 1114367]) (.int .i64 0)).run Tryz.prog w = .ok (.agg #[.int .i64 0,.int .i64 55295]) w:=by kernel_rfl
theorem idxT1 (w:World):(Instr.index 84 (.agg #[.int .i64 0,.int .i64 55295,.int .i64 57344,.int .i64 1114111,.int .i64 1114240,.int .i64 1114367]) (.int .i64 1)).run Tryz.prog w = .ok (.agg #[.int .i64 57344,.int .i64 1114111]) w:=by kernel_rfl
theorem idxT2 (w:World):(Instr.index 84 (.agg #[.int .i64 0,.int .i64 55295,.int .i64 57344,.int .i64 1114111,.int .i64 1114240,.int .i64 1114367]) (.int .i64 2)).run Tryz.prog w = .ok (.agg #[.int .i64 1114240,.int .i64 1114367]) w:=by kernel_rfl
set_option maxHeartbeats 1000000 in
theorem setAny_any (w:World) (hT:Tab w):Calls Tryz.prog 23 #[] w fun e w'=>∃ v,e = .returned v∧OwnR w' w.heap.size v allU∧Below w.heap.size w w':=by
 have t0:=hT.cell 0 (.int .i64 0) rfl
 have t1:=hT.cell 1 (.int .i64 55295) rfl
 have t2:=hT.cell 2 (.int .i64 57344) rfl
 have t3:=hT.cell 3 (.int .i64 1114111) rfl
 have t4:=hT.cell 4 (.int .i64 1114240) rfl
 have t5:=hT.cell 5 (.int .i64 1114367) rfl
 go_enter Tryz.func23,Tryz.ntmps23
 go_wp2
 clear t0 t1 t2 t3 t4 t5
 go_loopw [1,5] (fun vs vi wr=>∃ k:Nat,vi = .int .i64 k∧k≤3∧OwnR wr w.heap.size vs (allU.take k)∧Below w.heap.size w wr) (fun _ vi _=>3 - (intOf vi).toNat)
 case atStart=>exact ⟨0,rfl,by omega,OwnR.nil _ _,Below.refl _ _⟩
 case round=>
  obtain ⟨k,rfl,hk,hO,hB⟩:=hrel
  have hz:=hB.size
  have hk5:k=0∨k=1∨k=2∨k=3:=by omega
  rcases hk5 with rfl | rfl | rfl | rfl
  · have hix:=idxT0
    go_wp2_with (at_builtin;go_must (refine push_R rfl _ _ 39 rfl Tryz.underlying39 w.heap.size _ _ rfl ((hO.alloc _).alloc _) _ _ 0 55295 rfl (by simp) (by simp) (by decide) (by simp;omega) ?_);intro v' w1 hO1 _ hb1)
    exact ⟨⟨1,rfl,by omega,hO1,((hB.alloc hz _).alloc (by simp;omega) _).trans hb1⟩,by simp [intOf]⟩
  · have hix:=idxT1
    go_wp2_with (at_builtin;go_must (refine push_R rfl _ _ 39 rfl Tryz.underlying39 w.heap.size _ _ rfl ((hO.alloc _).alloc _) _ _ 57344 1114111 rfl (by simp) (by simp) (by decide) (by simp;omega) ?_);intro v' w1 hO1 _ hb1)
    exact ⟨⟨2,rfl,by omega,hO1,((hB.alloc hz _).alloc (by simp;omega) _).trans hb1⟩,by simp [intOf]⟩
  · have hix:=idxT2
    go_wp2_with (at_builtin;go_must (refine push_R rfl _ _ 39 rfl Tryz.underlying39 w.heap.size _ _ rfl ((hO.alloc _).alloc _) _ _ 1114240 1114367 rfl (by simp) (by simp) (by decide) (by simp;omega) ?_);intro v' w1 hO1 _ hb1)
    exact ⟨⟨3,rfl,by omega,hO1,((hB.alloc hz _).alloc (by simp;omega) _).trans hb1⟩,by simp [intOf]⟩
  · go_wp2
    go_ret
    exact ⟨_,rfl,hO,hB⟩
theorem rg_sliceT {w:World} {g o:Nat} {l:List (Int × Int)} (h:Reads w g o l) (a:Nat):Reads w g (o+a*2) (l.drop a):=fun j hj=>by
 rw [List.length_drop] at hj
 have:=h (a+j) (by omega)
 rw [show rg (l.drop a) j=rg l (a+j) by simp only [rg];rw [List.getElem?_drop],show o+a*2+j*2=o+(a+j)*2 by omega]
 exact this
set_option maxHeartbeats 1000000 in
theorem setStrays_any (w:World) (hT:Tab w):Calls Tryz.prog 79 #[] w fun e w'=>∃ v,e = .returned v∧Rs w' v [(1114240,1114367)]∧Below w.heap.size w w':=by
 have HC:Hid (Calls Tryz.prog 23 #[] w fun e w'=>∃ v,e = .returned v∧OwnR w' w.heap.size v allU∧Below w.heap.size w w'):=setAny_any w hT
 go_enter Tryz.func79,Tryz.ntmps79
 go_wp2_with fail
 refine HC.out.mono ?_
 rintro e w1 ⟨v,rfl,hO,hB⟩
 obtain ⟨g,cap,rfl⟩:=Joins.ownsRow_form hO (by decide)
 have hr:=OwnR.rs hO
 have hcp:3≤cap:=by obtain ⟨_,_,hs,hcp,_⟩:=hr;cases hs;exact hcp
 have hr2:=rg_sliceT (OwnR.reads hO) 2
 have hc2:(3:Int)≤(cap:Int):=by omega
 clear hO hr
 go_wp2
 go_ret
 exact ⟨_,rfl,⟨_,1,rfl,Nat.le_refl _,.inr ⟨g,4,rfl,hr2⟩⟩,hB⟩
end Go.Proofs
namespace Go.Proofs
open Go.RowKit Go.Shelf
set_option maxRecDepth 100000
attribute [local go_sem] Oper.semAt_some
def plcB (r:Rl) (s:List (Int × Int)) (p:Nat):Bool:=decide (lenU s=1) || decide ((spk r p r.res.length).length=1)
def telB (r:Rl) (k:Nat):Bool:=(List.range k).all fun p=>match r.key[p]? with | some s=>plcB r s p | none=>true
theorem telB_succ (r:Rl) {k:Nat} {s:List (Int × Int)} (h:r.key[k]? = some s):telB r (k+1)=(telB r k && plcB r s k):=by
 unfold telB
 rw [List.range_succ,List.all_append]
 simp [h]
theorem telB_no (r:Rl) {k:Nat} {s:List (Int × Int)} (h:r.key[k]? = some s) (hp:plcB r s k=false):telB r r.key.length=false:=by
 unfold telB
 rw [List.all_eq_false]
 exact ⟨k,List.mem_range.2 (List.getElem?_eq_some_iff.1 h).1,by rw [h];simp [hp]⟩
theorem spk_len (r:Rl) (y:Int) (k:Nat):(spk r y k).length≤k:=by
 unfold spk
 rw [List.length_map]
 exact Nat.le_trans (List.length_filter_le _ _) (by simp)
set_option maxHeartbeats 8000000 in
theorem tells_any (r:Rl) (av kv pv rv iv:Value) (w:World) (hT:Tab w) (h:WyC w r av kv pv rv iv) (hn:r.res.length≤16) (hk8:r.key.length≤8):Calls Tryz.prog 80 #[wyVal r av kv pv rv iv] w fun e w'=>e = .returned (.bool (telB r r.key.length))∧Below w.heap.size w w':=by
 have HSP:Hid (∀ W y,Below w.heap.size w W→Calls Tryz.prog 90 #[wyVal r av kv pv rv iv,.int .i64 y] W (SpkQ W r y)):=fun W y hb=>speakers_any r av kv pv rv iv y W (h.below hb (Nat.le_refl _)) hn
 have HLO:Hid (∀ W sv s,Below w.heap.size w W→Rs w sv s→Calls Tryz.prog 89 #[sv] W fun e w'=>e = .returned (.bool (decide (lenU s=1)))∧Grown W w'):=fun W sv s hb hs=>lone_any sv s W (fun j v hv=>cell_below (hT j v hv) hb (Nat.le_refl _)) (hs.below hb (Nat.le_refl _))
 obtain ⟨aa,an,ac,rfl⟩:=h.rr.a.sl
 obtain ⟨ka,kc,rfl,hkc,hkr⟩:=h.rr.k
 obtain ⟨pa,pn,pc,rfl⟩:=h.rr.p.sl
 obtain ⟨ra,rn,rc,rfl⟩:=h.rr.r.sl
 obtain ⟨ia,im,ic,rfl⟩:=h.im.sl
 obtain ⟨n,hnn⟩:∃ n,r.key.length=n:=⟨_,rfl⟩
 have H:Hid (r.key.length=n∧(r.key=[]∨∃ g o,ka=some ⟨g,o,none⟩∧SRd w g o r.key)):=⟨hnn,hkr⟩
 rw [hnn] at hk8 ⊢
 obtain ⟨M,hM⟩:∃ M,telB r n=M:=⟨_,rfl⟩
 have HM:Hid (telB r n=M):=hM
 rw [hM]
 unfold wyVal at HSP ⊢
 rw [hnn] at HSP
 obtain ⟨W1,hW1⟩:∃ W1,w.alloc (.cells #[.bool r.bg,.slice aa an ac,.slice ka n kc,.slice pa pn pc,.bool r.en,.slice ra rn rc,.int .i64 r.cu,.slice ia im ic] 79)=W1:=⟨_,rfl⟩
 have HW:Hid (Below w.heap.size w W1):=by show Below _ _ _;rw [←hW1];exact (Below.refl _ w).alloc (Nat.le_refl _) _
 have hbk:W1.heap[w.heap.size]? = some (.cells #[.bool r.bg,.slice aa an ac,.slice ka n kc,.slice pa pn pc,.bool r.en,.slice ra rn rc,.int .i64 r.cu,.slice ia im ic] 79 (0,0)):=by rw [←hW1];exact World.alloc_heap_new _ _
 have hlt1:w.heap.size<W1.heap.size:=(Array.getElem?_eq_some_iff.1 hbk).1
 have x2:W1.cell? ⟨w.heap.size,2,none⟩=some (.slice ka n kc):=by rw [cell_of hbk];rfl
 have HBK:Hid (∀ W,Below W1.heap.size W1 W→∀ i v,(#[Value.bool r.bg,.slice aa an ac,.slice ka n kc,.slice pa pn pc,.bool r.en,.slice ra rn rc,.int .i64 r.cu,.slice ia im ic]:Array Value)[i]? = some v→W.cell? ⟨w.heap.size,i,none⟩=some v):=fun W hb i v hv=>by
  rw [cell_of ((hb.block _ hlt1).trans hbk)]
  exact hv
 clear h hnn hkc hkr hT hM hbk hlt1
 go_enter Tryz.func80,Tryz.ntmps80
 go_wp2
 go_loopw [9] (fun vi wr=>∃ k:Nat,vi = .int .i64 k∧k≤n∧Hid (Below W1.heap.size W1 wr∧telB r k=true)) (fun vi _=>n - (intOf vi).toNat)
 case atStart=>exact ⟨0,rfl,by omega,Below.refl _ _,rfl⟩
 case round=>
  obtain ⟨k,rfl,hk,HB⟩:=hrel
  by_cases hlt:k<n
  · have hlt':(k:Int)<(n:Int):=by omega
    have hpos:(0:Int)≤(k:Int):=by omega
    have hkl:k<r.key.length:=by rw [H.out.1];exact hlt
    obtain ⟨g,o,rfl,hr⟩:=H.out.2.resolve_left (by intro e;rw [e] at hkl;simp at hkl)
    obtain ⟨sv,cs,hs⟩:=hr k hkl
    have hbw:=HW.out.trans (HB.out.1.mono HW.out.size)
    have cs:=cell_below cs hbw (Nat.le_refl _)
    have hts:=telB_succ r (List.getElem?_eq_getElem hkl)
    have htn:=telB_no r (List.getElem?_eq_getElem hkl)
    obtain ⟨S,hSe⟩:∃ S,r.key[k]'hkl=S:=⟨_,rfl⟩
    rw [hSe] at hs hts htn
    rw [HB.out.2,Bool.true_and] at hts
    obtain ⟨sa,sn,sc,rfl⟩:=hs.sl
    obtain ⟨L,hL⟩:∃ L,decide (lenU S=1)=L:=⟨_,rfl⟩
    have HC:Hid (Calls Tryz.prog 89 #[.slice sa sn sc] wr fun e w'=>e = .returned (.bool L)∧Grown wr w'):=by
     have:=HLO.out wr _ S hbw hs
     rw [hL] at this
     exact this
    have HT:Hid (telB r (k+1)=plcB r S k∧(plcB r S k=false→M=false)∧decide (lenU S=1)=L∧Below w.heap.size w wr):=⟨hts,fun h=>by rw [←HM.out,←H.out.1];exact htn h,hL,hbw⟩
    clear hr hs hts htn hL hbw hSe hkl
    go_wp2_with fail
    refine HC.out.mono ?_
    rintro e w1 ⟨rfl,hg⟩
    have HB1:Hid (Below W1.heap.size W1 w1∧Below w.heap.size w w1):=⟨HB.out.1.trans (hg.below.mono HB.out.1.size),HT.out.2.2.2.trans (hg.below.mono HT.out.2.2.2.size)⟩
    clear hg HB HC
    cases L with
    | true=>
     have HF:Hid (Below W1.heap.size W1 w1∧telB r (k+1)=true):=⟨HB1.out.1,by rw [HT.out.1,plcB,HT.out.2.2.1];rfl⟩
     clear HB1 HT
     go_wp2
     exact ⟨⟨k+1,by go_num,by omega,HF⟩,by simp [intOf];omega⟩
    | false=>
     have q:=HBK.out w1 HB1.out.1
     have q0:=q 0 _ rfl
     have q1:=q 1 _ rfl
     have q2:=q 2 _ rfl
     have q3:=q 3 _ rfl
     have q4:=q 4 _ rfl
     have q5:=q 5 _ rfl
     have q6:=q 6 _ rfl
     have q7:=q 7 _ rfl
     clear q
     go_wp2_with fail
     refine (HSP.out w1 k HB1.out.2).mono ?_
     rintro e w2 ⟨v,rfl,hO,hb2⟩
     obtain ⟨va,vc,rfl,_⟩:=hO.ir
     have hsl:=spk_len r k r.res.length
     have HB2:Hid (Below W1.heap.size W1 w2∧Below w.heap.size w w2):=⟨HB1.out.1.trans (hb2.mono HB1.out.1.size),HB1.out.2.trans (hb2.mono HB1.out.2.size)⟩
     obtain ⟨m,hm⟩:∃ m,(spk r k r.res.length).length=m:=⟨_,rfl⟩
     have HMm:Hid ((spk r k r.res.length).length=m):=hm
     rw [hm] at hsl ⊢
     have hmI:(m:Int)≤16:=by omega
     clear hO hb2 hm hsl q0 q1 q2 q3 q4 q5 q6 q7 HB1
     by_cases h1:m=1
     · have d1:((m:Int) != 1)=false:=by simp [h1]
       have HF:Hid (Below W1.heap.size W1 w2∧telB r (k+1)=true):=⟨HB2.out.1,by rw [HT.out.1,plcB,HMm.out,h1];simp⟩
       clear HT h1
       go_wp2
       exact ⟨⟨k+1,by go_num,by omega,HF⟩,by simp [intOf];omega⟩
     · have d1:((m:Int) != 1)=true:=by simp;omega
       have HF:Hid (M=false):=HT.out.2.1 (by rw [plcB,HT.out.2.2.1,HMm.out];simp [h1])
       clear HT
       go_wp2
       go_ret
       exact ⟨by rw [HF.out];rfl,HB2.out.2⟩
  · have HF:Hid (M=true∧Below w.heap.size w wr):=by
     have h1:=HB.out.2
     rw [show k=n by omega,HM.out] at h1
     exact ⟨h1,HW.out.trans (HB.out.1.mono HW.out.size)⟩
    clear HB
    go_wp2
    go_ret
    exact ⟨by rw [HF.out.1];rfl,HF.out.2⟩
end Go.Proofs
