/-
  Several texts in one (Ylr Ymr).
-/
import Derived.Test.YtcfcjljapamcoabGreatDoorYkr
import Derived.Test.YtcfcjljapamcoabGreatDoorMgir
namespace Go.Proofs
open Go.RowKit Go.Shelf
set_option maxRecDepth 100000
attribute [local go_sem] Oper.semAt_some
theorem sr_none (w:World):SR w (.slice none 0 0) []:=⟨none,0,rfl,Nat.le_refl _,.inl rfl⟩
theorem RR.bare {w:World} {av kv pv rv:Value} {r:Rl} (h:RR w av kv pv rv r):RR w (.slice none 0 0) kv (.slice none 0 0) rv ⟨false,false,0,[],r.key,[],r.res⟩:=⟨sr_none w,h.k,sr_none w,h.r⟩
theorem bare_same (a b:Rl):decide ((⟨false,false,0,[],a.key,[],a.res⟩:Rl)=⟨false,false,0,[],b.key,[],b.res⟩)=decide (a.key=b.key∧a.res=b.res):=by
 apply decide_eq_decide.2
 constructor
 · intro h
   injection h with _ _ _ _ h5 _ h7
   exact ⟨h5,h7⟩
 · rintro ⟨h1,h2⟩
   rw [h1,h2]
set_option maxHeartbeats 4000000 in
theorem alike_any (a b:Rl) (aa ak ap ar ba bk bp br:Value) (w:World) (ha:RR w aa ak ap ar a) (hb:RR w ba bk bp br b) (hs:Sz a) :
 Calls Tryz.prog 83 #[.agg #[.bool a.bg,aa,ak,ap,.bool a.en,ar,.int .i64 a.cu],.agg #[.bool b.bg,ba,bk,bp,.bool b.en,br,.int .i64 b.cu]] w fun e w'=>e = .returned (.bool (decide (a.key=b.key∧a.res=b.res)))∧Below w.heap.size w w':=by
 have HS:Hid (∀ W,Grown w W→Calls Tryz.prog 106 #[.agg #[.bool false,.slice none 0 0,ak,.slice none 0 0,.bool false,ar,.int .i64 0],.agg #[.bool false,.slice none 0 0,bk,.slice none 0 0,.bool false,br,.int .i64 0]] W fun e w'=>e = .returned (.bool (decide (a.key=b.key∧a.res=b.res)))∧Grown W w'):=fun W hG=>by
  have:=same_any _ _ _ _ _ _ _ _ _ _ W (ha.grown hG).bare (hb.grown hG).bare ⟨by simp,by simp,hs.nk,hs.sk,by simp,by simp,hs.nr,hs.sr⟩
  rw [bare_same] at this
  exact this
 obtain ⟨a1,a2,a3,rfl⟩:=ha.a.sl
 obtain ⟨a4,a5,a6,rfl⟩:=ha.k.sl
 obtain ⟨a7,a8,a9,rfl⟩:=ha.p.sl
 obtain ⟨c1,c2,c3,rfl⟩:=ha.r.sl
 obtain ⟨b1,b2,b3,rfl⟩:=hb.a.sl
 obtain ⟨b4,b5,b6,rfl⟩:=hb.k.sl
 obtain ⟨b7,b8,b9,rfl⟩:=hb.p.sl
 obtain ⟨d1,d2,d3,rfl⟩:=hb.r.sl
 clear ha hb hs
 generalize decide (a.key=b.key∧a.res=b.res)=Q at HS
 go_enter Tryz.func83,Tryz.ntmps83
 go_wp2_with fail
 refine (HS.out _ (((Grown.refl _).alloc _).alloc _)).mono ?_
 rintro e w1 ⟨rfl,hg⟩
 go_wp2
 go_ret
 exact ⟨rfl,((((Grown.refl w).alloc _).alloc _).trans hg).below⟩
def mtB (a b:List (List (Int × Int))) (k:Nat):Bool:=(List.range k).all fun i=>match a[i]?,b[i]? with | some x,some y=>metB x y | _,_=>true
theorem mtB_succ {a b:List (List (Int × Int))} {k:Nat} (h1:k<a.length) (h2:k<b.length):mtB a b (k+1)=(mtB a b k && metB a[k] b[k]):=by
 unfold mtB
 rw [List.range_succ,List.all_append]
 simp [List.getElem?_eq_getElem h1,List.getElem?_eq_getElem h2]
theorem mtB_no {a b:List (List (Int × Int))} {k n:Nat} (h1:k<a.length) (h2:k<b.length) (hn:k<n) (hm:metB a[k] b[k]=false):mtB a b n=false:=by
 unfold mtB
 rw [List.all_eq_false]
 exact ⟨k,List.mem_range.2 hn,by simp [List.getElem?_eq_getElem h1,List.getElem?_eq_getElem h2,hm]⟩
set_option maxHeartbeats 4000000 in
theorem eqM_walk (A B:Option Addr) (c d n:Nat) (a b:List (List (Int × Int))) (w:World) (h1:a=[]∨∃ g o,A=some ⟨g,o,none⟩∧SRd w g o a) (h2:b=[]∨∃ g o,B=some ⟨g,o,none⟩∧SRd w g o b) (ha:n≤a.length) (hb:n≤b.length) (hn:n≤1000000) (hs:∀ l∈a,Up l∧l.length≤10000000) (ht:∀ l∈b,Up l∧l.length≤10000000) :
 Calls Tryz.prog 81 #[.slice A n c,.slice B n d,.func (.func 82) #[] #[]] w fun e w'=>e = .returned (.bool (mtB a b n))∧Below w.heap.size w w':=by
 have HA:Hid (n≤a.length):=ha
 have HB:Hid (n≤b.length):=hb
 have HSm:Hid ((∀ l∈a,Up l∧l.length≤10000000)∧∀ l∈b,Up l∧l.length≤10000000):=⟨hs,ht⟩
 obtain ⟨r,hr⟩:∃ r:Bool,mtB a b n=r:=⟨_,rfl⟩
 have HR:Hid (mtB a b n=r):=hr
 have H1:Hid (a=[]∨∃ g o,A=some ⟨g,o,none⟩∧SRd w g o a):=h1
 have H2:Hid (b=[]∨∃ g o,B=some ⟨g,o,none⟩∧SRd w g o b):=h2
 rw [hr]
 have hm:=mixed
 clear hr h1 h2 hs ht ha hb
 go_enter Tryz.func81,Tryz.ntmps81
 go_wp2
 go_loopw [17] (fun vi wr=>∃ k:Nat,vi = .int .i64 k∧k≤n∧Hid (mtB a b k=true)∧Hid (Below w.heap.size w wr)) (fun vi _=>n - (intOf vi).toNat)
 case atStart=>exact ⟨0,rfl,by omega,rfl,Below.refl _ _⟩
 case round=>
  obtain ⟨k,rfl,hk,hT,hG⟩:=hrel
  by_cases hlt:k<n
  · as_aux_lemma=>
     have hlt':(k:Int)<(n:Int):=by omega
     have hpos:(0:Int)≤(k:Int):=by omega
     have hka:k<a.length:=Nat.lt_of_lt_of_le hlt HA.out
     have hkb:k<b.length:=Nat.lt_of_lt_of_le hlt HB.out
     obtain ⟨g1,o1,hA1,hr1⟩:=H1.out.resolve_left (fun e=>by rw [e] at hka;simp at hka)
     obtain ⟨g2,o2,hB1,hr2⟩:=H2.out.resolve_left (fun e=>by rw [e] at hkb;simp at hkb)
     subst hA1
     subst hB1
     obtain ⟨s1,d1,x1⟩:=hr1 k hka
     obtain ⟨s2,d2,x2⟩:=hr2 k hkb
     have d1:=cell_below d1 hG.out (Nat.le_refl _)
     have d2:=cell_below d2 hG.out (Nat.le_refl _)
     have u1:=HSm.out.1 _ (List.getElem_mem hka)
     have u2:=HSm.out.2 _ (List.getElem_mem hkb)
     have HC:Hid (Calls Tryz.prog 82 #[s1,s2] wr fun e w'=>e = .returned (.bool (metB a[k] b[k]))∧Below wr.heap.size wr w'):=meet_any wr s1 s2 _ _ (x1.below hG.out (Nat.le_refl _)) (x2.below hG.out (Nat.le_refl _)) u1.1 u2.1 u1.2 u2.2
     have hsu:=mtB_succ hka hkb
     have hno:=fun h=>mtB_no hka hkb hlt h
     obtain ⟨sa,sn,sc,rfl⟩:=x1.sl
     obtain ⟨ta,tn,tc,rfl⟩:=x2.sl
     rw [hT.out,Bool.true_and] at hsu
     obtain ⟨M,hM⟩:∃ M,metB a[k] b[k]=M:=⟨_,rfl⟩
     rw [hM] at HC hsu hno
     have HX:Hid (mtB a b (k+1)=M∧(M=false→r=false)):=⟨hsu,fun h=>by rw [←HR.out];exact hno h⟩
     clear x1 x2 hr1 hr2 hsu hno hM u1 u2 hT
     cases M with
     | true=>
      go_wp2_with (go_at_call 82;refine HC.out.mono ?_;rintro e w' ⟨rfl,hb⟩)
      exact ⟨⟨k+1,by go_num,by omega,HX.out.1,hG.out.trans (hb.mono hG.out.size)⟩,by simp [intOf];omega⟩
     | false=>
      have HF:Hid (r=false):=HX.out.2 rfl
      clear HX
      go_wp2_with (go_at_call 82;refine HC.out.mono ?_;rintro e w' ⟨rfl,hb⟩)
      go_ret
      have hrf:=HF.out
      exact ⟨by first | rfl | (rw [hrf];rfl),hG.out.trans (hb.mono hG.out.size)⟩
  · as_aux_lemma=>
     have hge:¬ (k:Int)<(n:Int):=by omega
     have hkn:k=n:=by omega
     have HF:Hid (r=true):=by
      show r=true
      rw [←HR.out,←hkn]
      exact hT.out
     clear hT hkn
     go_wp2
     go_ret
     have hrf:=HF.out
     exact ⟨by first | rfl | (rw [hrf];rfl),hG.out⟩
end Go.Proofs
namespace Go.Proofs
open Go.RowKit Go.Shelf
set_option maxRecDepth 100000
attribute [local go_sem] Oper.semAt_some
theorem run_to34 (A:Option Addr) (m c k:Nat) (h:k≤c) (W:World):(Instr.slice 56 (.slice A m c) none (some (.int .i64 k)) none).run Tryz.prog W = .ok (.slice A k c) W:=by
 rw [run_slice_h W 56 A m c (by kernel_rfl) .i64 k (by omega) (by omega),show Tryz.prog.elem 56=39 by kernel_rfl,Tryz.sizeOf39 W]
 cases A <;> simp [Result.andThen,sliced,Addr.add]
def clsE (r s:Rl):Int:=if mtB (img r) (img s) (min (img r).length (img s).length)=false then 0 else if (img r).length≠(img s).length then 193 else if decide (r.key=s.key∧r.res=s.res)=false then 192 else 0
structure ClC (w W2:World) (r s:Rl) (av kv pv rv iv bv lv qv uv jv:Value):Prop where
 bl:Below w.heap.size w W2
 c1:∀ W,Below W2.heap.size W2 W→∀ i v,(wyv r av kv pv rv iv)[i]? = some v→W.cell? ⟨w.heap.size,i,none⟩=some v
 c2:∀ W,Below W2.heap.size W2 W→∀ i v,(wyv s bv lv qv uv jv)[i]? = some v→W.cell? ⟨w.heap.size+1,i,none⟩=some v
 al:∀ W,Below W2.heap.size W2 W→Calls Tryz.prog 83 #[.agg #[.bool r.bg,av,kv,pv,.bool r.en,rv,.int .i64 r.cu],.agg #[.bool s.bg,bv,lv,qv,.bool s.en,uv,.int .i64 s.cu]] W fun e w'=>e = .returned (.bool (decide (r.key=s.key∧r.res=s.res)))∧Below W.heap.size W w'
theorem ok_sz {r:Rl} (h:Ok r):Sz r:=by
 have h1:=h.k8
 have h2:=h.a8
 have h3:=h.p8
 have h4:=h.r16
 refine ⟨by omega,fun l hl => ?_,by omega,fun l hl => ?_,by omega,fun l hl => ?_,by omega,fun p hp => ?_⟩
 · have:=okS_512 (List.all_eq_true.1 h.aS l hl);omega
 · have:=okS_512 (List.all_eq_true.1 h.kS l hl);omega
 · have:=okS_512 (List.all_eq_true.1 h.pS l hl);omega
 · rcases pc_ok (h.pc p hp) with ⟨_,_,_,h5⟩ | ⟨_,_,h5,_⟩ | ⟨h6,_⟩
   · rw [h5];simp
   · rw [h5];simp
   · have h7:p.tl∈img r:=List.mem_map.2 ⟨p,hp,by unfold imgP;rw [h6];rfl⟩
     have:=okS_512 (img_ok h _ h7)
     omega
theorem ClC.mk' {w:World} {r s:Rl} {av kv pv rv iv bv lv qv uv jv:Value} (h:WyC w r av kv pv rv iv) (h2:WyC w s bv lv qv uv jv) (ho:Ok r) (W2:World) (hW:W2=(w.alloc (.cells (wyv r av kv pv rv iv).toArray 79)).alloc (.cells (wyv s bv lv qv uv jv).toArray 79)):ClC w W2 r s av kv pv rv iv bv lv qv uv jv:=by
 have hb1:Below w.heap.size w (w.alloc (.cells (wyv r av kv pv rv iv).toArray 79)):=(Below.refl _ w).alloc (Nat.le_refl _) _
 have hb:Below w.heap.size w W2:=by rw [hW];exact hb1.alloc hb1.size _
 have hk1:W2.heap[w.heap.size]? = some (.cells (wyv r av kv pv rv iv).toArray 79 (0,0)):=by
  rw [hW]
  exact ((((Below.refl _ _).alloc (Nat.le_refl _) _):Below (w.alloc (.cells (wyv r av kv pv rv iv).toArray 79)).heap.size _ _).block _ (by simp)).trans (World.alloc_heap_new _ _)
 have hk2:W2.heap[w.heap.size+1]? = some (.cells (wyv s bv lv qv uv jv).toArray 79 (0,0)):=by
  rw [hW]
  have:=World.alloc_heap_new (w.alloc (.cells (wyv r av kv pv rv iv).toArray 79)) (.cells (wyv s bv lv qv uv jv).toArray 79)
  simpa using this
 have hl1:=(Array.getElem?_eq_some_iff.1 hk1).1
 have hl2:=(Array.getElem?_eq_some_iff.1 hk2).1
 refine ⟨hb,fun W hW i v hv => ?_,fun W hW i v hv => ?_,fun W hW => ?_⟩
 · rw [cell_of ((hW.block _ hl1).trans hk1)]
   simpa using hv
 · rw [cell_of ((hW.block _ hl2).trans hk2)]
   simpa using hv
 · have hbw:=hb.trans (hW.mono hb.size)
   exact alike_any r s av kv pv rv bv lv qv uv W (h.rr.below hbw (Nat.le_refl _)) (h2.rr.below hbw (Nat.le_refl _)) (ok_sz ho)
set_option maxHeartbeats 8000000 in
theorem clash_any (r s:Rl) (av kv pv rv iv bv lv qv uv jv:Value) (w:World) (h:WyC w r av kv pv rv iv) (h2:WyC w s bv lv qv uv jv) (ho:Ok r) (ho2:Ok s) :
 Calls Tryz.prog 51 #[wyVal r av kv pv rv iv,wyVal s bv lv qv uv jv] w fun e w'=>e = .returned (.int .i64 (clsE r s))∧Below w.heap.size w w':=by
 obtain ⟨W2,hW2⟩:∃ W2,W2=(w.alloc (.cells (wyv r av kv pv rv iv).toArray 79)).alloc (.cells (wyv s bv lv qv uv jv).toArray 79):=⟨_,rfl⟩
 have H:Hid (ClC w W2 r s av kv pv rv iv bv lv qv uv jv):=ClC.mk' h h2 ho W2 hW2
 obtain ⟨aa,an,ac,rfl⟩:=h.rr.a.sl
 obtain ⟨ka,kn,kc,rfl⟩:=h.rr.k.sl
 obtain ⟨pa,pn,pc,rfl⟩:=h.rr.p.sl
 obtain ⟨ra,rn,rc,rfl⟩:=h.rr.r.sl
 obtain ⟨ia,ic,rfl,hic,hir⟩:=h.im
 obtain ⟨ba,bn,bc,rfl⟩:=h2.rr.a.sl
 obtain ⟨la,ln,lc,rfl⟩:=h2.rr.k.sl
 obtain ⟨qa,qn,qc,rfl⟩:=h2.rr.p.sl
 obtain ⟨ua,un,uc,rfl⟩:=h2.rr.r.sl
 obtain ⟨ja,jc,rfl,hjc,hjr⟩:=h2.im
 obtain ⟨n,hn⟩:∃ n,(img r).length=n:=⟨_,rfl⟩
 obtain ⟨m,hm⟩:∃ m,(img s).length=m:=⟨_,rfl⟩
 have hn16:n≤16:=by have:=ho.r16;simp [img] at hn;omega
 have hm16:m≤16:=by have:=ho2.r16;simp [img] at hm;omega
 obtain ⟨x,hx⟩:∃ x,min n m=x:=⟨_,rfl⟩
 have hxI:min (n:Int) (m:Int)=(x:Int):=by omega
 obtain ⟨M,hM⟩:∃ M,mtB (img r) (img s) x=M:=⟨_,rfl⟩
 obtain ⟨E,hE⟩:∃ E,clsE r s=E:=⟨_,rfl⟩
 obtain ⟨D,hD⟩:∃ D,decide (r.key=s.key∧r.res=s.res)=D:=⟨_,rfl⟩
 have HE:Hid (E=if M=false then 0 else if n≠m then 193 else if D=false then 192 else 0):=by
  show E=_
  rw [←hE,clsE,hn,hm,hx,hM,hD]
 have HM:Hid (∀ W,Below w.heap.size w W→Calls Tryz.prog 81 #[.slice ia x ic,.slice ja x jc,.func (.func 82) #[] #[]] W fun e w'=>e = .returned (.bool M)∧Below W.heap.size W w'):=fun W hb=>by
  have:=eqM_walk ia ja ic jc x (img r) (img s) W (hir.imp id fun ⟨g,o,e,h⟩=>⟨g,o,e,h.below hb (Nat.le_refl _)⟩) (hjr.imp id fun ⟨g,o,e,h⟩=>⟨g,o,e,h.below hb (Nat.le_refl _)⟩) (by omega) (by omega) (by omega)
   (fun l hl=>⟨okS_up (img_ok ho l hl),by have:=okS_512 (img_ok ho l hl);omega⟩) (fun l hl=>⟨okS_up (img_ok ho2 l hl),by have:=okS_512 (img_ok ho2 l hl);omega⟩)
  rw [hM] at this
  exact this
 have HAL:Hid (∀ W,Below W2.heap.size W2 W→Calls Tryz.prog 83 #[.agg #[.bool r.bg,.slice aa an ac,.slice ka kn kc,.slice pa pn pc,.bool r.en,.slice ra rn rc,.int .i64 r.cu],.agg #[.bool s.bg,.slice ba bn bc,.slice la ln lc,.slice qa qn qc,.bool s.en,.slice ua un uc,.int .i64 s.cu]] W fun e w'=>e = .returned (.bool D)∧Below W.heap.size W w'):=fun W hb=>by
  have:=H.out.al W hb
  rw [hD] at this
  exact this
 rw [hE]
 rw [hn] at H hic hW2 ⊢
 rw [hm] at H hjc hW2 ⊢
 have hW3:(w.alloc (.cells #[.bool r.bg,.slice aa an ac,.slice ka kn kc,.slice pa pn pc,.bool r.en,.slice ra rn rc,.int .i64 r.cu,.slice ia n ic] 79)).alloc (.cells #[.bool s.bg,.slice ba bn bc,.slice la ln lc,.slice qa qn qc,.bool s.en,.slice ua un uc,.int .i64 s.cu,.slice ja m jc] 79)=W2:=hW2.symm
 have HBL:Hid (Below w.heap.size w W2):=H.out.bl
 have q7:=H.out.c1 W2 (Below.refl _ _) 7 _ rfl
 have z7:=H.out.c2 W2 (Below.refl _ _) 7 _ rfl
 have s1:∀ W,(Instr.slice 56 (.slice ia n ic) none (some (.int .i64 x)) none).run Tryz.prog W = .ok (.slice ia x ic) W:=fun W=>run_to34 ia n ic x (by omega) W
 have s2:∀ W,(Instr.slice 56 (.slice ja m jc) none (some (.int .i64 x)) none).run Tryz.prog W = .ok (.slice ja x jc) W:=fun W=>run_to34 ja m jc x (by omega) W
 have t1:∀ W,(Instr.sliceAt 56 (.slice ia n ic) none (some (.int .i64 x)) none).run Tryz.prog W = .ok (.slice ia x ic) W:=fun W=>by
  rw [run_sliceAt_slice W 56 _ _ _ _ (by kernel_rfl)]
  exact s1 W
 have t2:∀ W,(Instr.sliceAt 56 (.slice ja m jc) none (some (.int .i64 x)) none).run Tryz.prog W = .ok (.slice ja x jc) W:=fun W=>by
  rw [run_sliceAt_slice W 56 _ _ _ _ (by kernel_rfl)]
  exact s2 W
 clear h h2 ho ho2 hir hjr hn hm hx hM hE hD hW2 hic hjc
 unfold wyVal
 go_enter Tryz.func51,Tryz.ntmps51
 go_wp2_with fail
 go_cut [13] (fun s wx=>s = .bool (!M)∧Hid (Below W2.heap.size W2 wx))
 case first=>
  go_region_with (go_at_call 81;go_must (refine (HM.out _ (by (repeat (first | exact HBL.out | refine Below.drew ?_)))).mono ?_;rintro e w5 ⟨rfl,hb5⟩))
  all_goals
   go_wp2
   go_meet
   exact ⟨rfl,Below.trans (by (repeat (first | exact Below.refl _ _ | refine Below.drew ?_))) (hb5.mono (Nat.le_refl _))⟩
 case rest=>
  obtain ⟨hcs,hcw⟩:=hcut
  subst hcs
  clear HM s1 s2 t1 t2 q7 z7
  cases M with
  | false=>
   have HF:Hid (E=0):=HE.out
   clear HE HAL
   go_wp2
   go_ret
   exact ⟨by rw [HF.out];rfl,HBL.out.trans (hcw.out.mono HBL.out.size)⟩
  | true=>
   have HE1:Hid (E=if n≠m then 193 else if D=false then 192 else 0):=HE.out
   clear HE
   have q:=H.out.c1 wc hcw.out
   have z:=H.out.c2 wc hcw.out
   have q7:=q 7 _ rfl
   have z7:=z 7 _ rfl
   by_cases hnm:n=m
   · subst hnm
     have HE2:Hid (E=if D=false then 192 else 0):=by
      show E=_
      rw [HE1.out,if_neg (by simp)]
     have q0:=q 0 _ rfl
     have q1:=q 1 _ rfl
     have q2:=q 2 _ rfl
     have q3:=q 3 _ rfl
     have q4:=q 4 _ rfl
     have q5:=q 5 _ rfl
     have q6:=q 6 _ rfl
     have z0:=z 0 _ rfl
     have z1:=z 1 _ rfl
     have z2:=z 2 _ rfl
     have z3:=z 3 _ rfl
     have z4:=z 4 _ rfl
     have z5:=z 5 _ rfl
     have z6:=z 6 _ rfl
     clear q z HE1
     go_wp2_with fail
     refine (HAL.out wc hcw.out).mono ?_
     rintro e w2 ⟨rfl,hb2⟩
     have hc2:Hid (Below W2.heap.size W2 w2):=hcw.out.trans (hb2.mono hcw.out.size)
     clear hb2 hcw q0 q1 q2 q3 q4 q5 q6 q7 z0 z1 z2 z3 z4 z5 z6 z7 HAL
     cases D with
     | false=>
      have HF:Hid (E=192):=HE2.out
      clear HE2
      go_wp2
      go_ret
      exact ⟨by rw [HF.out];rfl,HBL.out.trans (hc2.out.mono HBL.out.size)⟩
     | true=>
      have HF:Hid (E=0):=HE2.out
      clear HE2
      go_wp2
      go_ret
      exact ⟨by rw [HF.out];rfl,HBL.out.trans (hc2.out.mono HBL.out.size)⟩
   · have HF:Hid (E=193):=by
      show E=193
      rw [HE1.out,if_pos hnm]
     have d1:((n:Int) != (m:Int))=true:=by rw [bne_iff_ne];omega
     clear q z HE1 HAL hnm
     go_wp2
     go_ret
     exact ⟨by rw [HF.out];rfl,HBL.out.trans (hcw.out.mono HBL.out.size)⟩
end Go.Proofs
