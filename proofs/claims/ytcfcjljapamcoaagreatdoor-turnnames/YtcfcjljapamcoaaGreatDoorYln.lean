/-
  alike 140: whether two rules are the same, but for where they fit; EqualFunc 138 with meet 139: whether images meet at each place.
-/
import Derived.Test.YtcfcjljapamcoaaGreatDoorYkn
import Derived.Test.YtcfcjljapamcoaaGreatDoorMgen
namespace Go.Proofs
open Go.RowKit Go.Shelf
set_option maxRecDepth 100000
attribute [local go_sem] Oper.semAt_some
theorem sr_none (w:World):SR w (.slice none 0 0) []:=⟨none,0,rfl,Nat.le_refl _,.inl rfl⟩
theorem RR.bare {w:World} {av kv pv rv:Value} {r:Rl} (h:RR w av kv pv rv r):RR w (.slice none 0 0) kv (.slice none 0 0) rv ⟨false,false,0,[],r.key,[],r.res⟩:=⟨sr_none w,h.k,sr_none w,h.r⟩
theorem bare_same (a b:Rl):decide ((⟨false,false,0,[],a.key,[],a.res⟩:Rl)=⟨false,false,0,[],b.key,[],b.res⟩)=decide (a.key=b.key∧a.res=b.res):=by
 apply decide_eq_decide.2
 constructor
 · intro h
   injection h with _ _ _ _ h5 _ h7
   exact ⟨h5,h7⟩
 · rintro ⟨h1,h2⟩
   rw [h1,h2]
set_option maxHeartbeats 4000000 in
theorem alike_any (a b:Rl) (aa ak ap ar ba bk bp br:Value) (w:World) (ha:RR w aa ak ap ar a) (hb:RR w ba bk bp br b) (hs:Sz a) :
 Calls Tryz.prog 140 #[.agg #[.bool a.bg,aa,ak,ap,.bool a.en,ar,.int .i64 a.cu],.agg #[.bool b.bg,ba,bk,bp,.bool b.en,br,.int .i64 b.cu]] w fun e w'=>e = .returned (.bool (decide (a.key=b.key∧a.res=b.res)))∧Below w.heap.size w w':=by
 have HS:Hid (∀ W,Grown w W→Calls Tryz.prog 170 #[.agg #[.bool false,.slice none 0 0,ak,.slice none 0 0,.bool false,ar,.int .i64 0],.agg #[.bool false,.slice none 0 0,bk,.slice none 0 0,.bool false,br,.int .i64 0]] W fun e w'=>e = .returned (.bool (decide (a.key=b.key∧a.res=b.res)))∧Grown W w'):=fun W hG=>by
  have:=same_any _ _ _ _ _ _ _ _ _ _ W (ha.grown hG).bare (hb.grown hG).bare ⟨by simp,by simp,hs.nk,hs.sk,by simp,by simp,hs.nr,hs.sr⟩
  rw [bare_same] at this
  exact this
 obtain ⟨a1,a2,a3,rfl⟩:=ha.a.sl
 obtain ⟨a4,a5,a6,rfl⟩:=ha.k.sl
 obtain ⟨a7,a8,a9,rfl⟩:=ha.p.sl
 obtain ⟨c1,c2,c3,rfl⟩:=ha.r.sl
 obtain ⟨b1,b2,b3,rfl⟩:=hb.a.sl
 obtain ⟨b4,b5,b6,rfl⟩:=hb.k.sl
 obtain ⟨b7,b8,b9,rfl⟩:=hb.p.sl
 obtain ⟨d1,d2,d3,rfl⟩:=hb.r.sl
 clear ha hb hs
 generalize decide (a.key=b.key∧a.res=b.res)=Q at HS
 go_enter Tryz.func140,Tryz.ntmps140
 go_wp2_with fail
 refine (HS.out _ (((Grown.refl _).alloc _).alloc _)).mono ?_
 rintro e w1 ⟨rfl,hg⟩
 go_wp2
 go_ret
 exact ⟨rfl,((((Grown.refl w).alloc _).alloc _).trans hg).below⟩
def mtB (a b:List (List (Int × Int))) (k:Nat):Bool:=(List.range k).all fun i=>match a[i]?,b[i]? with | some x,some y=>metB x y | _,_=>true
theorem mtB_succ {a b:List (List (Int × Int))} {k:Nat} (h1:k<a.length) (h2:k<b.length):mtB a b (k+1)=(mtB a b k && metB a[k] b[k]):=by
 unfold mtB
 rw [List.range_succ,List.all_append]
 simp [List.getElem?_eq_getElem h1,List.getElem?_eq_getElem h2]
theorem mtB_no {a b:List (List (Int × Int))} {k n:Nat} (h1:k<a.length) (h2:k<b.length) (hn:k<n) (hm:metB a[k] b[k]=false):mtB a b n=false:=by
 unfold mtB
 rw [List.all_eq_false]
 exact ⟨k,List.mem_range.2 hn,by simp [List.getElem?_eq_getElem h1,List.getElem?_eq_getElem h2,hm]⟩
set_option maxHeartbeats 4000000 in
theorem eqM_walk (A B:Option Addr) (c d n:Nat) (a b:List (List (Int × Int))) (w:World) (h1:a=[]∨∃ g o,A=some ⟨g,o,none⟩∧SRd w g o a) (h2:b=[]∨∃ g o,B=some ⟨g,o,none⟩∧SRd w g o b) (ha:n≤a.length) (hb:n≤b.length) (hn:n≤1000000) (hs:∀ l∈a,Up l∧l.length≤10000000) (ht:∀ l∈b,Up l∧l.length≤10000000) :
 Calls Tryz.prog 138 #[.slice A n c,.slice B n d,.func (.func 139) #[] #[]] w fun e w'=>e = .returned (.bool (mtB a b n))∧Below w.heap.size w w':=by
 have HA:Hid (n≤a.length):=ha
 have HB:Hid (n≤b.length):=hb
 have HSm:Hid ((∀ l∈a,Up l∧l.length≤10000000)∧∀ l∈b,Up l∧l.length≤10000000):=⟨hs,ht⟩
 obtain ⟨r,hr⟩:∃ r:Bool,mtB a b n=r:=⟨_,rfl⟩
 have HR:Hid (mtB a b n=r):=hr
 have H1:Hid (a=[]∨∃ g o,A=some ⟨g,o,none⟩∧SRd w g o a):=h1
 have H2:Hid (b=[]∨∃ g o,B=some ⟨g,o,none⟩∧SRd w g o b):=h2
 rw [hr]
 have hm:=mixed
 clear hr h1 h2 hs ht ha hb
 go_enter Tryz.func138,Tryz.ntmps138
 go_wp2
 go_loopw [17] (fun vi wr=>∃ k:Nat,vi = .int .i64 k∧k≤n∧Hid (mtB a b k=true)∧Hid (Below w.heap.size w wr)) (fun vi _=>n - (intOf vi).toNat)
 case atStart=>exact ⟨0,rfl,by omega,rfl,Below.refl _ _⟩
 case round=>
  obtain ⟨k,rfl,hk,hT,hG⟩:=hrel
  by_cases hlt:k<n
  · as_aux_lemma=>
     have hlt':(k:Int)<(n:Int):=by omega
     have hpos:(0:Int)≤(k:Int):=by omega
     have hka:k<a.length:=Nat.lt_of_lt_of_le hlt HA.out
     have hkb:k<b.length:=Nat.lt_of_lt_of_le hlt HB.out
     obtain ⟨g1,o1,hA1,hr1⟩:=H1.out.resolve_left (fun e=>by rw [e] at hka;simp at hka)
     obtain ⟨g2,o2,hB1,hr2⟩:=H2.out.resolve_left (fun e=>by rw [e] at hkb;simp at hkb)
     subst hA1
     subst hB1
     obtain ⟨s1,d1,x1⟩:=hr1 k hka
     obtain ⟨s2,d2,x2⟩:=hr2 k hkb
     have d1:=cell_below d1 hG.out (Nat.le_refl _)
     have d2:=cell_below d2 hG.out (Nat.le_refl _)
     have u1:=HSm.out.1 _ (List.getElem_mem hka)
     have u2:=HSm.out.2 _ (List.getElem_mem hkb)
     have HC:Hid (Calls Tryz.prog 139 #[s1,s2] wr fun e w'=>e = .returned (.bool (metB a[k] b[k]))∧Below wr.heap.size wr w'):=meet_any wr s1 s2 _ _ (x1.below hG.out (Nat.le_refl _)) (x2.below hG.out (Nat.le_refl _)) u1.1 u2.1 u1.2 u2.2
     have hsu:=mtB_succ hka hkb
     have hno:=fun h=>mtB_no hka hkb hlt h
     obtain ⟨sa,sn,sc,rfl⟩:=x1.sl
     obtain ⟨ta,tn,tc,rfl⟩:=x2.sl
     rw [hT.out,Bool.true_and] at hsu
     obtain ⟨M,hM⟩:∃ M,metB a[k] b[k]=M:=⟨_,rfl⟩
     rw [hM] at HC hsu hno
     have HX:Hid (mtB a b (k+1)=M∧(M=false→r=false)):=⟨hsu,fun h=>by rw [←HR.out];exact hno h⟩
     clear x1 x2 hr1 hr2 hsu hno hM u1 u2 hT
     cases M with
     | true=>
      go_wp2_with (go_at_call 139;refine HC.out.mono ?_;rintro e w' ⟨rfl,hb⟩)
      exact ⟨⟨k+1,by go_num,by omega,HX.out.1,hG.out.trans (hb.mono hG.out.size)⟩,by simp [intOf];omega⟩
     | false=>
      have HF:Hid (r=false):=HX.out.2 rfl
      clear HX
      go_wp2_with (go_at_call 139;refine HC.out.mono ?_;rintro e w' ⟨rfl,hb⟩)
      go_ret
      have hrf:=HF.out
      exact ⟨by first | rfl | (rw [hrf];rfl),hG.out.trans (hb.mono hG.out.size)⟩
  · as_aux_lemma=>
     have hge:¬ (k:Int)<(n:Int):=by omega
     have hkn:k=n:=by omega
     have HF:Hid (r=true):=by
      show r=true
      rw [←HR.out,←hkn]
      exact hT.out
     clear hT hkn
     go_wp2
     go_ret
     have hrf:=HF.out
     exact ⟨by first | rfl | (rw [hrf];rfl),hG.out⟩
end Go.Proofs
