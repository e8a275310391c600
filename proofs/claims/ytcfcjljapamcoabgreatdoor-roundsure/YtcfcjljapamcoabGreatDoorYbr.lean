/-
  slices.Concat of two rows of sets: 134, with Grow 166.
-/
import Derived.Test.YtcfcjljapamcoabGreatDoorMpgr
import Derived.Test.YtcfcjljapamcoabGreatDoorMger
import Derived.Deep.SlicePairs
namespace Go.Proofs
open Go.RowKit Go.Shelf
set_option maxRecDepth 100000
attribute [local go_sem] Oper.semAt_some
def SVs (w:World) (v:Value) (vs:List Value):Prop:=∃ (A:Option Addr) (c:Nat),v = .slice A vs.length c∧vs.length≤c∧(vs=[]∨∃ g o,A=some ⟨g,o,none⟩∧∀ (j:Nat) (hj:j<vs.length),w.cell? ⟨g,o+j,none⟩=some vs[j])
theorem SVs.below {w w':World} {n:Nat} {v:Value} {vs:List Value} (h:SVs w v vs) (hb:Below n w w') (hn:w.heap.size≤n):SVs w' v vs:=by
 obtain ⟨A,c,e,h1,h2⟩:=h
 exact ⟨A,c,e,h1,h2.imp id fun ⟨g,o,e2,h3⟩=>⟨g,o,e2,fun j hj=>cell_below (h3 j hj) hb hn⟩⟩
theorem SVs.sl {w:World} {v:Value} {vs:List Value} (h:SVs w v vs):IsSl v:=by
 obtain ⟨a,c,rfl,_⟩:=h
 exact ⟨a,_,c,rfl⟩
def OwnVs (w:World) (base:Nat) (v:Value) (vs:List Value):Prop:=w.ownsRow base 39 1 v vs.length vs
theorem OwnVs.sv {w:World} {base:Nat} {v:Value} {vs:List Value} (h:OwnVs w base v vs):SVs w v vs:=by
 rcases h.2 with ⟨rfl,h0⟩ | ⟨g,cap,cur,rfl,_,_,hc,_⟩
 · have:vs=[]:=List.eq_nil_of_length_eq_zero h0
   subst this
   exact ⟨none,0,rfl,Nat.le_refl _,.inl rfl⟩
 · refine ⟨_,cap,rfl,hc,.inr ⟨g,0,rfl,fun j hj => ?_⟩⟩
   have:=World.ownsRow.cells h rfl j vs[j] (List.getElem?_eq_getElem hj)
   rw [add_zero_at] at this
   rw [Nat.zero_add]
   exact this
theorem SR.sv {w:World} {v:Value} {ls:List (List (Int × Int))} (h:SR w v ls):∃ vs,SVs w v vs∧vs.length=ls.length∧∀ (j:Nat) (u:Value),vs[j]? = some u→∃ l,ls[j]? = some l∧Rs w u l:=by
 obtain ⟨a,cap,rfl,hc,h3⟩:=h
 rcases h3 with rfl | ⟨g,o,rfl,hr⟩
 · exact ⟨[],⟨a,cap,rfl,hc,.inl rfl⟩,rfl,fun j u hj=>by simp at hj⟩
 · obtain ⟨q,hq⟩:=Go.Deep.choose_lt (n:=ls.length) (p:=fun j sv=>∃ hj:j<ls.length,w.cell? ⟨g,o+j,none⟩=some sv∧Rs w sv ls[j]) (fun j hj=>by
    obtain ⟨sv,h1,h2⟩:=hr j hj
    exact ⟨sv,hj,h1,h2⟩)
   have hl:((List.range ls.length).map q).length=ls.length:=by simp
   refine ⟨(List.range ls.length).map q,⟨_,cap,by rw [hl],by rw [hl];exact hc,.inr ⟨g,o,rfl,fun j hj => ?_⟩⟩,hl,fun j u hj => ?_⟩
   · rw [hl] at hj
     obtain ⟨_,h1,_⟩:=hq j hj
     rw [h1]
     simp
   · have hjl:j<ls.length:=by have:=(List.getElem?_eq_some_iff.1 hj).1;omega
     obtain ⟨_,h1,h2⟩:=hq j hjl
     rw [List.getElem?_map,List.getElem?_range hjl] at hj
     simp only [Option.map_some,Option.some.injEq] at hj
     subst hj
     exact ⟨ls[j],List.getElem?_eq_getElem hjl,h2⟩
theorem run_appVs (w:World) (ty:TypeId) (base:Nat) (v:Value) (l b:List Value) (xv:Value) (hown:OwnVs w base v l) (hr:SVs w xv b) (hsl:∀ u∈b,IsSl u) (hl:l.length+b.length≤5000000000) (hbase:base≤w.heap.size) :
 ∃ v' w',(Builtin.append_ #[56,56] ty #[v,xv]).run Tryz.prog w = .ok v' w'∧OwnVs w' base v' (l++b)∧w.grownBy w' v.ownBlock∧(v'.ownBlock=v.ownBlock∨v'.ownBlock=some w.heap.size):=by
 obtain ⟨i0,hi0,hz0,hz1,hz2⟩:=info_parts iinfo40
 obtain ⟨A,c,rfl,hc,hr⟩:=hr
 by_cases he:b=[]
 · subst he
   obtain ⟨va,vn,vc,hv⟩:=hown.sv.sl
   have hvn:vn=l.length∧vn≤vc:=by
    obtain ⟨a',c',e,h1,_⟩:=hown.sv
    rw [hv] at e
    injection e with _ e2 e3
    omega
   subst hv
   have hr:=run_append_nothing (P:=Tryz.prog) w 56 56 ty 39 i0 Tryz.underlying56 hi0 va vn vc hvn.2 (.slice A 0 c) ⟨.inl ⟨39,Tryz.underlying56⟩,fun w'=>by cases A <;> simp [Builtin.lenOf,go_sem],by cases A <;> simp [Builtin.firstCells,go_sem],by cases A <;> simp [Builtin.firstCells,go_sem],by simp,by simp⟩
   exact ⟨_,w,hr,by simpa using hown,⟨rfl,rfl,rfl,Nat.le_refl _,fun _ _ _=>rfl⟩,.inl rfl⟩
 · obtain ⟨g1,o',rfl,hd⟩:=hr.resolve_left he
   obtain ⟨v',w',h1,h2,h3,h4,h5⟩:=run_append_own_at (P:=Tryz.prog) w base 56 ty 39 i0 (.slice none 0 0) 1 24 Tryz.underlying56 hi0 hz0 hz1 hz2 rfl (by decide) v l.length l hown ⟨g1,o',none⟩ b.length c b (by rw [Nat.mul_one]) (fun j u hj=>by
    have hadd:(⟨g1,o',none⟩:Addr).add j=⟨g1,o'+j,none⟩:=by unfold Addr.add;split <;> simp_all
    rw [hadd]
    obtain ⟨hj1,hj2⟩:=List.getElem?_eq_some_iff.1 hj
    rw [hd j hj1,hj2]) (fun u hu=>by obtain ⟨q1,q2,q3,rfl⟩:=hsl u hu;rfl) (by unfold maxLen;omega) (by omega) hbase
   exact ⟨v',w',h1,by unfold OwnVs;rw [List.length_append];exact h2,h3,h5⟩
theorem app_Vs2 {ops:Array Oper} {rest:List Oper} {o:Oper} {a:Act} {Q:Exit→Act→World→Prop} {w:World} (hgd:o.guard=none) (s x:Operand)
 (ho:o.op = .call { callee := .builtin .append,args:=#[s,x],argTypes:=#[56,56] })
 (base:Nat) (v xv:Value) (l b:List Value) (hs:a.eval s=v) (hown:OwnVs w base v l) (hx:a.eval x=xv) (hr:SVs w xv b) (hsl:∀ u∈b,IsSl u) (hl:l.length+b.length≤5000000000) (hbase:base≤w.heap.size)
 (h:∀ v' w',OwnVs w' base v' (l++b)→w.grownBy w' v.ownBlock→wpList Tryz.prog ops Q rest (a.put o.dst v') w'):wpList Tryz.prog ops Q (o::rest) a w:=by
 refine wpList_plain hgd fun K hK => ?_
 obtain ⟨v',w',hr2,h1,h2,_⟩:=run_appVs w o.type base v l b xv hown hr hsl hl hbase
 unfold Oper.wp execOp
 simp only [ho,resolve,invoke,builtin,Sem.run_bind,Sem.run_pure,Result.andThen_ok,List.map_toArray,List.map_cons,List.map_nil,hs,hx,hr2]
 exact hK _ _ (h v' w' h1 h2)
set_option maxHeartbeats 4000000 in
theorem growS_any (n:Nat) (hn0:0<n) (hn:n≤1000000000) (w:World):Calls Tryz.prog 102 #[.slice none 0 0,.int .i64 n] w fun e w'=>∃ cap,e = .returned (.slice (some ⟨w.heap.size,0,none⟩) 0 cap)∧OwnVs w' w.heap.size (.slice (some ⟨w.heap.size,0,none⟩) 0 cap) []∧Grown w w':=by
 obtain ⟨i0,hi0,hz0,hz1,hz2⟩:=info_parts iinfo40
 have hr:=fun W ty=>Go.Lib.run_append_nil_zeros (P:=Tryz.prog) W 56 3 ty 39 i0 (.slice none 0 0) .i64 .i64 Tryz.underlying56 Tryz.underlying3 hi0 hz0 n hn0 (by rw [hz1];decide) (by omega) (by rw [hz2];omega)
 have HR:=Hid.mk' hr
 have nI:(n:Int)≤1000000000:=by omega
 have n0:(0:Int)<(n:Int):=by omega
 clear hr
 go_enter Tryz.func102,Tryz.ntmps102
 go_wp2_with (at_builtin;go_must (refine Go.Lib.wpList_append_run _ rfl _ _ 56 3 rfl _ _ rfl rfl _ _ (HR.out _ _) ?_))
 go_ret
 refine ⟨grownCap w n 0 39,rfl,⟨rfl,.inr ⟨w.heap.size,grownCap w n 0 39,_,rfl,Nat.le_refl _,heap_alloc_new w _,Nat.zero_le _,grownCap_le_maxLen w n 0 39 (by unfold maxLen;omega),?_,by simp⟩⟩,((Grown.refl _).alloc _).drew⟩
 have:=grownCap_ge w n 0 39
 simp only [Array.size_append,size_zeroCells]
 show n*1+(grownCap w n 0 39 - n)*1=_
 omega
set_option maxHeartbeats 8000000 in
theorem concatS_any (b:Nat) (v1 v2:Value) (l1 l2:List Value) (w:World) (c1:w.cell? ⟨b,0,none⟩=some v1) (c2:w.cell? ⟨b,1,none⟩=some v2) (h1:SVs w v1 l1) (h2:SVs w v2 l2) (hs1:∀ u∈l1,IsSl u) (hs2:∀ u∈l2,IsSl u) (h0:0<l1.length+l2.length) (hn:l1.length+l2.length≤1000000000) :
 Calls Tryz.prog 77 #[.slice (some ⟨b,0,none⟩) 2 2] w fun e w'=>∃ v',e = .returned v'∧OwnVs w' w.heap.size v' (l1++l2)∧Below w.heap.size w w':=by
 have H1:Hid (∀ V,Below w.heap.size w V→SVs V v1 l1):=fun V hb=>h1.below hb (Nat.le_refl _)
 have H2:Hid (∀ V,Below w.heap.size w V→SVs V v2 l2):=fun V hb=>h2.below hb (Nat.le_refl _)
 have HC1:Hid (∀ V,Below w.heap.size w V→V.cell? ⟨b,0,none⟩=some v1∧V.cell? ⟨b,1,none⟩=some v2):=fun V hb=>⟨cell_below c1 hb (Nat.le_refl _),cell_below c2 hb (Nat.le_refl _)⟩
 have HG:=Hid.mk' (fun W=>growS_any (l1.length+l2.length) h0 hn W)
 obtain ⟨x1,x3,e1,_,_⟩:=h1
 obtain ⟨y1,y3,e2,_,_⟩:=h2
 obtain ⟨n1,hn1⟩:∃ n1,l1.length=n1:=⟨_,rfl⟩
 obtain ⟨n2,hn2⟩:∃ n2,l2.length=n2:=⟨_,rfl⟩
 have HN1:=Hid.mk' hn1
 have HN2:=Hid.mk' hn2
 rw [hn1] at e1 hn HG
 rw [hn2] at e2 hn HG
 subst e1 e2
 have n1I:(n1:Int)≤1000000000:=by omega
 have n2I:(n2:Int)≤1000000000:=by omega
 have n10:(0:Int)≤(n1:Int):=by omega
 have n20:(0:Int)≤(n2:Int):=by omega
 have ns:(n1:Int)+(n2:Int)≤1000000000:=by omega
 have ncast:((n1+n2:Nat):Int)=(n1:Int)+(n2:Int):=by omega
 rw [ncast] at HG
 clear hn1 hn2 h0 ncast
 go_enter Tryz.func77,Tryz.ntmps77
 go_wp2
 refine wp_loop_rounds 3 ?_
 rw [rounds_succ]
 go_wp2
 rw [rounds_succ]
 go_wp2
 rw [rounds_succ]
 go_wp2_with (go_at_call 102;refine (HG.out _).mono ?_;rintro e w1 ⟨cap,rfl,hO1,hG1⟩;have HO1:=Hid.mk' hO1;have HG1:=Hid.mk' hG1;clear hO1 hG1)
 have hB1:Below w.heap.size w w1:=HG1.out.below
 obtain ⟨d1,d2⟩:=HC1.out w1 hB1
 have HB1:=Hid.mk' hB1
 clear c1 c2 hB1
 refine wp_loop_rounds 3 ?_
 rw [rounds_succ]
 go_wp2_with (at_builtin;go_must (refine app_Vs2 rfl _ _ rfl w.heap.size _ _ [] l1 rfl HO1.out rfl (H1.out w1 HB1.out) hs1 (by rw [HN1.out];simp;omega) HB1.out.size ?_;intro v2 w2 hO2 hg2;have HO2:Hid (OwnVs w2 w.heap.size v2 l1):=hO2;have HB2:Hid (Below w.heap.size w w2):=HB1.out.grown hg2 HB1.out.size (fun k hk=>(World.ownsRow.lt HO1.out k hk).1);obtain ⟨p1,p2,p3,hv2⟩:=hO2.sv.sl;subst hv2;clear hO2 hg2))
 obtain ⟨f1,f2⟩:=HC1.out w2 HB2.out
 rw [rounds_succ]
 go_wp2_with (at_builtin;go_must (refine app_Vs2 rfl _ _ rfl w.heap.size _ _ l1 l2 rfl HO2.out rfl (H2.out w2 HB2.out) hs2 (by rw [HN1.out,HN2.out];omega) HB2.out.size ?_;intro v3 w3 hO3 hg3;have HO3:Hid (OwnVs w3 w.heap.size v3 (l1++l2)):=hO3;have HB3:Hid (Below w.heap.size w w3):=HB2.out.grown hg3 HB2.out.size (fun k hk=>(World.ownsRow.lt HO2.out k hk).1);obtain ⟨q1,q2,q3,hv3⟩:=hO3.sv.sl;subst hv3;clear hO3 hg3))
 rw [rounds_succ]
 go_wp2
 go_ret
 exact ⟨_,rfl,HO3.out,HB3.out⟩
end Go.Proofs
