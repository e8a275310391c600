/-
  Several texts in one (Ybv Kgv Y0v Y1v).
-/
import Derived.Test.YtcfcjljapamcoaaGreatDoorY6v
import Derived.Test.YtcfcjljapamcoaaGreatDoorMgfv
import Derived.Deep.SlicePairs
import Derived.Shelf.SlIterI.Nil
import Derived.Shelf.SortM.Plain
import Derived.Shelf.SortM.SortNone
import Derived.Ground.GgzProg
import Derived.Ground.SlgmProg
import Derived.Test.YtcfcjljapamcoaaGreatDoorProg
import Derived.Shelf.Abstract
import Derived.Shelf.RegionOpen
import Derived.WalkKit
import Derived.WalkSpells
import Derived.WalkLawsBesides
import Derived.TacticsInMore
import Derived.BigQuiet
import Derived.Deep.QuietTactic
import Derived.Deep.RegionWith
import Derived.Maps.Own
import Derived.Maps.OwnSet
import Derived.Maps.Views
import Derived.Test.YtcfcjljapamcoaaGreatDoorMgbv
namespace Go.Proofs
open Go.RowKit Go.Shelf
set_option maxRecDepth 100000
attribute [local go_sem] Oper.semAt_some
def SVs (w:World) (v:Value) (vs:List Value):Prop:=∃ (A:Option Addr) (c:Nat),v = .slice A vs.length c∧vs.length≤c∧(vs=[]∨∃ g o,A=some ⟨g,o,none⟩∧∀ (j:Nat) (hj:j<vs.length),w.cell? ⟨g,o+j,none⟩=some vs[j])
theorem SVs.below {w w':World} {n:Nat} {v:Value} {vs:List Value} (h:SVs w v vs) (hb:Below n w w') (hn:w.heap.size≤n):SVs w' v vs:=by
 obtain ⟨A,c,e,h1,h2⟩:=h
 exact ⟨A,c,e,h1,h2.imp id fun ⟨g,o,e2,h3⟩=>⟨g,o,e2,fun j hj=>cell_below (h3 j hj) hb hn⟩⟩
theorem SVs.sl {w:World} {v:Value} {vs:List Value} (h:SVs w v vs):IsSl v:=by
 obtain ⟨a,c,rfl,_⟩:=h
 exact ⟨a,_,c,rfl⟩
def OwnVs (w:World) (base:Nat) (v:Value) (vs:List Value):Prop:=w.ownsRow base 40 1 v vs.length vs
theorem OwnVs.sv {w:World} {base:Nat} {v:Value} {vs:List Value} (h:OwnVs w base v vs):SVs w v vs:=by
 rcases h.2 with ⟨rfl,h0⟩ | ⟨g,cap,cur,rfl,_,_,hc,_⟩
 · have:vs=[]:=List.eq_nil_of_length_eq_zero h0
   subst this
   exact ⟨none,0,rfl,Nat.le_refl _,.inl rfl⟩
 · refine ⟨_,cap,rfl,hc,.inr ⟨g,0,rfl,fun j hj => ?_⟩⟩
   have:=World.ownsRow.cells h rfl j vs[j] (List.getElem?_eq_getElem hj)
   rw [add_zero_at] at this
   rw [Nat.zero_add]
   exact this
theorem SR.sv {w:World} {v:Value} {ls:List (List (Int × Int))} (h:SR w v ls):∃ vs,SVs w v vs∧vs.length=ls.length∧∀ (j:Nat) (u:Value),vs[j]? = some u→∃ l,ls[j]? = some l∧Rs w u l:=by
 obtain ⟨a,cap,rfl,hc,h3⟩:=h
 rcases h3 with rfl | ⟨g,o,rfl,hr⟩
 · exact ⟨[],⟨a,cap,rfl,hc,.inl rfl⟩,rfl,fun j u hj=>by simp at hj⟩
 · obtain ⟨q,hq⟩:=Go.Deep.choose_lt (n:=ls.length) (p:=fun j sv=>∃ hj:j<ls.length,w.cell? ⟨g,o+j,none⟩=some sv∧Rs w sv ls[j]) (fun j hj=>by
    obtain ⟨sv,h1,h2⟩:=hr j hj
    exact ⟨sv,hj,h1,h2⟩)
   have hl:((List.range ls.length).map q).length=ls.length:=by simp
   refine ⟨(List.range ls.length).map q,⟨_,cap,by rw [hl],by rw [hl];exact hc,.inr ⟨g,o,rfl,fun j hj => ?_⟩⟩,hl,fun j u hj => ?_⟩
   · rw [hl] at hj
     obtain ⟨_,h1,_⟩:=hq j hj
     rw [h1]
     simp
   · have hjl:j<ls.length:=by have:=(List.getElem?_eq_some_iff.1 hj).1;omega
     obtain ⟨_,h1,h2⟩:=hq j hjl
     rw [List.getElem?_map,List.getElem?_range hjl] at hj
     simp only [Option.map_some,Option.some.injEq] at hj
     subst hj
     exact ⟨ls[j],List.getElem?_eq_getElem hjl,h2⟩
theorem run_appVs (w:World) (ty:TypeId) (base:Nat) (v:Value) (l b:List Value) (xv:Value) (hown:OwnVs w base v l) (hr:SVs w xv b) (hsl:∀ u∈b,IsSl u) (hl:l.length+b.length≤5000000000) (hbase:base≤w.heap.size) :
 ∃ v' w',(Builtin.append_ #[34,34] ty #[v,xv]).run Tryz.prog w = .ok v' w'∧OwnVs w' base v' (l++b)∧w.grownBy w' v.ownBlock∧(v'.ownBlock=v.ownBlock∨v'.ownBlock=some w.heap.size):=by
 obtain ⟨i0,hi0,hz0,hz1,hz2⟩:=info_parts iinfo40
 obtain ⟨A,c,rfl,hc,hr⟩:=hr
 by_cases he:b=[]
 · subst he
   obtain ⟨va,vn,vc,hv⟩:=hown.sv.sl
   have hvn:vn=l.length∧vn≤vc:=by
    obtain ⟨a',c',e,h1,_⟩:=hown.sv
    rw [hv] at e
    injection e with _ e2 e3
    omega
   subst hv
   have hr:=run_append_nothing (P:=Tryz.prog) w 34 34 ty 40 i0 Tryz.underlying34 hi0 va vn vc hvn.2 (.slice A 0 c) ⟨.inl ⟨40,Tryz.underlying34⟩,fun w'=>by cases A <;> simp [Builtin.lenOf,go_sem],by cases A <;> simp [Builtin.firstCells,go_sem],by cases A <;> simp [Builtin.firstCells,go_sem],by simp,by simp⟩
   exact ⟨_,w,hr,by simpa using hown,⟨rfl,rfl,rfl,Nat.le_refl _,fun _ _ _=>rfl⟩,.inl rfl⟩
 · obtain ⟨g1,o',rfl,hd⟩:=hr.resolve_left he
   obtain ⟨v',w',h1,h2,h3,h4,h5⟩:=run_append_own_at (P:=Tryz.prog) w base 34 ty 40 i0 (.slice none 0 0) 1 24 Tryz.underlying34 hi0 hz0 hz1 hz2 rfl (by decide) v l.length l hown ⟨g1,o',none⟩ b.length c b (by rw [Nat.mul_one]) (fun j u hj=>by
    have hadd:(⟨g1,o',none⟩:Addr).add j=⟨g1,o'+j,none⟩:=by unfold Addr.add;split <;> simp_all
    rw [hadd]
    obtain ⟨hj1,hj2⟩:=List.getElem?_eq_some_iff.1 hj
    rw [hd j hj1,hj2]) (fun u hu=>by obtain ⟨q1,q2,q3,rfl⟩:=hsl u hu;rfl) (by unfold maxLen;omega) (by omega) hbase
   exact ⟨v',w',h1,by unfold OwnVs;rw [List.length_append];exact h2,h3,h5⟩
theorem app_Vs2 {ops:Array Oper} {rest:List Oper} {o:Oper} {a:Act} {Q:Exit→Act→World→Prop} {w:World} (hgd:o.guard=none) (s x:Operand)
 (ho:o.op = .call { callee := .builtin .append,args:=#[s,x],argTypes:=#[34,34] })
 (base:Nat) (v xv:Value) (l b:List Value) (hs:a.eval s=v) (hown:OwnVs w base v l) (hx:a.eval x=xv) (hr:SVs w xv b) (hsl:∀ u∈b,IsSl u) (hl:l.length+b.length≤5000000000) (hbase:base≤w.heap.size)
 (h:∀ v' w',OwnVs w' base v' (l++b)→w.grownBy w' v.ownBlock→wpList Tryz.prog ops Q rest (a.put o.dst v') w'):wpList Tryz.prog ops Q (o::rest) a w:=by
 refine wpList_plain hgd fun K hK => ?_
 obtain ⟨v',w',hr2,h1,h2,_⟩:=run_appVs w o.type base v l b xv hown hr hsl hl hbase
 unfold Oper.wp execOp
 simp only [ho,resolve,invoke,builtin,Sem.run_bind,Sem.run_pure,Result.andThen_ok,List.map_toArray,List.map_cons,List.map_nil,hs,hx,hr2]
 exact hK _ _ (h v' w' h1 h2)
set_option maxHeartbeats 4000000 in
theorem growS_any (n:Nat) (hn0:0<n) (hn:n≤1000000000) (w:World):Calls Tryz.prog 166 #[.slice none 0 0,.int .i64 n] w fun e w'=>∃ cap,e = .returned (.slice (some ⟨w.heap.size,0,none⟩) 0 cap)∧OwnVs w' w.heap.size (.slice (some ⟨w.heap.size,0,none⟩) 0 cap) []∧Grown w w':=by
 obtain ⟨i0,hi0,hz0,hz1,hz2⟩:=info_parts iinfo40
 have hr:=fun W ty=>Go.Lib.run_append_nil_zeros (P:=Tryz.prog) W 34 3 ty 40 i0 (.slice none 0 0) .i64 .i64 Tryz.underlying34 Tryz.underlying3 hi0 hz0 n hn0 (by rw [hz1];decide) (by omega) (by rw [hz2];omega)
 have HR:=Hid.mk' hr
 have nI:(n:Int)≤1000000000:=by omega
 have n0:(0:Int)<(n:Int):=by omega
 clear hr
 go_enter Tryz.func166,Tryz.ntmps166
 go_wp2_with (at_builtin;go_must (refine Go.Lib.wpList_append_run _ rfl _ _ 34 3 rfl _ _ rfl rfl _ _ (HR.out _ _) ?_))
 go_ret
 refine ⟨grownCap w n 0 40,rfl,⟨rfl,.inr ⟨w.heap.size,grownCap w n 0 40,_,rfl,Nat.le_refl _,heap_alloc_new w _,Nat.zero_le _,grownCap_le_maxLen w n 0 40 (by unfold maxLen;omega),?_,by simp⟩⟩,((Grown.refl _).alloc _).drew⟩
 have:=grownCap_ge w n 0 40
 simp only [Array.size_append,size_zeroCells]
 show n*1+(grownCap w n 0 40 - n)*1=_
 omega
set_option maxHeartbeats 8000000 in
theorem concatS_any (b:Nat) (v1 v2:Value) (l1 l2:List Value) (w:World) (c1:w.cell? ⟨b,0,none⟩=some v1) (c2:w.cell? ⟨b,1,none⟩=some v2) (h1:SVs w v1 l1) (h2:SVs w v2 l2) (hs1:∀ u∈l1,IsSl u) (hs2:∀ u∈l2,IsSl u) (h0:0<l1.length+l2.length) (hn:l1.length+l2.length≤1000000000) :
 Calls Tryz.prog 134 #[.slice (some ⟨b,0,none⟩) 2 2] w fun e w'=>∃ v',e = .returned v'∧OwnVs w' w.heap.size v' (l1++l2)∧Below w.heap.size w w':=by
 have H1:Hid (∀ V,Below w.heap.size w V→SVs V v1 l1):=fun V hb=>h1.below hb (Nat.le_refl _)
 have H2:Hid (∀ V,Below w.heap.size w V→SVs V v2 l2):=fun V hb=>h2.below hb (Nat.le_refl _)
 have HC1:Hid (∀ V,Below w.heap.size w V→V.cell? ⟨b,0,none⟩=some v1∧V.cell? ⟨b,1,none⟩=some v2):=fun V hb=>⟨cell_below c1 hb (Nat.le_refl _),cell_below c2 hb (Nat.le_refl _)⟩
 have HG:=Hid.mk' (fun W=>growS_any (l1.length+l2.length) h0 hn W)
 obtain ⟨x1,x3,e1,_,_⟩:=h1
 obtain ⟨y1,y3,e2,_,_⟩:=h2
 obtain ⟨n1,hn1⟩:∃ n1,l1.length=n1:=⟨_,rfl⟩
 obtain ⟨n2,hn2⟩:∃ n2,l2.length=n2:=⟨_,rfl⟩
 have HN1:=Hid.mk' hn1
 have HN2:=Hid.mk' hn2
 rw [hn1] at e1 hn HG
 rw [hn2] at e2 hn HG
 subst e1 e2
 have n1I:(n1:Int)≤1000000000:=by omega
 have n2I:(n2:Int)≤1000000000:=by omega
 have n10:(0:Int)≤(n1:Int):=by omega
 have n20:(0:Int)≤(n2:Int):=by omega
 have ns:(n1:Int)+(n2:Int)≤1000000000:=by omega
 have ncast:((n1+n2:Nat):Int)=(n1:Int)+(n2:Int):=by omega
 rw [ncast] at HG
 clear hn1 hn2 h0 ncast
 go_enter Tryz.func134,Tryz.ntmps134
 go_wp2
 refine wp_loop_rounds 3 ?_
 rw [rounds_succ]
 go_wp2
 rw [rounds_succ]
 go_wp2
 rw [rounds_succ]
 go_wp2_with (go_at_call 166;refine (HG.out _).mono ?_;rintro e w1 ⟨cap,rfl,hO1,hG1⟩;have HO1:=Hid.mk' hO1;have HG1:=Hid.mk' hG1;clear hO1 hG1)
 have hB1:Below w.heap.size w w1:=HG1.out.below
 obtain ⟨d1,d2⟩:=HC1.out w1 hB1
 have HB1:=Hid.mk' hB1
 clear c1 c2 hB1
 refine wp_loop_rounds 3 ?_
 rw [rounds_succ]
 go_wp2_with (at_builtin;go_must (refine app_Vs2 rfl _ _ rfl w.heap.size _ _ [] l1 rfl HO1.out rfl (H1.out w1 HB1.out) hs1 (by rw [HN1.out];simp;omega) HB1.out.size ?_;intro v2 w2 hO2 hg2;have HO2:Hid (OwnVs w2 w.heap.size v2 l1):=hO2;have HB2:Hid (Below w.heap.size w w2):=HB1.out.grown hg2 HB1.out.size (fun k hk=>(World.ownsRow.lt HO1.out k hk).1);obtain ⟨p1,p2,p3,hv2⟩:=hO2.sv.sl;subst hv2;clear hO2 hg2))
 obtain ⟨f1,f2⟩:=HC1.out w2 HB2.out
 rw [rounds_succ]
 go_wp2_with (at_builtin;go_must (refine app_Vs2 rfl _ _ rfl w.heap.size _ _ l1 l2 rfl HO2.out rfl (H2.out w2 HB2.out) hs2 (by rw [HN1.out,HN2.out];omega) HB2.out.size ?_;intro v3 w3 hO3 hg3;have HO3:Hid (OwnVs w3 w.heap.size v3 (l1++l2)):=hO3;have HB3:Hid (Below w.heap.size w w3):=HB2.out.grown hg3 HB2.out.size (fun k hk=>(World.ownsRow.lt HO2.out k hk).1);obtain ⟨q1,q2,q3,hv3⟩:=hO3.sv.sl;subst hv3;clear hO3 hg3))
 rw [rounds_succ]
 go_wp2
 go_ret
 exact ⟨_,rfl,HO3.out,HB3.out⟩
end Go.Proofs
namespace Go.Proofs
open Go.Shelf
def Tryz.keysA_ren:Go.Shelf.Ren:=⟨fun | 7=>111 | 10=>146 | n=>n,fun | 23=>118 | 26=>3 | 3=>3 | 28=>147 | 0=>0 | 27=>146 | 33=>105 | 4=>4 | n=>n,fun | n=>n⟩
theorem Tryz.keysA:Go.Proofs.SlLaysZI.n7 Tryz.prog Tryz.keysA_ren := {
 mixed:=by kernel_rfl
 f7:=⟨Tryz.f111.name,by decide,Tryz.func111.trans (congrArg some (by kernel_rfl))⟩
 f10:=⟨Tryz.f146.name,by decide,Tryz.func146.trans (congrArg some (by kernel_rfl))⟩
 t0:=Tryz.underlying0
 a0:=Tryz.isAgg0
 z0:=Tryz.sizeOf0
 v0:=Tryz.zeroValue0
 t4:=Tryz.underlying4
 a4:=Tryz.isAgg4
 z4:=Tryz.sizeOf4
 v4:=Tryz.zeroValue4
 t23:=Tryz.underlying118
 a23:=Tryz.isAgg118
 z23:=Tryz.sizeOf118
 v23:=Tryz.zeroValue118
 t26:=Tryz.underlying3
 a26:=Tryz.isAgg3
 z26:=Tryz.sizeOf3
 v26:=Tryz.zeroValue3
 t27:=Tryz.underlying146
 a27:=Tryz.isAgg146
 z27:=Tryz.sizeOf146
 v27:=Tryz.zeroValue146
 t28:=Tryz.underlying147
 a28:=Tryz.isAgg147
 z28:=Tryz.sizeOf147
 v28:=Tryz.zeroValue147
 t33:=Tryz.underlying105
 a33:=Tryz.isAgg105
 z33:=Tryz.sizeOf105
 v33:=Tryz.zeroValue105 }
def Tryz.sortedA_ren:Go.Shelf.Ren:=⟨fun | 6=>110 | 8=>144 | 9=>145 | 11=>172 | 13=>174 | 12=>173 | 23=>200 | 24=>201 | 14=>191 | 15=>192 | 16=>193 | 17=>194 | 18=>195 | 19=>196 | 20=>197 | 21=>198 | 22=>199 | 25=>213 | 26=>214 | 27=>215 | 28=>216 | 29=>217 | 30=>218 | 31=>226 | n=>n,fun | 26=>3 | 28=>147 | 24=>49 | 0=>0 | 3=>3 | 37=>189 | 48=>224 | 50=>226 | 4=>4 | 40=>218 | 39=>217 | 45=>134 | 5=>5 | 9=>9 | 51=>233 | 55=>237 | 57=>247 | 58=>112 | 33=>105 | n=>n,fun | n=>n⟩
theorem Tryz.sortedA:Go.Proofs.SlLaysZI.n6 Tryz.prog Tryz.sortedA_ren := {
 mixed:=by kernel_rfl
 f6:=⟨Tryz.f110.name,by decide,Tryz.func110.trans (congrArg some (by kernel_rfl))⟩
 f8:=⟨Tryz.f144.name,by decide,Tryz.func144.trans (congrArg some (by kernel_rfl))⟩
 f11:=⟨Tryz.f172.name,by decide,Tryz.func172.trans (congrArg some (by kernel_rfl))⟩
 t0:=Tryz.underlying0
 a0:=Tryz.isAgg0
 z0:=Tryz.sizeOf0
 v0:=Tryz.zeroValue0
 t24:=Tryz.underlying49
 a24:=Tryz.isAgg49
 z24:=Tryz.sizeOf49
 v24:=Tryz.zeroValue49
 t26:=Tryz.underlying3
 a26:=Tryz.isAgg3
 z26:=Tryz.sizeOf3
 v26:=Tryz.zeroValue3
 t28:=Tryz.underlying147
 a28:=Tryz.isAgg147
 z28:=Tryz.sizeOf147
 v28:=Tryz.zeroValue147
 i26:=by kernel_rfl }
def Tryz.sortA_ren:Go.Shelf.Ren:=⟨fun | 5=>145 | 8=>174 | 7=>173 | 19=>200 | 20=>201 | 10=>191 | 11=>192 | 12=>193 | 13=>194 | 14=>195 | 15=>196 | 16=>197 | 17=>198 | 18=>199 | 30=>213 | 31=>214 | 32=>215 | 33=>216 | 34=>217 | 35=>218 | 40=>226 | n=>n,fun | 23=>49 | 25=>3 | 3=>3 | 32=>189 | 22=>49 | 0=>0 | 44=>224 | 46=>226 | 4=>4 | 36=>218 | 35=>217 | 41=>134 | 5=>5 | 9=>9 | 53=>233 | 57=>237 | 63=>247 | 64=>112 | n=>n,fun | n=>n⟩
theorem Tryz.sortA:Go.Proofs.SlLaysM.n5 Tryz.prog Tryz.sortA_ren := {
 mixed:=by kernel_rfl
 f5:=⟨Tryz.f145.name,by decide,Tryz.func145.trans (congrArg some (by kernel_rfl))⟩
 f7:=⟨Tryz.f173.name,by decide,Tryz.func173.trans (congrArg some (by kernel_rfl))⟩
 f8:=Tryz.func174.trans (congrArg some (by kernel_rfl))
 f10:=⟨Tryz.f191.name,by decide,Tryz.func191.trans (congrArg some (by kernel_rfl))⟩
 f11:=⟨Tryz.f192.name,by decide,Tryz.func192.trans (congrArg some (by kernel_rfl))⟩
 f12:=⟨Tryz.f193.name,by decide,Tryz.func193.trans (congrArg some (by kernel_rfl))⟩
 f13:=⟨Tryz.f194.name,by decide,Tryz.func194.trans (congrArg some (by kernel_rfl))⟩
 f14:=⟨Tryz.f195.name,by decide,Tryz.func195.trans (congrArg some (by kernel_rfl))⟩
 f15:=⟨Tryz.f196.name,by decide,Tryz.func196.trans (congrArg some (by kernel_rfl))⟩
 f16:=⟨Tryz.f197.name,by decide,Tryz.func197.trans (congrArg some (by kernel_rfl))⟩
 f17:=⟨Tryz.f198.name,by decide,Tryz.func198.trans (congrArg some (by kernel_rfl))⟩
 f18:=⟨Tryz.f199.name,by decide,Tryz.func199.trans (congrArg some (by kernel_rfl))⟩
 f19:=Tryz.func200.trans (congrArg some (by kernel_rfl))
 f20:=Tryz.func201.trans (congrArg some (by kernel_rfl))
 f30:=⟨Tryz.f213.name,by decide,Tryz.func213.trans (congrArg some (by kernel_rfl))⟩
 f31:=Tryz.func214.trans (congrArg some (by kernel_rfl))
 f32:=Tryz.func215.trans (congrArg some (by kernel_rfl))
 f33:=⟨Tryz.f216.name,by decide,Tryz.func216.trans (congrArg some (by kernel_rfl))⟩
 f34:=⟨Tryz.f217.name,by decide,Tryz.func217.trans (congrArg some (by kernel_rfl))⟩
 f35:=⟨Tryz.f218.name,by decide,Tryz.func218.trans (congrArg some (by kernel_rfl))⟩
 f40:=⟨Tryz.f226.name,by decide,Tryz.func226.trans (congrArg some (by kernel_rfl))⟩
 t0:=Tryz.underlying0
 a0:=Tryz.isAgg0
 z0:=Tryz.sizeOf0
 v0:=Tryz.zeroValue0
 t3:=Tryz.underlying3
 a3:=Tryz.isAgg3
 z3:=Tryz.sizeOf3
 v3:=Tryz.zeroValue3
 t4:=Tryz.underlying4
 a4:=Tryz.isAgg4
 z4:=Tryz.sizeOf4
 v4:=Tryz.zeroValue4
 t5:=Tryz.underlying5
 a5:=Tryz.isAgg5
 z5:=Tryz.sizeOf5
 v5:=Tryz.zeroValue5
 t9:=Tryz.underlying9
 a9:=Tryz.isAgg9
 z9:=Tryz.sizeOf9
 v9:=Tryz.zeroValue9
 t22:=Tryz.underlying49
 a22:=Tryz.isAgg49
 z22:=Tryz.sizeOf49
 v22:=Tryz.zeroValue49
 t23:=Tryz.underlying49
 a23:=Tryz.isAgg49
 z23:=Tryz.sizeOf49
 v23:=Tryz.zeroValue49
 t25:=Tryz.underlying3
 a25:=Tryz.isAgg3
 z25:=Tryz.sizeOf3
 v25:=Tryz.zeroValue3
 t32:=Tryz.underlying189
 a32:=Tryz.isAgg189
 z32:=Tryz.sizeOf189
 v32:=Tryz.zeroValue189
 t35:=Tryz.underlying217
 a35:=Tryz.isAgg217
 z35:=Tryz.sizeOf217
 v35:=Tryz.zeroValue217
 t36:=Tryz.underlying218
 a36:=Tryz.isAgg218
 z36:=Tryz.sizeOf218
 v36:=Tryz.zeroValue218
 t41:=Tryz.underlying134
 a41:=Tryz.isAgg134
 z41:=Tryz.sizeOf134
 v41:=Tryz.zeroValue134
 t44:=Tryz.underlying224
 a44:=Tryz.isAgg224
 z44:=Tryz.sizeOf224
 v44:=Tryz.zeroValue224
 t46:=Tryz.underlying226
 a46:=Tryz.isAgg226
 z46:=Tryz.sizeOf226
 v46:=Tryz.zeroValue226
 t53:=Tryz.underlying233
 a53:=Tryz.isAgg233
 z53:=Tryz.sizeOf233
 v53:=Tryz.zeroValue233
 t57:=Tryz.underlying237
 a57:=Tryz.isAgg237
 z57:=Tryz.sizeOf237
 v57:=Tryz.zeroValue237
 t63:=Tryz.underlying247
 a63:=Tryz.isAgg247
 z63:=Tryz.sizeOf247
 v63:=Tryz.zeroValue247
 t64:=Tryz.underlying112
 a64:=Tryz.isAgg112
 z64:=Tryz.sizeOf112
 v64:=Tryz.zeroValue112 }
end Go.Proofs
namespace Go.Proofs
open Go.RowKit Go.Shelf
set_option maxRecDepth 100000
attribute [local go_sem] Oper.semAt_some
def delM (f:Int→Option Value) (k:Int):Int→Option Value:=fun x=>if x=k then none else f x
theorem IMap.drop {W:World} {m N:Nat} {f:Int→Option Value} (h:IMap W m N f) {t e:TypeId} (ht:Tryz.prog.underlying t=some (.map 3 e)) {k:Int} (hk:InI k) (ty:TypeId) :
 ∃ w',(Builtin.delete_ #[t,3] ty #[.map (some m),.int .i64 k]).run Tryz.prog W = .ok (.tuple #[]) w'∧IMap w' m N (delM f k)∧W.mapTurned w' m:=by
 obtain ⟨n,D,hD,hn,hK⟩:=h
 obtain ⟨w',hrun,hD',ht⟩:=hD.drop key3 ht (keyI hk) ty
 refine ⟨w',hrun,⟨n,_,hD',by omega,fun x => ?_⟩,ht⟩
 by_cases hx:x=k
 · subst hx
   have e1:delM f x x=none:=by simp [delM]
   rw [e1]
   exact ⟨Maps.has_del_same,fun v hv=>by cases hv⟩
 · have e1:delM f k x=f x:=by simp [delM,hx]
   have hne:(Lit.int .i64 x)≠Lit.int .i64 k:=fun e=>hx (by injection e)
   rw [e1,Maps.has_del_other hne]
   refine ⟨(hK x).1,fun u hu z => ?_⟩
   rw [Maps.atKey_del_other hne]
   exact (hK x).2 u hu z
def cntF (c:Int→Int):Int→Option Value:=fun k=>if c k=0 then none else some (.int .i64 (c k))
theorem cntF_get (c:Int→Int) (k:Int):(cntF c k).getD (.int .i64 0) = .int .i64 (c k):=by
 unfold cntF
 by_cases h:c k=0
 · rw [if_pos h,h];rfl
 · rw [if_neg h];rfl
def addC (c:Int→Int) (at_ by_:Int):Int→Int:=fun x=>if x=at_ then c x+by_ else c x
theorem cntF_add0 {c:Int→Int} {k y:Int} (h:c k+y=0):delM (updM (cntF c) k (.int .i64 (c k+y))) k=cntF (addC c k y):=by
 funext x
 unfold delM updM cntF addC
 by_cases hx:x=k
 · subst hx
   rw [if_pos rfl,if_pos rfl,if_pos h]
 · rw [if_neg hx,if_neg hx,if_neg hx]
theorem cntF_add1 {c:Int→Int} {k y:Int} (h:c k+y≠0):updM (cntF c) k (.int .i64 (c k+y))=cntF (addC c k y):=by
 funext x
 unfold updM cntF addC
 by_cases hx:x=k
 · subst hx
   rw [if_pos rfl,if_pos rfl,if_neg h]
 · rw [if_neg hx,if_neg hx]
end Go.Proofs
namespace Go.Proofs
open Go.RowKit Go.Shelf
set_option maxRecDepth 100000
attribute [local go_sem] Oper.semAt_some
def Tn (m:Nat) (W W':World):Prop:=Below m W W'∧∀ b,b≠m→b<W.heap.size→W'.heap[b]? = W.heap[b]?
theorem Tn.refl (m:Nat) (W:World):Tn m W W:=⟨Below.refl _ _,fun _ _ _=>rfl⟩
theorem Tn.size {m:Nat} {W W':World} (h:Tn m W W'):W.heap.size≤W'.heap.size:=h.1.size
theorem Tn.trans {m:Nat} {a b c:World} (h:Tn m a b) (k:Tn m b c):Tn m a c:=⟨h.1.trans k.1,fun x hx hl=>(k.2 x hx (Nat.lt_of_lt_of_le hl h.size)).trans (h.2 x hx hl)⟩
theorem Tn.grown {m:Nat} {W W':World} (hm:m≤W.heap.size) (h:Grown W W'):Tn m W W':=⟨h.below.mono hm,fun b _ hl=>h.below.block b hl⟩
theorem Tn.alloc {m:Nat} {W W':World} (h:Tn m W W') (hm:m≤W.heap.size) (o:Obj):Tn m W (W'.alloc o):=h.trans (Tn.grown (Nat.le_trans hm h.size) ((Grown.refl _).alloc o))
theorem Tn.turned {m:Nat} {W W':World} (h:W.mapTurned W' m):Tn m W W':=⟨turned_below h (Nat.le_refl _),fun _ hb _=>turned_other h hb⟩
theorem IMap.lt {W:World} {m N:Nat} {f:Int→Option Value} (h:IMap W m N f):m<W.heap.size:=by
 obtain ⟨es,c,hb⟩:=h.isMap
 exact (Array.getElem?_eq_some_iff.1 hb).1
def TuQ (m N:Nat) (c:Int→Int) (W:World) (e:Ending) (w':World):Prop:=e = .returned (.tuple #[])∧IMap w' m N (cntF c)∧Tn m W w'
set_option maxHeartbeats 1000000 in
theorem turn_any (W:World) (m N:Nat) (c:Int→Int) (at' by':Int) (h:IMap W m N (cntF c)) (hN:N≤1000000000) (hat : -100000000≤at'∧at'≤100000000) (hb : -1≤by'∧by'≤1) (hc:∀ k,-(N:Int)≤c k∧c k≤(N:Int)) :
 Calls Tryz.prog 109 #[.map (some m),.int .i64 at',.int .i64 by'] W (TuQ m (N+1) (addC c at' by') W):=by
 have hI:InI at':=⟨by omega,by omega⟩
 have hc1:=hc at'
 have hl1:=h.look (t:=118) (e:=3) Tryz.underlying118 (zero3 _) hI
 rw [cntF_get] at hl1
 obtain ⟨x,hx⟩:∃ x,c at'=x:=⟨_,rfl⟩
 have hxb : -1000000000≤x∧x≤1000000000:=by omega
 have hw:IntKind.i64.wrap (x+by')=x+by':=by rw [IntKind.wrap_i64];omega
 obtain ⟨W1,hr1,hI1,ht1⟩:=h.store (by omega) Tryz.underlying118 hI (.int .i64 (x+by'))
 have hl2:=hI1.look (t:=118) (e:=3) Tryz.underlying118 (zero3 _) hI
 have e2:(updM (cntF c) at' (.int .i64 (x+by')) at').getD (.int .i64 0) = .int .i64 (x+by'):=by simp [updM]
 rw [e2] at hl2
 rw [hx] at hl1
 have HY:Hid (c at'+by'=x+by'):=by show _=_;rw [hx]
 have HT1:Hid (W.mapTurned W1 m):=ht1
 have HI1:Hid (IMap W1 m (N+1) (updM (cntF c) at' (.int .i64 (x+by')))):=hI1
 by_cases h0:x+by'=0
 · obtain ⟨W2,hr2,hI2,ht2⟩:=hI1.drop (t:=118) (e:=3) Tryz.underlying118 hI 0
   have HR:Hid (TuQ m (N+1) (addC c at' by') W (.returned (.tuple #[])) W2):=by
    refine ⟨rfl,?_,(Tn.turned ht1).trans (Tn.turned ht2)⟩
    rw [←cntF_add0 (c:=c) (k:=at') (y:=by') (by rw [HY.out];exact h0),HY.out]
    exact hI2
   have d0:(x+by' == 0)=true:=by simpa using h0
   clear hI2 ht2 hI1 ht1 hx h hc hc1 e2 h0
   go_enter Tryz.func109,Tryz.ntmps109
   go_wp2
   refine bodyPost_end (results_none rfl _ _ _) rfl ?_
   exact HR.out
 · have HR:Hid (TuQ m (N+1) (addC c at' by') W (.returned (.tuple #[])) W1):=by
    refine ⟨rfl,?_,Tn.turned ht1⟩
    rw [←cntF_add1 (c:=c) (k:=at') (y:=by') (by rw [HY.out];exact h0),HY.out]
    exact hI1
   have d0:(x+by' == 0)=false:=by simpa using h0
   clear hI1 ht1 hx h hc hc1 e2 h0
   go_enter Tryz.func109,Tryz.ntmps109
   go_wp2
   refine bodyPost_end (results_none rfl _ _ _) rfl ?_
   exact HR.out
end Go.Proofs
