/-
  Several texts in one (Xlv Xmv).
-/
import Derived.Test.YtcfcjljapamcoaaGreatDoorMpuv
import Derived.Test.YtcfcjljapamcoaaGreatDoorMpev
import Derived.Test.YtcfcjljapamcoaaGreatDoorMgdv
namespace Go.Proofs
open Go.RowKit Go.Shelf
set_option maxRecDepth 100000
attribute [local go_sem] Oper.semAt_some
theorem app_types (ty:TypeId) (s:Value) (A:Option Addr) (m c:Nat) (w:World):(Builtin.append_ #[39,40] ty #[s,.slice A m c]).run Tryz.prog w=(Builtin.append_ #[39,39] ty #[s,.slice A m c]).run Tryz.prog w:=by
 obtain ⟨i0,hi,-,-,-⟩:=info_parts info38
 cases s <;> simp [Builtin.append_,run_underlying Tryz.underlying39,run_underlying Tryz.underlying40,Go.sizeOf,typeInfo,hi]
theorem run_appRs (w:World) (ty:TypeId) (base:Nat) (v:Value) (l b:List (Int × Int)) (xv:Value) (hown:OwnR w base v l) (hr:Rs w xv b) (hl:l.length+b.length≤5000000000) (hbase:base≤w.heap.size) :
 ∃ v' w',(Builtin.append_ #[39,39] ty #[v,xv]).run Tryz.prog w = .ok v' w'∧OwnR w' base v' (l++b)∧w.grownBy w' v.ownBlock:=by
 obtain ⟨i0,hi0,hz0,hz1,hz2⟩:=info_parts info38
 obtain ⟨A,c,rfl,hc,hr⟩:=hr
 by_cases he:b=[]
 · subst he
   obtain ⟨va,vc,hv,hvn,_⟩:=hown.rs
   subst hv
   have hr:=run_append_nothing (P:=Tryz.prog) w 39 39 ty 67 i0 Tryz.underlying39 hi0 va l.length vc hvn (.slice A 0 c) ⟨.inl ⟨67,Tryz.underlying39⟩,fun w'=>by cases A <;> simp [Builtin.lenOf,go_sem],by cases A <;> simp [Builtin.firstCells,go_sem],by cases A <;> simp [Builtin.firstCells,go_sem],by simp,by simp⟩
   exact ⟨_,w,hr,by simpa using hown,⟨rfl,rfl,rfl,Nat.le_refl _,fun _ _ _=>rfl⟩⟩
 · obtain ⟨g1,o',rfl,hd⟩:=hr.resolve_left he
   obtain ⟨v',w',h1,h2,h3,h4,h5⟩:=run_append_own_at (P:=Tryz.prog) w base 39 ty 67 i0 (.agg #[.int .i64 0,.int .i64 0]) 2 16 Tryz.underlying39 hi0 hz0 hz1 hz2 rfl (by decide) v l.length (fl l) hown ⟨g1,o',none⟩ b.length c (fl b) (fl_length b) (fun j u hj=>by
    rw [add_none]
    have hjl:j<b.length*2:=by rw [←fl_length];exact (List.getElem?_eq_some_iff.1 hj).1
    obtain ⟨i,hi⟩:∃ i,j=i*2∨j=i*2+1:=⟨j / 2,by omega⟩
    have hil:i<b.length:=by omega
    have k1:=hd i hil
    have k2:=fl_at b hil
    rcases hi with rfl | rfl
    · rw [k2.1] at hj;injection hj with hj;subst hj;exact k1.1
    · rw [k2.2] at hj;injection hj with hj;subst hj;rw [←Nat.add_assoc];exact k1.2) (fl_one _) (by unfold maxLen;omega) (by omega) hbase
   exact ⟨v',w',h1,by unfold OwnR;rw [List.length_append,fl_append];exact h2,h3⟩
theorem app_Rs {ops:Array Oper} {rest:List Oper} {o:Oper} {a:Act} {Q:Exit→Act→World→Prop} {w:World} (hgd:o.guard=none) (s x:Operand) (t:TypeId) (ht:t=39∨t=40)
 (ho:o.op = .call { callee := .builtin .append,args:=#[s,x],argTypes:=#[39,t] })
 (base:Nat) (v xv:Value) (l b:List (Int × Int)) (hs:a.eval s=v) (hown:OwnR w base v l) (hx:a.eval x=xv) (hr:Rs w xv b) (hl:l.length+b.length≤5000000000) (hbase:base≤w.heap.size)
 (h:∀ y1 y3 w',OwnR w' base (.slice y1 (l++b).length y3) (l++b)→w.grownBy w' v.ownBlock→wpList Tryz.prog ops Q rest (a.put o.dst (.slice y1 (l++b).length y3)) w'):wpList Tryz.prog ops Q (o::rest) a w:=by
 refine wpList_plain hgd fun K hK => ?_
 obtain ⟨v',w',hr2,h1,h2⟩:=run_appRs w o.type base v l b xv hown hr hl hbase
 obtain ⟨y1,y3,rfl,_⟩:=h1.rs
 have hr3:(Builtin.append_ #[39,t] o.type #[v,xv]).run Tryz.prog w = .ok (.slice y1 (l++b).length y3) w':=by
  rcases ht with rfl | rfl
  · exact hr2
  · obtain ⟨A,c,rfl,_⟩:=hr
    rw [app_types]
    exact hr2
 unfold Oper.wp execOp
 simp only [ho,resolve,invoke,builtin,Sem.run_bind,Sem.run_pure,Result.andThen_ok,List.map_toArray,List.map_cons,List.map_nil,hs,hx,hr3]
 exact hK _ _ (h y1 y3 w' h1 h2)
theorem rAny_any (w:World):Calls Tryz.prog 48 #[] w fun e w'=>∃ y1 y3,e = .returned (.slice y1 3 y3)∧Rs w' (.slice y1 3 y3) allU∧Below w.heap.size w w':=by
 go_enter Tryz.func48,Tryz.ntmps48
 go_wp2_with fail
 refine (domain_any w).mono ?_
 rintro e w1 ⟨rfl,rfl⟩
 go_wp2
 go_ret
 refine ⟨_,_,rfl,⟨_,3,rfl,Nat.le_refl _,.inr ⟨_,_,rfl,fun j hj => ?_⟩⟩,(Below.refl _ w).alloc (Nat.le_refl _) _⟩
 have hj3:j=0∨j=1∨j=2:=by simp [allU] at hj;omega
 rcases hj3 with rfl | rfl | rfl
 · exact ⟨by rw [cell_of (World.alloc_heap_new _ _)];rfl,by rw [cell_of (World.alloc_heap_new _ _)];rfl⟩
 · exact ⟨by rw [cell_of (World.alloc_heap_new _ _)];rfl,by rw [cell_of (World.alloc_heap_new _ _)];rfl⟩
 · exact ⟨by rw [cell_of (World.alloc_heap_new _ _)];rfl,by rw [cell_of (World.alloc_heap_new _ _)];rfl⟩
end Go.Proofs
namespace Go.Proofs
open Go.RowKit Go.Shelf
set_option maxRecDepth 100000
attribute [local go_sem] Oper.semAt_some
theorem inL_append (a b:List (Int × Int)) (u:Int):inL (a++b) u=(inL a u || inL b u):=by simp [inL]
theorem inL_one (x:Int × Int) (u:Int):inL [x] u=true↔x.1≤u∧u≤x.2:=by rw [inL_cons];simp [inL,inR]
theorem up_snoc {s:List (Int × Int)} {x:Int × Int} : Up (s++[x])↔Up s∧(∀ y∈s,y.2+1<x.1)∧x.1≤x.2:=by
 unfold Up
 rw [List.pairwise_append]
 constructor
 · rintro ⟨⟨h1,_,h3⟩,h4⟩
   exact ⟨⟨h1,fun y hy=>h4 y (by simp [hy])⟩,fun y hy=>h3 y hy x (by simp),h4 x (by simp)⟩
 · rintro ⟨⟨h1,h2⟩,h3,h4⟩
   refine ⟨⟨h1,by simp,fun y hy z hz => ?_⟩,fun y hy => ?_⟩
   · simp only [List.mem_singleton] at hz;subst hz;exact h3 y hy
   · rcases List.mem_append.1 hy with hy | hy
     · exact h2 y hy
     · simp only [List.mem_singleton] at hy;subst hy;exact h4
structure ParI (L:List Int) (K:Nat→Bool) (i:Nat) (out:List (Int × Int)):Prop where
 up:Up out
 lt:∀ x∈out,x.2<bAt L i
 ge:∀ x∈out,bAt L 0≤x.1
 inn:∀ u,inL out u=true↔∃ j,j<i∧K j=true∧bAt L j≤u∧u<bAt L (j+1)
theorem ParI.skip {L:List Int} (hp:L.Pairwise (· < ·)) {K:Nat→Bool} {i:Nat} {out:List (Int × Int)} (h:ParI L K i out) (hi:i+1<L.length) (hk:K i=false):ParI L K (i+1) out:=
 ⟨h.up,fun x hx=>Int.lt_trans (h.lt x hx) (rise_lt hp (by omega) hi),h.ge,fun u=>by
  rw [h.inn]
  constructor
  · rintro ⟨j,h1,h2⟩;exact ⟨j,by omega,h2⟩
  · rintro ⟨j,h1,h2,h3⟩
    by_cases e:j=i
    · subst e;rw [hk] at h2;cases h2
    · exact ⟨j,by omega,h2,h3⟩⟩
theorem ParI.inn_succ {L:List Int} {K:Nat→Bool} {i:Nat} (hk:K i=true) (u:Int):(∃ j,j<i+1∧K j=true∧bAt L j≤u∧u<bAt L (j+1))↔((∃ j,j<i∧K j=true∧bAt L j≤u∧u<bAt L (j+1))∨bAt L i≤u∧u<bAt L (i+1)):=by
 constructor
 · rintro ⟨j,h1,h2,h3⟩
   by_cases e:j=i
   · subst e;exact .inr h3
   · exact .inl ⟨j,by omega,h2,h3⟩
 · rintro (⟨j,h1,h2⟩ | h)
   · exact ⟨j,by omega,h2⟩
   · exact ⟨i,by omega,hk,h⟩
theorem ParI.new {L:List Int} (hp:L.Pairwise (· < ·)) {K:Nat→Bool} {i:Nat} {out:List (Int × Int)} (h:ParI L K i out) (hi:i+1<L.length) (hk:K i=true) (hn:∀ x,out.getLast? = some x→x.2+1≠bAt L i):ParI L K (i+1) (out++[(bAt L i,bAt L (i+1) - 1)]):=by
 have hlt:=rise_lt hp (show i<i+1 by omega) hi
 have h0:=rise_le hp (show 0≤i by omega) (show i<L.length by omega)
 refine ⟨up_snoc.2 ⟨h.up,fun y hy => ?_,by simp only;omega⟩,fun x hx => ?_,fun x hx => ?_,fun u => ?_⟩
 · show y.2+1<bAt L i
   have h1:=h.lt y hy
   rcases List.eq_nil_or_concat out with e | ⟨s,x,e⟩
   · rw [e] at hy;simp at hy
   · rw [List.concat_eq_append] at e
     have hx:=hn x (by rw [e];simp)
     have hu:=up_snoc.1 (by rw [←e];exact h.up)
     rw [e] at hy
     rcases List.mem_append.1 hy with hy | hy
     · have h2:=hu.2.1 y hy
       have h3:=h.lt x (by rw [e];simp)
       have h4:=hu.2.2
       omega
     · simp only [List.mem_singleton] at hy
       subst hy
       omega
 · rcases List.mem_append.1 hx with hx | hx
   · exact Int.lt_trans (h.lt x hx) hlt
   · simp only [List.mem_singleton] at hx;subst hx;simp only;omega
 · rcases List.mem_append.1 hx with hx | hx
   · exact h.ge x hx
   · simp only [List.mem_singleton] at hx;subst hx;exact h0
 · rw [inL_append,Bool.or_eq_true,h.inn,inL_one,ParI.inn_succ hk]
   simp only
   constructor
   · rintro (h1 | h1)
     · exact .inl h1
     · exact .inr ⟨h1.1,by omega⟩
   · rintro (h1 | h1)
     · exact .inl h1
     · exact .inr ⟨h1.1,by omega⟩
theorem ParI.join {L:List Int} (hp:L.Pairwise (· < ·)) {K:Nat→Bool} {i:Nat} {s:List (Int × Int)} {x:Int × Int} (h:ParI L K i (s++[x])) (hi:i+1<L.length) (hk:K i=true) (hn:x.2+1=bAt L i):ParI L K (i+1) (s++[(x.1,bAt L (i+1) - 1)]):=by
 have hlt:=rise_lt hp (show i<i+1 by omega) hi
 have hu:=up_snoc.1 h.up
 refine ⟨up_snoc.2 ⟨hu.1,hu.2.1,by have:=hu.2.2;simp only;omega⟩,fun y hy => ?_,fun y hy => ?_,fun u => ?_⟩
 · rcases List.mem_append.1 hy with hy | hy
   · exact Int.lt_trans (h.lt y (by simp [hy])) hlt
   · simp only [List.mem_singleton] at hy;subst hy;simp only;omega
 · rcases List.mem_append.1 hy with hy | hy
   · exact h.ge y (by simp [hy])
   · simp only [List.mem_singleton] at hy;subst hy;exact h.ge x (by simp)
 · rw [ParI.inn_succ hk,←h.inn,inL_append,inL_append,Bool.or_eq_true,Bool.or_eq_true,inL_one,inL_one]
   have:=hu.2.2
   simp only
   constructor
   · rintro (h1 | h1)
     · exact .inl (.inl h1)
     · by_cases h2:u≤x.2
       · exact .inl (.inr ⟨h1.1,h2⟩)
       · exact .inr ⟨by omega,by omega⟩
   · rintro ((h1 | h1) | h1)
     · exact .inl h1
     · exact .inr ⟨h1.1,by omega⟩
     · exact .inr ⟨by omega,by omega⟩
theorem ParI.zero (L:List Int) (K:Nat→Bool):ParI L K 0 []:=⟨⟨by simp,by simp⟩,by simp,by simp,fun u=>by simp [inL]⟩
theorem cnt_same {l:List (Int × Int)} {L:List Int} (hp:L.Pairwise (· < ·)) (hin:∀ x∈l,x.1∈L∧x.2+1∈L) {i:Nat} (hi:i+1<L.length) {u:Int} (h1:bAt L i≤u) (h2:u<bAt L (i+1)):cntL l u=cntL l (bAt L i):=by
 unfold cntL
 congr 2
 apply List.filter_congr
 intro x hx
 obtain ⟨a,ha,ea⟩:=List.getElem_of_mem (hin x hx).1
 obtain ⟨b,hb,eb⟩:=List.getElem_of_mem (hin x hx).2
 rw [←bAt_lt ha] at ea
 rw [←bAt_lt hb] at eb
 have key:∀ (k:Nat),k<L.length→(bAt L k≤u↔bAt L k≤bAt L i):=fun k hk=>by
  constructor
  · intro h
    rcases Nat.lt_or_ge i k with h3 | h3
    · have:=rise_le hp (show i+1≤k by omega) hk;omega
    · exact rise_le hp h3 (by omega)
  · intro h;omega
 have k1:=key a ha
 have k2:=key b hb
 apply bool_iff
 rw [inR_iff,inR_iff]
 omega
theorem cnt_out {l:List (Int × Int)} {L:List Int} (hp:L.Pairwise (· < ·)) (hin:∀ x∈l,x.1∈L∧x.2+1∈L) {u:Int} (hu:inL l u=true):∃ i,i+1<L.length∧bAt L i≤u∧u<bAt L (i+1):=by
 obtain ⟨x,hx,h⟩:=List.any_eq_true.1 hu
 have h:=(inR_iff x u).1 h
 obtain ⟨a,ha,ea⟩:=List.getElem_of_mem (hin x hx).1
 obtain ⟨b,hb,eb⟩:=List.getElem_of_mem (hin x hx).2
 rw [←bAt_lt ha] at ea
 rw [←bAt_lt hb] at eb
 have:∀ n,a+n<L.length→bAt L a≤u→(bAt L (a+n)≤u∨∃ i,i+1<L.length∧bAt L i≤u∧u<bAt L (i+1)):=by
  intro n
  induction n with
  | zero=>intro _ h;exact .inl h
  | succ n ih=>
   intro hn h0
   rcases ih (by omega) h0 with h1 | h1
   · by_cases h2:bAt L (a+(n+1))≤u
     · exact .inl h2
     · exact .inr ⟨a+n,by omega,h1,by rw [show a+n+1=a+(n+1) by omega];omega⟩
   · exact .inr h1
 have hab:a<b:=by
  rcases Nat.lt_or_ge a b with h1 | h1
  · exact h1
  · have:=rise_le hp h1 ha;omega
 rcases this (b - a) (by omega) (by omega) with h1 | h1
 · rw [show a+(b - a)=b by omega] at h1;omega
 · exact h1
def parK (L:List Int) (a g n:List (Int × Int)) (i:Nat):Bool := !(decide (cntL a (bAt L i)=0) || (decide (0<cntL g (bAt L i)) && decide (cntL n (bAt L i)=0)))
theorem ParI.units {L:List Int} {a g n:List (Int × Int)} (hp:L.Pairwise (· < ·)) (ha:∀ x∈a,x.1∈L∧x.2+1∈L) (hg:∀ x∈g,x.1∈L∧x.2+1∈L) (hn:∀ x∈n,x.1∈L∧x.2+1∈L) {out:List (Int × Int)} (h:ParI L (parK L a g n) (L.length - 1) out) (u:Int) :
 inL out u=true↔(inL a u=true∧¬ (inL g u=true∧¬ inL n u=true)):=by
 rw [h.inn]
 have z:∀ (l:List (Int × Int)),(cntL l u=0↔¬ inL l u=true):=fun l=>by
  rw [←cntL_pos]
  have:=cntL_nonneg l u
  omega
 have key:∀ i,i+1<L.length→bAt L i≤u→u<bAt L (i+1)→(parK L a g n i=true↔(inL a u=true∧¬ (inL g u=true∧¬ inL n u=true))):=fun i hi h1 h2=>by
  unfold parK
  rw [←cnt_same hp ha hi h1 h2,←cnt_same hp hg hi h1 h2,←cnt_same hp hn hi h1 h2]
  simp only [Bool.not_eq_true',Bool.or_eq_false_iff,decide_eq_false_iff_not,Bool.and_eq_false_iff]
  rw [z a,z n,cntL_pos]
  constructor
  · rintro ⟨h3,h4⟩
    exact ⟨Classical.not_not.1 h3,fun h5=>h4.elim (fun h6=>h6 h5.1) fun h6=>h6 h5.2⟩
  · rintro ⟨h3,h4⟩
    refine ⟨fun h5=>h5 h3,?_⟩
    by_cases h5:inL g u=true
    · exact .inr fun h6=>h4 ⟨h5,h6⟩
    · exact .inl h5
 constructor
 · rintro ⟨j,h1,h2,h3,h4⟩
   exact (key j (by omega) h3 h4).1 h2
 · intro h1
   obtain ⟨i,hi,h2,h3⟩:=cnt_out hp ha h1.1
   exact ⟨i,by omega,(key i hi h2 h3).2 h1,h2,h3⟩
theorem step_R {ops:Array Oper} {o:Oper} {a:Act} {K:Act→World→Prop} {Q:Exit→Act→World→Prop} {E:Prop} {w:World} (hgd:o.guard=none) (s x:Operand)
 (ho:o.op = .call { callee := .builtin .append,args:=#[s,x],argTypes:=#[40,40] })
 (base:Nat) (v:Value) (l:List (Int × Int)) (hs:a.eval s=v) (hown:OwnR w base v l) (g c:Nat) (p q:Int) (hx:a.eval x = .slice (some ⟨g,0,none⟩) 1 c)
 (hy:w.heap[g]? = some (.cells #[.int .i64 p,.int .i64 q] 67 (0,0))) (hl:l.length+1≤8000000) (hbase:base≤w.heap.size)
 (h:∀ B c' w',OwnR w' base (.slice (some ⟨B,0,none⟩) (l.length+1) c') (l++[(p,q)])→w.grownBy w' v.ownBlock→K (a.put o.dst (.slice (some ⟨B,0,none⟩) (l.length+1) c')) w') :
 if Region.wanted o (yielded ops a.tmps)=true then Oper.wp Tryz.prog o a w K Q else E:=by
 obtain ⟨i0,hi,hz0,hz1,hz2⟩:=info_parts info38
 refine step_append_lies w hgd s x 40 ho base 67 i0 (.agg #[.int .i64 0,.int .i64 0]) 2 16 Tryz.underlying40 hi hz0 hz1 hz2 rfl (by decide) v l.length (fl l) hs hown ⟨g,0,none⟩ 1 c (fl [(p,q)]) hx rfl ?_ (fl_one _) (by decide) (by unfold maxLen;omega) (by omega) hbase _ rfl (fun g' cap w' k2 k3 _ _ => ?_)
 · intro j u hj
   rw [add_zero_at]
   simp only [World.cell?,hy]
   simpa [fl] using hj
 · refine h _ _ w' ?_ k3
   unfold OwnR
   rw [List.length_append,fl_append]
   exact k2
theorem OwnR.last {w:World} {base g n c:Nat} {s:List (Int × Int)} {x:Int × Int} (h:OwnR w base (.slice (some ⟨g,0,none⟩) n c) (s++[x])) (y:Int):OwnR (w.setCell ⟨g,s.length*2+1,none⟩ (.int .i64 y)) base (.slice (some ⟨g,0,none⟩) n c) (s++[(x.1,y)])∧w.frozen? ⟨g,s.length*2+1,none⟩=false∧w.cell? ⟨g,s.length*2+1,none⟩=some (.int .i64 x.2):=by
 have hcel:=World.ownsRow.cells h rfl (s.length*2+1) (.int .i64 x.2) (by
  have:=(fl_at (s++[x]) (j:=s.length) (by simp)).2
  rw [this,rg_lt (by simp)]
  simp)
 rw [add_zero_at] at hcel
 unfold OwnR at h ⊢
 obtain ⟨h0,h1⟩:=h
 rcases h1 with ⟨e,h1⟩ | ⟨g',cap,cur,e,hb,hk,hc1,hc2,hc3,hc4⟩
 · cases e
 · injection e with e1 e2 e3
   injection e1 with e4
   injection e4 with e5
   subst e5 e2 e3
   refine ⟨⟨fl_length _,.inr ⟨g,c,cur.setIfInBounds (s.length*2+1) (.int .i64 y),by simp,hb,set_heap hk,by simpa using hc1,hc2,by simpa using hc3,?_⟩⟩,free_of hk,hcel⟩
   rw [Array.toList_setIfInBounds,List.take_set]
   have e1:(s++[(x.1,y)]).length=(s++[x]).length:=by simp
   rw [e1,hc4,fl_append,fl_append]
   have e2:(fl s).length=s.length*2:=fl_length s
   rw [List.set_append_right _ _ (by omega),e2]
   congr 1
   rw [show s.length*2+1 - s.length*2=1 by omega]
   simp [fl]
end Go.Proofs
