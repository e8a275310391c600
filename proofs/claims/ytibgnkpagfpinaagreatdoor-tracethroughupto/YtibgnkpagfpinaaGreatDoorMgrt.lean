/-
  Several texts in one (Pe B1 B2 B3 B0 B4).
-/
import Derived.RangeFuncNested
import Derived.RangeFuncBound
import Derived.RangeFuncCalls
import Derived.RangeFuncLeaves
import Derived.Shelf.Abstract
import Derived.Shelf.RegionOpen
import Derived.WalkKit
import Derived.WalkSpells
import Derived.WalkLawsBesides
import Derived.OwnWalkIn
import Derived.TacticsInMore
import Derived.LoopNIn
import Derived.LoopIn
import Derived.BigQuiet
import Derived.RegionIn
import Derived.Deep.QuietTactic
import Derived.Deep.RegionWith
import Derived.Lib.OthersKept
import Derived.Maps.AppendAt
import Derived.Lib.SmallJoins
import Derived.Shelf.SlSortCmp.QuietGrown
import Derived.RangeFuncWrites
import Derived.RangeFuncBox
import Derived.Maps.OwnIn
import Derived.Test.YtibgnkpagfpinaaGreatDoorMgot
import Derived.Test.YtibgnkpagfpinaaGreatDoorMgpt
import Derived.Test.YtibgnkpagfpinaaGreatDoorMgqt
import Derived.Deep.AppendLies
import Derived.Test.YtibgnkpagfpinaaGreatDoorMgnt
import Derived.Deep.Upon
import Derived.Test.YtibgnkpagfpinaaGreatDoorGit
import Derived.Test.YtibgnkpagfpinaaGreatDoorGrt
namespace Go.Proofs
open Go.RowKit Go.Shelf
set_option maxRecDepth 100000
attribute [local go_sem] Oper.semAt_some
attribute [local go_sem ↓] Go.wp_at_zero Go.wp_at_succ
theorem numbersK (v u:Value) (l m:List Bk) (w:World) (h:KR w v l) (h2:KR w u m) (hn:l.length≤1000000):Calls Tryz.prog 24 #[v,u] w fun e w'=>e = .returned (.bool (decide (l=m)))∧Grown w w':=by
 have h':=h
 have h2':=h2
 obtain ⟨a,c,rfl,_⟩:=h'
 obtain ⟨b,d,rfl,_⟩:=h2'
 exact same_walk a _ c b _ d l m w h h2 rfl rfl hn
theorem Hid.mk2 {p:Prop} (h:p):Hid p:=h
structure BE where
 o:Value
 w:Value
 l:List Bk
def blO (v:Value):List Nat:=v.ownBlock.toList
def blksO (es:List BE):List Nat:=es.flatMap fun e=>blO e.o++blO e.w
theorem own_stays {W W':World} {base n size:Nat} {e:TypeId} {v:Value} {xs:List Value} (h:W.ownsRow base e size v n xs) (k:∀ b cur,v.ownBlock=some b→base≤b→W.heap[b]? = some (.cells cur e (0,0))→W'.heap[b]? = some (.cells cur e (0,0))):W'.ownsRow base e size v n xs:=by
 refine ⟨h.1,?_⟩
 rcases h.2 with h | ⟨g,cap,cur,e1,h1,h2,h3⟩
 · exact .inl h
 · exact .inr ⟨g,cap,cur,e1,h1,k g cur (by rw [e1];rfl) h1 h2,h3⟩
def AW (es:List BE):Prop:=∀ (i j:Nat) (e e':BE) (b:Nat),es[i]? = some e→es[j]? = some e'→e.w.ownBlock=some b→(i≠j→e'.w.ownBlock≠some b)∧e'.o.ownBlock≠some b
def AO (es:List BE) (u t:Nat):Prop:=∀ (i j:Nat) (e e':BE) (b:Nat),u≤i→i<t→i≠j→es[i]? = some e→es[j]? = some e'→e.o.ownBlock=some b→e'.o.ownBlock≠some b
structure Bok (W:World) (base hb:Nat) (ov wv:Value) (es:List BE) (f u t:Nat):Prop where
 bk:W.heap[hb]? = some (.cells #[ov,wv,.int .i64 f] 29 (0,0))
 hb:base≤hb
 out:W.ownsRow base 32 1 ov es.length (es.map BE.o)
 want:W.ownsRow base 32 1 wv es.length (es.map BE.w)
 ro:∀ e∈es,OwnK W base e.o e.l
 rw:∀ e∈es,OwnK W base e.w e.l
 aw:AW es
 ao:AO es u t
 ow:ov.ownBlock=none∨ov.ownBlock≠wv.ownBlock
 few:es.length≤100
 sm:∀ e∈es,e.l.length≤900000
 fr:f≤es.length
section
variable {W W':World} {base hb f u t:Nat} {ov wv:Value} {es:List BE}
theorem Bok.stays (h:Bok W base hb ov wv es f u t) (k:∀ b cur y,base≤b→(y=44∨y=32∨y=29)→W.heap[b]? = some (.cells cur y (0,0))→W'.heap[b]? = some (.cells cur y (0,0))):Bok W' base hb ov wv es f u t:=
 ⟨k _ _ _ h.hb (.inr (.inr rfl)) h.bk,h.hb,own_stays h.out fun b cur _ h1 h2=>k b cur 32 h1 (.inr (.inl rfl)) h2,own_stays h.want fun b cur _ h1 h2=>k b cur 32 h1 (.inr (.inl rfl)) h2,fun e he=>own_stays (h.ro e he) fun b cur _ h1 h2=>k b cur 44 h1 (.inl rfl) h2,fun e he=>own_stays (h.rw e he) fun b cur _ h1 h2=>k b cur 44 h1 (.inl rfl) h2,h.aw,h.ao,h.ow,h.few,h.sm,h.fr⟩
theorem Bok.below (h:Bok W base hb ov wv es f u t) {n:Nat} (hb':Below n W W') (hn:W.heap.size≤n):Bok W' base hb ov wv es f u t:=
 h.stays fun b _ _ _ _ ho=>(hb'.block b (Nat.lt_of_lt_of_le (Array.getElem?_eq_some_iff.1 ho).1 hn)).trans ho
theorem Bok.grown (h:Bok W base hb ov wv es f u t) (k:Grown W W'):Bok W' base hb ov wv es f u t:=h.below k.below (Nat.le_refl _)
theorem Bok.cell (h:Bok W base hb ov wv es f u t):W.cell? ⟨hb,0,none⟩=some ov∧W.cell? ⟨hb,1,none⟩=some wv∧W.cell? ⟨hb,2,none⟩=some (.int .i64 f):=by
 simp [World.cell?,h.bk]
theorem row_some {n:Nat} {e:TypeId} {v:Value} {xs:List Value} (h:W.ownsRow base e 1 v n xs) (hn:n≠0):∃ g cap,v = .slice (some ⟨g,0,none⟩) n cap∧base≤g∧n≤cap∧∀ (j:Nat) (u:Value),xs[j]? = some u→W.cell? ⟨g,j,none⟩=some u:=by
 rcases h.2 with ⟨_,h0⟩ | ⟨g,cap,cur,e1,h1,h2,h3,h4,h5,h6⟩
 · exact absurd h0 hn
 · refine ⟨g,cap,e1,h1,h3,fun j u hj => ?_⟩
   rw [←h6] at hj
   simp only [World.cell?,h2]
   have:cur.toList[j]? = some u:=by
    rw [List.getElem?_take] at hj
    split at hj
    · exact hj
    · cases hj
   simpa using this
theorem row_nil {n:Nat} {e:TypeId} {v:Value} {xs:List Value} (h:W.ownsRow base e 1 v n xs):∃ a cap,v = .slice a n cap:=by
 rcases h.2 with ⟨e1,h0⟩ | ⟨g,cap,cur,e1,h1,h2,h3,h4,h5,h6⟩
 · exact ⟨_,_,by rw [e1,h0]⟩
 · exact ⟨_,_,e1⟩
end
set_option maxHeartbeats 1000000 in
theorem holds_nil (hb:Nat) (a b:Option Addr) (c d:Nat) (w:World) (h0:w.cell? ⟨hb,0,none⟩=some (.slice a 0 c)) (h1:w.cell? ⟨hb,1,none⟩=some (.slice b 0 d)):Calls Tryz.prog 30 #[.pointer (some ⟨hb,0,none⟩)] w fun e w'=>e = .returned (.bool true)∧Grown w w':=by
 go_enter Tryz.func30,Tryz.ntmps30
 go_wp2
 go_loopw [10] (fun vi wr=>vi = .int .i64 0∧wr=w) (fun _ _=>0)
 case atStart=>exact ⟨rfl,rfl⟩
 case round=>
  obtain ⟨rfl,rfl⟩:=hrel
  go_wp2
  go_ret
  exact ⟨rfl,Grown.refl _⟩
set_option maxHeartbeats 2000000 in
theorem holds_any (base hb:Nat) (ov wv:Value) (es:List BE) (f u t:Nat) (w:World) (h:Bok w base hb ov wv es f u t):Calls Tryz.prog 30 #[.pointer (some ⟨hb,0,none⟩)] w fun e w'=>e = .returned (.bool true)∧Grown w w':=by
 by_cases hz:es.length=0
 · have ho:=h.out
   have hw:=h.want
   rw [hz] at ho hw
   obtain ⟨a,c,rfl⟩:=row_nil ho
   obtain ⟨b,d,rfl⟩:=row_nil hw
   exact holds_nil hb a b c d w h.cell.1 h.cell.2.1
 · obtain ⟨go,co,rfl,_,hoc,hoe⟩:=row_some h.out hz
   obtain ⟨gw,cw,rfl,_,hwc,hwe⟩:=row_some h.want hz
   obtain ⟨n,hnn⟩:∃ n,es.length=n:=⟨_,rfl⟩
   have HN:Hid (es.length=n):=hnn
   have hn1:n≤100:=by rw [←hnn];exact h.few
   have h0:=h.cell.1
   have h1:=h.cell.2.1
   have HO:Hid (∀ j u,(es.map BE.o)[j]? = some u→w.cell? ⟨go,j,none⟩=some u):=hoe
   have HW:Hid (∀ j u,(es.map BE.w)[j]? = some u→w.cell? ⟨gw,j,none⟩=some u):=hwe
   rw [hnn] at h0 h1 hoc hwc
   have HC:Hid (∀ (j:Nat) (hj:j<es.length) (W:World),Grown w W→Calls Tryz.prog 24 #[es[j].o,es[j].w] W fun e w'=>e = .returned (.bool true)∧Grown W w'):=fun j hj W hG=>by
    have hm:es[j]∈es:=List.getElem_mem hj
    have h1:=(h.ro _ hm).kr
    have h2:=(h.rw _ hm).kr
    refine (numbersK _ _ _ _ W (h1.grown hG) (h2.grown hG) (by have:=h.sm _ hm;omega)).mono fun e w' ⟨a,b⟩=>⟨by rw [a];simp,b⟩
   have HSL:Hid (∀ (j:Nat) (hj:j<es.length),IsSl es[j].o∧IsSl es[j].w):=fun j hj=>by
    have hm:es[j]∈es:=List.getElem_mem hj
    obtain ⟨a1,c1,e1⟩:=(h.ro _ hm).form
    obtain ⟨a2,c2,e2⟩:=(h.rw _ hm).form
    exact ⟨⟨_,_,_,e1⟩,⟨_,_,_,e2⟩⟩
   clear hoe hwe hnn h hz
   go_enter Tryz.func30,Tryz.ntmps30
   go_wp2
   go_loopw [10] (fun vi wr=>∃ k:Nat,vi = .int .i64 k∧k≤n∧Grown w wr) (fun vi _=>n - (intOf vi).toNat)
   case atStart=>exact ⟨0,rfl,by omega,Grown.refl _⟩
   case round=>
    obtain ⟨k,rfl,hk,hB⟩:=hrel
    by_cases hlt:k<n
    · have hlt':(k:Int)<(n:Int):=by omega
      have hpos:(0:Int)≤(k:Int):=by omega
      have hkl:k<es.length:=by rw [HN.out];exact hlt
      have hc:=hB.cellv (HO.out k es[k].o (by simp [hkl]))
      have hi:=hB.cellv (HW.out k es[k].w (by simp [hkl]))
      have h0':=hB.cellv h0
      have h1':=hB.cellv h1
      have HCC:Hid (∀ W,Grown w W→Calls Tryz.prog 24 #[es[k].o,es[k].w] W fun e w'=>e = .returned (.bool true)∧Grown W w'):=HC.out k hkl
      obtain ⟨⟨a1,n1,c1,e1⟩,⟨a2,n2,c2,e2⟩⟩:=HSL.out k hkl
      rw [e1] at hc HCC
      rw [e2] at hi HCC
      clear e1 e2 HSL HC
      go_wp2_with fail
      refine (HCC.out _ hB).mono ?_
      rintro e w5 ⟨rfl,hG2⟩
      go_wp2
      exact ⟨⟨k+1,by go_num,by omega,hB.trans hG2⟩,by simp [intOf];omega⟩
    · go_wp2
      go_ret
      exact ⟨rfl,hB⟩
theorem OwnK.alloc {w:World} {base:Nat} {v:Value} {l:List Bk} (h:OwnK w base v l) (o:Obj):OwnK (w.alloc o) base v l:=World.ownsRow.alloc h o
theorem OwnK.le {w:World} {base base':Nat} {v:Value} {l:List Bk} (h:OwnK w base v l) (hb:base'≤base):OwnK w base' v l:=Joins.ownsRow_le h hb
theorem linfo32:(Tryz.prog.info? 32).map (fun i=>(i.zero,i.size,i.bytes))=some (some (.slice none 0 0),1,24):=by kernel_rfl
theorem add_at2 (g o j:Nat):(⟨g,o,none⟩:Addr).add j=⟨g,o+j,none⟩:=by unfold Addr.add;split <;> simp_all
theorem run_copyI (w:World) (ty:TypeId) (xv:Value) (e:List Bk) (hi:KR w xv e) (hl:e.length≤1000000000) :
 ∃ v' w',(Builtin.append_ #[32,32] ty #[.slice none 0 0,xv]).run Tryz.prog w = .ok v' w'∧OwnK w' w.heap.size v' e∧Below w.heap.size w w':=by
 obtain ⟨i0,hi0,hz0,hz1,hz2⟩:=info_parts infoK
 obtain ⟨A,c,rfl,hc,hr⟩:=hi
 by_cases he:e=[]
 · subst he
   have hr:=run_append_nothing (P:=Tryz.prog) w 32 32 ty 44 i0 Tryz.underlying32 hi0 none 0 0 (Nat.le_refl _) (.slice A 0 c) ⟨.inl ⟨44,Tryz.underlying32⟩,fun w'=>by cases A <;> simp [Builtin.lenOf,go_sem],by cases A <;> simp [Builtin.firstCells,go_sem],by cases A <;> simp [Builtin.firstCells,go_sem],by simp,by simp⟩
   exact ⟨_,_,hr,OwnK.nil _ _,Below.refl _ _⟩
 · obtain ⟨g,o',rfl,hd⟩:=hr.resolve_left he
   obtain ⟨v',w',h1,h2,h3,_⟩:=run_append_own_at (P:=Tryz.prog) w w.heap.size 32 ty 44 i0 (.agg #[.int .i64 0,.int .i64 0,.int .i64 0,.int .i64 0]) 4 32 Tryz.underlying32 hi0 hz0 hz1 hz2 rfl (by decide) (.slice none 0 0) 0 [] (World.ownsRow_nil w _ 44 4) ⟨g,o',none⟩ e.length c (kbs e) (kbs_len e) (fun j u hj=>by
    rw [add_at2]
    exact kbs_cells hd hj) (kbs_one _) (by unfold maxLen;omega) (by omega) (Nat.le_refl _)
   refine ⟨v',w',h1,by unfold OwnK;simpa using h2,(Below.refl _ w).grown h3 (Nat.le_refl _) (fun k hk=>by cases hk)⟩
theorem step_copyI {ops:Array Oper} {o:Oper} {a:Act} {w:World} {K:Act→World→Prop} {Q:Exit→Act→World→Prop} {E:Prop} (hg:o.guard=none) (x:Operand) (hop:o.op = .call { callee := .builtin .append,args:=#[.const (.slice none 0 0),x],argTypes:=#[32,32] })
 (xv:Value) (e:List Bk) (hx:a.eval x=xv) (hi:KR w xv e) (hl:e.length≤1000000000) (hK:∀ v' w',OwnK w' w.heap.size v' e→Below w.heap.size w w'→K (a.put o.dst v') w') :
 if Region.wanted o (yielded ops a.tmps)=true then Oper.wp Tryz.prog o a w K Q else E:=by
 have hw:Region.wanted o (yielded ops a.tmps)=true:=by simp [Region.wanted,hg]
 rw [if_pos hw]
 obtain ⟨v',w',hr,h1,h2⟩:=run_copyI w o.type xv e hi hl
 have hn:a.eval (.const (.slice none 0 0)) = .slice none 0 0:=rfl
 unfold Oper.wp execOp
 simp only [hop,resolve,invoke,builtin,Sem.run_bind,Sem.run_pure,Result.andThen_ok,List.map_toArray,List.map_cons,List.map_nil,hn,hx,hr]
 exact hK v' w' h1 h2
theorem run_appL (w:World) (ty:TypeId) (base:Nat) (v:Value) (n:Nat) (vs:List Value) (hown:w.ownsRow base 32 1 v n vs) (gs c:Nat) (u:Value) (hc:w.cell? ⟨gs,0,none⟩=some u) (hu:IsSl u) (hl:n≤2000000) (hbase:base≤w.heap.size) :
 ∃ g cap w',(Builtin.append_ #[27,27] ty #[v,.slice (some ⟨gs,0,none⟩) 1 c]).run Tryz.prog w = .ok (.slice (some ⟨g,0,none⟩) (n+1) cap) w'∧w'.ownsRow base 32 1 (.slice (some ⟨g,0,none⟩) (n+1) cap) (n+1) (vs++[u])∧w.grownBy w' v.ownBlock∧(v.ownBlock=some g∨g=w.heap.size):=by
 obtain ⟨i0,hi0,hz0,hz1,hz2⟩:=info_parts linfo32
 obtain ⟨v',w',h1,h2,h3,h4,h5⟩:=run_append_own_at (P:=Tryz.prog) w base 27 ty 32 i0 (.slice none 0 0) 1 24 Tryz.underlying27 hi0 hz0 hz1 hz2 rfl (by decide) v n vs hown ⟨gs,0,none⟩ 1 c [u] rfl (fun j x hj=>by
  match j,hj with
  | 0,hj=>simp at hj;subst hj;exact hc) (fun x hx=>by simp at hx;subst hx;obtain ⟨A,k,d,rfl⟩:=hu;rfl) (by unfold maxLen;omega) (by omega) hbase
 rcases h2.2 with ⟨e,_⟩ | ⟨g,cap,cur,e,_⟩
 · exact absurd (h4.1 e).2 (by decide)
 · subst e
   refine ⟨g,cap,w',h1,h2,h3,?_⟩
   rcases h5 with h5 | h5
   · exact .inl h5.symm
   · exact .inr (by simpa [Value.ownBlock] using h5)
theorem step_appL {ops:Array Oper} {o:Oper} {a:Act} {w:World} {K:Act→World→Prop} {Q:Exit→Act→World→Prop} {E:Prop} (hg:o.guard=none) (s x:Operand) (hop:o.op = .call { callee := .builtin .append,args:=#[s,x],argTypes:=#[27,27] })
 (base:Nat) (v:Value) (n:Nat) (vs:List Value) (hs:a.eval s=v) (hown:w.ownsRow base 32 1 v n vs) (gs c:Nat) (u:Value) (hx:a.eval x = .slice (some ⟨gs,0,none⟩) 1 c) (hc:w.cell? ⟨gs,0,none⟩=some u) (hu:IsSl u) (hl:n≤2000000) (hbase:base≤w.heap.size)
 (hK:∀ g cap w',w'.ownsRow base 32 1 (.slice (some ⟨g,0,none⟩) (n+1) cap) (n+1) (vs++[u])→w.grownBy w' v.ownBlock→(v.ownBlock=some g∨g=w.heap.size)→K (a.put o.dst (.slice (some ⟨g,0,none⟩) (n+1) cap)) w') :
 if Region.wanted o (yielded ops a.tmps)=true then Oper.wp Tryz.prog o a w K Q else E:=by
 have hw:Region.wanted o (yielded ops a.tmps)=true:=by simp [Region.wanted,hg]
 rw [if_pos hw]
 obtain ⟨g,cap,w',hr,h1,h2,h3⟩:=run_appL w o.type base v n vs hown gs c u hc hu hl hbase
 unfold Oper.wp execOp
 simp only [hop,resolve,invoke,builtin,Sem.run_bind,Sem.run_pure,Result.andThen_ok,List.map_toArray,List.map_cons,List.map_nil,hs,hx,hr]
 exact hK g cap w' h1 h2 h3
theorem app_L {ops:Array Oper} {rest:List Oper} {o:Oper} {a:Act} {Q:Exit→Act→World→Prop} {w:World} (hgd:o.guard=none) (s x:Operand) (hop:o.op = .call { callee := .builtin .append,args:=#[s,x],argTypes:=#[27,27] })
 (base:Nat) (v:Value) (n:Nat) (vs:List Value) (hs:a.eval s=v) (hown:w.ownsRow base 32 1 v n vs) (gs c:Nat) (u:Value) (hx:a.eval x = .slice (some ⟨gs,0,none⟩) 1 c) (hc:w.cell? ⟨gs,0,none⟩=some u) (hu:IsSl u) (hl:n≤2000000) (hbase:base≤w.heap.size)
 (h:∀ g cap w',w'.ownsRow base 32 1 (.slice (some ⟨g,0,none⟩) (n+1) cap) (n+1) (vs++[u])→w.grownBy w' v.ownBlock→(v.ownBlock=some g∨g=w.heap.size)→wpList Tryz.prog ops Q rest (a.put o.dst (.slice (some ⟨g,0,none⟩) (n+1) cap)) w'):wpList Tryz.prog ops Q (o::rest) a w:=by
 refine wpList_plain hgd fun K hK => ?_
 obtain ⟨g,cap,w',hr,h1,h2,h3⟩:=run_appL w o.type base v n vs hown gs c u hc hu hl hbase
 unfold Oper.wp execOp
 simp only [hop,resolve,invoke,builtin,Sem.run_bind,Sem.run_pure,Result.andThen_ok,List.map_toArray,List.map_cons,List.map_nil,hs,hx,hr]
 exact hK _ _ (h g cap w' h1 h2 h3)
structure KJ (w0:World) (base hb:Nat) (wv:Value) (n:Nat) (ws:List Value) (lv:Value) (l:List Bk) (p:Nat→Bool) (vs:Nat→Value) (W:World):Prop where
 v0:p 0=true→vs 0 = .pointer (some ⟨hb,0,none⟩)
 v1:p 1=true→vs 1 = .pointer (some ⟨hb,0,none⟩)
 v2:p 2=true→vs 2 = .pointer (some ⟨hb,0,none⟩)
 v3:p 3=true→vs 3 = .pointer (some ⟨hb,1,none⟩)
 v4:p 4=true→vs 4=wv
 v5:p 5=true→vs 5=lv
 v9:p 9=true→vs 9 = .pointer (some ⟨hb,0,none⟩)
 v10:p 10=true→vs 10 = .pointer (some ⟨hb,1,none⟩)
 x0:p 6=false→W=w0.drew
 x1:p 6=true→p 7=false→OwnK W w0.heap.size (vs 6) l∧Below w0.heap.size w0 W
 x2:p 7=true→p 8=false→OwnK W w0.heap.size (vs 6) l∧Below w0.heap.size w0 W∧∃ b,vs 7 = .slice (some ⟨b,0,none⟩) 1 1∧W.heap[b]? = some (.cells #[vs 6] 32 (0,0))∧w0.heap.size≤b
 x3:p 8=true→∃ g c W3,vs 8 = .slice (some ⟨g,0,none⟩) (n+1) c∧OwnK W3 w0.heap.size (vs 6) l∧W3.ownsRow base 32 1 (.slice (some ⟨g,0,none⟩) (n+1) c) (n+1) (ws++[vs 6])∧w0.grownBy W3 wv.ownBlock∧(wv.ownBlock=some g∨w0.heap.size≤g)∧(p 11=false→W=W3)∧(p 11=true→W=W3.setCell ⟨hb,1,none⟩ (.slice (some ⟨g,0,none⟩) (n+1) c))
 o4:p 8=true→p 4=true
 o6:p 7=true→p 6=true
 o7:p 8=true→p 7=true
 o8:p 11=true→p 8=true
 o11:p 11=true→p 10=true
section
variable {w0:World} {base hb:Nat} {wv:Value} {n:Nat} {ws:List Value} {lv:Value} {l:List Bk} {p:Nat→Bool} {vs:Nat→Value} {W:World}
theorem KJ.start:KJ w0 base hb wv n ws lv l (fun _=>false) (fun _=>undef) w0.drew:=
 ⟨by simp,by simp,by simp,by simp,by simp,by simp,by simp,by simp,fun _=>rfl,by simp,by simp,by simp,by simp,by simp,by simp,by simp,by simp⟩
theorem bool_not {a b:Bool} (h:a=true→b=true) (hb:b=false):a=false:=by
 cases a with
 | false=>rfl
 | true=>rw [h rfl] at hb;cases hb
theorem KJ.pre (h:KJ w0 base hb wv n ws lv l p vs W) (h8:p 8=false):Below w0.heap.size w0 W:=by
 cases h6:p 6 with
 | false=>rw [h.x0 h6];exact (Below.refl _ w0).drew
 | true=>
  cases h7:p 7 with
  | false=>exact (h.x1 h6 h7).2
  | true=>exact (h.x2 h7 h8).2.1
theorem KJ.put0 (h:KJ w0 base hb wv n ws lv l p vs W):KJ w0 base hb wv n ws lv l (fun j=>p j || j == 0) (fun j=>if j=0 then .pointer (some ⟨hb,0,none⟩) else vs j) W:=
 ⟨fun _=>rfl,by simpa using h.v1,by simpa using h.v2,by simpa using h.v3,by simpa using h.v4,by simpa using h.v5,by simpa using h.v9,by simpa using h.v10,by simpa using h.x0,by simpa using h.x1,by simpa using h.x2,by simpa using h.x3,by simpa using h.o4,by simpa using h.o6,by simpa using h.o7,by simpa using h.o8,by simpa using h.o11⟩
theorem KJ.put1 (h:KJ w0 base hb wv n ws lv l p vs W):KJ w0 base hb wv n ws lv l (fun j=>p j || j == 1) (fun j=>if j=1 then .pointer (some ⟨hb,0,none⟩) else vs j) W:=
 ⟨by simpa using h.v0,fun _=>rfl,by simpa using h.v2,by simpa using h.v3,by simpa using h.v4,by simpa using h.v5,by simpa using h.v9,by simpa using h.v10,by simpa using h.x0,by simpa using h.x1,by simpa using h.x2,by simpa using h.x3,by simpa using h.o4,by simpa using h.o6,by simpa using h.o7,by simpa using h.o8,by simpa using h.o11⟩
theorem KJ.put2 (h:KJ w0 base hb wv n ws lv l p vs W):KJ w0 base hb wv n ws lv l (fun j=>p j || j == 2) (fun j=>if j=2 then .pointer (some ⟨hb,0,none⟩) else vs j) W:=
 ⟨by simpa using h.v0,by simpa using h.v1,fun _=>rfl,by simpa using h.v3,by simpa using h.v4,by simpa using h.v5,by simpa using h.v9,by simpa using h.v10,by simpa using h.x0,by simpa using h.x1,by simpa using h.x2,by simpa using h.x3,by simpa using h.o4,by simpa using h.o6,by simpa using h.o7,by simpa using h.o8,by simpa using h.o11⟩
theorem KJ.put3 (h:KJ w0 base hb wv n ws lv l p vs W):KJ w0 base hb wv n ws lv l (fun j=>p j || j == 3) (fun j=>if j=3 then .pointer (some ⟨hb,1,none⟩) else vs j) W:=
 ⟨by simpa using h.v0,by simpa using h.v1,by simpa using h.v2,fun _=>rfl,by simpa using h.v4,by simpa using h.v5,by simpa using h.v9,by simpa using h.v10,by simpa using h.x0,by simpa using h.x1,by simpa using h.x2,by simpa using h.x3,by simpa using h.o4,by simpa using h.o6,by simpa using h.o7,by simpa using h.o8,by simpa using h.o11⟩
theorem KJ.put4 (h:KJ w0 base hb wv n ws lv l p vs W):KJ w0 base hb wv n ws lv l (fun j=>p j || j == 4) (fun j=>if j=4 then wv else vs j) W:=
 ⟨by simpa using h.v0,by simpa using h.v1,by simpa using h.v2,by simpa using h.v3,fun _=>rfl,by simpa using h.v5,by simpa using h.v9,by simpa using h.v10,by simpa using h.x0,by simpa using h.x1,by simpa using h.x2,by simpa using h.x3,fun _=>by simp,by simpa using h.o6,by simpa using h.o7,by simpa using h.o8,by simpa using h.o11⟩
theorem KJ.put5 (h:KJ w0 base hb wv n ws lv l p vs W):KJ w0 base hb wv n ws lv l (fun j=>p j || j == 5) (fun j=>if j=5 then lv else vs j) W:=
 ⟨by simpa using h.v0,by simpa using h.v1,by simpa using h.v2,by simpa using h.v3,by simpa using h.v4,fun _=>rfl,by simpa using h.v9,by simpa using h.v10,by simpa using h.x0,by simpa using h.x1,by simpa using h.x2,by simpa using h.x3,by simpa using h.o4,by simpa using h.o6,by simpa using h.o7,by simpa using h.o8,by simpa using h.o11⟩
theorem KJ.put9 (h:KJ w0 base hb wv n ws lv l p vs W):KJ w0 base hb wv n ws lv l (fun j=>p j || j == 9) (fun j=>if j=9 then .pointer (some ⟨hb,0,none⟩) else vs j) W:=
 ⟨by simpa using h.v0,by simpa using h.v1,by simpa using h.v2,by simpa using h.v3,by simpa using h.v4,by simpa using h.v5,fun _=>rfl,by simpa using h.v10,by simpa using h.x0,by simpa using h.x1,by simpa using h.x2,by simpa using h.x3,by simpa using h.o4,by simpa using h.o6,by simpa using h.o7,by simpa using h.o8,by simpa using h.o11⟩
theorem KJ.put10 (h:KJ w0 base hb wv n ws lv l p vs W):KJ w0 base hb wv n ws lv l (fun j=>p j || j == 10) (fun j=>if j=10 then .pointer (some ⟨hb,1,none⟩) else vs j) W:=
 ⟨by simpa using h.v0,by simpa using h.v1,by simpa using h.v2,by simpa using h.v3,by simpa using h.v4,by simpa using h.v5,by simpa using h.v9,fun _=>rfl,by simpa using h.x0,by simpa using h.x1,by simpa using h.x2,by simpa using h.x3,by simpa using h.o4,by simpa using h.o6,by simpa using h.o7,by simpa using h.o8,fun _=>by simp⟩
theorem KJ.put6 (h:KJ w0 base hb wv n ws lv l p vs W) (h6:p 6=false) {mv:Value} {W':World} (ho:OwnK W' w0.heap.size mv l) (hb':Below w0.heap.size w0 W'):KJ w0 base hb wv n ws lv l (fun j=>p j || j == 6) (fun j=>if j=6 then mv else vs j) W':=
 have h7:=bool_not h.o6 h6
 have h8:=bool_not h.o7 h7
 ⟨by simpa using h.v0,by simpa using h.v1,by simpa using h.v2,by simpa using h.v3,by simpa using h.v4,by simpa using h.v5,by simpa using h.v9,by simpa using h.v10,fun a=>by simp at a,fun _ _=>⟨by simpa using ho,hb'⟩,fun a=>by simp [h7] at a,fun a=>by simp [h8] at a,by simpa using h.o4,fun a=>by simp,by simpa using h.o7,by simpa using h.o8,by simpa using h.o11⟩
theorem KJ.put7 (h:KJ w0 base hb wv n ws lv l p vs W) (h6:p 6=true) (h7:p 7=false):KJ w0 base hb wv n ws lv l (fun j=>p j || j == 7) (fun j=>if j=7 then .slice (some ⟨W.heap.size,0,none⟩) 1 1 else vs j) (W.alloc (.cells #[vs 6] 32)):=
 have h8:=bool_not h.o7 h7
 have hx:=h.x1 h6 h7
 ⟨by simpa using h.v0,by simpa using h.v1,by simpa using h.v2,by simpa using h.v3,by simpa using h.v4,by simpa using h.v5,by simpa using h.v9,by simpa using h.v10,fun a=>by simp [h6] at a,fun _ a=>by simp at a,fun _ _=>⟨by simpa using OwnK.alloc hx.1 _,hx.2.alloc hx.2.size _,W.heap.size,rfl,by simpa using heap_alloc_new W (.cells #[vs 6] 32),hx.2.size⟩,fun a=>by simp [h8] at a,by simpa using h.o4,fun _=>by simpa using h6,fun _=>by simp,by simpa using h.o8,by simpa using h.o11⟩
theorem KJ.put8 (h:KJ w0 base hb wv n ws lv l p vs W) (h4:p 4=true) (h7:p 7=true) (h8:p 8=false) {g c:Nat} {W':World} (ho:W'.ownsRow base 32 1 (.slice (some ⟨g,0,none⟩) (n+1) c) (n+1) (ws++[vs 6])) (hg:W.grownBy W' wv.ownBlock) (hG:wv.ownBlock=some g∨g=W.heap.size) (hlt:∀ b,wv.ownBlock=some b→b<w0.heap.size):KJ w0 base hb wv n ws lv l (fun j=>p j || j == 8) (fun j=>if j=8 then .slice (some ⟨g,0,none⟩) (n+1) c else vs j) W':=by
 have h11:=bool_not h.o8 h8
 obtain ⟨hx1,hx2,_⟩:=h.x2 h7 h8
 have hm:OwnK W' w0.heap.size (vs 6) l:=own_stays hx1 fun b cur hb1 hb2 hb3=>(hg.block b (Array.getElem?_eq_some_iff.1 hb3).1 (fun e=>by have:=hlt b e.symm;omega)).trans hb3
 have hgr:w0.grownBy W' wv.ownBlock:=⟨hg.os.trans hx2.os,hg.tape.trans hx2.tape,hg.output.trans hx2.output,Nat.le_trans hx2.size hg.size,fun k hk hne=>(hg.block k (Nat.lt_of_lt_of_le hk hx2.size) hne).trans (hx2.block k hk)⟩
 have hG':wv.ownBlock=some g∨w0.heap.size≤g:=hG.imp id fun e=>by rw [e];exact hx2.size
 exact ⟨by simpa using h.v0,by simpa using h.v1,by simpa using h.v2,by simpa using h.v3,by simpa using h.v4,by simpa using h.v5,by simpa using h.v9,by simpa using h.v10,fun a=>by simp [h.o6 h7] at a,fun _ a=>by simp [h7] at a,fun _ a=>by simp at a,fun _=>⟨g,c,W',rfl,by simpa using hm,by simpa using ho,hgr,hG',fun _=>rfl,fun a=>by simp [h11] at a⟩,fun _=>by simpa using h4,by simpa using h.o6,fun _=>by simpa using h7,fun a=>by simp,by simpa using h.o11⟩
theorem KJ.put11 (h:KJ w0 base hb wv n ws lv l p vs W) (h8:p 8=true) (h10:p 10=true) (h11:p 11=false):∃ g c,vs 8 = .slice (some ⟨g,0,none⟩) (n+1) c∧∀ v,KJ w0 base hb wv n ws lv l (fun j=>p j || j == 11) (fun j=>if j=11 then v else vs j) (W.setCell ⟨hb,1,none⟩ (.slice (some ⟨g,0,none⟩) (n+1) c)):=by
 obtain ⟨g,c,W3,e8,hm,ho,hg,hG,w1,w2⟩:=h.x3 h8
 have h7:=h.o7 h8
 have h6:=h.o6 h7
 obtain rfl:=w1 h11
 exact ⟨g,c,e8,fun v=>⟨by simpa using h.v0,by simpa using h.v1,by simpa using h.v2,by simpa using h.v3,by simpa using h.v4,by simpa using h.v5,by simpa using h.v9,by simpa using h.v10,fun a=>by simp [h6] at a,fun _ a=>by simp [h7] at a,fun _ a=>by simp [h8] at a,fun _=>⟨g,c,W,by simpa using e8,by simpa using hm,by simpa using ho,hg,hG,fun a=>by simp at a,fun _=>rfl⟩,by simpa using h.o4,by simpa using h.o6,by simpa using h.o7,fun _=>by simpa using h8,fun _=>by simpa using h10⟩⟩
end
theorem flat_get {s:Nat} (hs:0<s):∀ (vs:List Value),(∀ v∈vs,v.cells.size=s)→∀ k:Nat,(vs.flatMap (fun v=>v.cells.toList))[k]? = (vs[k / s]?).bind (fun v=>v.cells[k % s]?)
 | [],_,k=>by simp
 | v::vs,h,k=>by
  have hv:=h v List.mem_cons_self
  rw [List.flatMap_cons]
  by_cases hk:k<s
  · rw [List.getElem?_append_left (by simpa [hv] using hk),Nat.div_eq_of_lt hk,Nat.mod_eq_of_lt hk]
    simp
  · rw [List.getElem?_append_right (by simp [hv];omega),Array.length_toList,hv,flat_get hs vs (fun u hu=>h u (List.mem_cons_of_mem _ hu)) (k - s)]
    have e1:k / s=(k - s) / s+1:=by rw [Nat.div_eq k s,if_pos ⟨hs,by omega⟩]
    have e2:k % s=(k - s) % s:=by rw [Nat.mod_eq_sub_mod (by omega)]
    rw [e1,e2,List.getElem?_cons_succ]
theorem step_slice {P:Program} {ops:Array Oper} {o:Oper} {a:Act} {w:World} {K:Act→World→Prop} {Q:Exit→Act→World→Prop} {E:Prop} (hg:o.guard=none) (t e:TypeId) (len:Nat) (parts:Array (Nat × Operand)) (ho:o.op = .buildSlice t len parts) (s:Nat) (hu:P.underlying t=some (.slice e))
 (hsz:(P.info? e).map (·.size)=some s) (hz:((P.info? e).bind (·.zero)).isSome=true) (hs:0<s) (vs:List Value) (hparts:(parts.map fun (i,x)=>(i,a.eval x)).toList=(vs.zipIdx 0).map fun x=>(x.2,x.1)) (hv:∀ v∈vs,v.cells.size=s) (hl:len=vs.length) (hpos:0<len) (hsmall:len*s≤2 ^ 24)
 (h:K (a.put o.dst (.slice (some ⟨w.heap.size,0,none⟩) len len)) (w.alloc (.cells (vs.flatMap (fun v=>v.cells.toList)).toArray e))):if Region.wanted o (yielded ops a.tmps)=true then Oper.wp P o a w K Q else E:=by
 have hw:Region.wanted o (yielded ops a.tmps)=true:=by simp [Region.wanted,hg]
 rw [if_pos hw]
 cases hie:P.info? e with
 | none=>simp [hie] at hsz
 | some ie=>
  simp only [hie,Option.map_some,Option.some.injEq,Option.bind_some] at hsz hz
  obtain ⟨z,hzz⟩:=Option.isSome_iff_exists.1 hz
  have hp:0<len*s:=Nat.mul_pos hpos hs
  refine wp_buildSlice t e len parts ho _ ie z hu hie hzz (by rw [hsz];omega) (by rw [hsz];omega) ?_ h
  rw [hparts,hsz]
  obtain ⟨r,hr,hrs,hrk⟩:=Great.fill_dense hs vs 0 ((Array.range (len*s)).map (z.cells[· % z.cells.size]!)) hv (by simp [hl])
  rw [hr]
  congr 1
  have hrs':r.size=len*s:=by rw [hrs];simp
  apply Array.ext_getElem?
  intro k
  have e0:(vs.flatMap (fun v=>v.cells.toList)).toArray[k]? = (vs.flatMap (fun v=>v.cells.toList))[k]? := List.getElem?_toArray
  rw [hrk k,e0,flat_get hs vs hv k]
  simp only [Nat.zero_mul,Nat.zero_le,true_and,Nat.zero_add,Nat.sub_zero]
  by_cases hk:k<vs.length*s
  · rw [if_pos hk]
  · rw [if_neg hk]
    have:vs.length≤k / s:=(Nat.le_div_iff_mul_le hs).2 (by omega)
    rw [List.getElem?_eq_none this]
    simp [hl]
    omega
theorem ownsRow_below {W W':World} {base n:Nat} {e:TypeId} {size m:Nat} {v:Value} {xs:List Value} (h:W.ownsRow base e size v m xs) (hb:Below n W W') (hn:W.heap.size≤n):W'.ownsRow base e size v m xs:=by
 refine ⟨h.1,?_⟩
 rcases h.2 with h | ⟨g,cap,cur,e1,h1,h2,h3⟩
 · exact .inl h
 · have:g<W.heap.size:=(Array.getElem?_eq_some_iff.1 h2).1
   exact .inr ⟨g,cap,cur,e1,h1,(hb.block g (by omega)).trans h2,h3⟩
theorem cells_setS {w:World} {g:Nat} {cur:Array Value} {t:TypeId} {j:Nat} {u:Value} (h:w.heap[g]? = some (.cells cur t (0,0))):(w.setCell ⟨g,j,none⟩ u).heap[g]? = some (.cells (cur.setIfInBounds j u) t (0,0)):=by
 have hlt:=(Array.getElem?_eq_some_iff.1 h).1
 have h':w.heap[g] = .cells cur t (0,0):=by simpa [Array.getElem?_eq_getElem hlt] using h
 show (w.heap.modify g _)[g]? = _
 rw [Array.getElem?_eq_getElem (by simpa using hlt),Array.getElem_modify_self,h']
 rfl
section
variable {W W':World} {base hb f u t:Nat} {ov wv:Value} {es:List BE}
theorem row_typ {e:TypeId} {size n:Nat} {v:Value} {xs:List Value} {b:Nat} (h:W.ownsRow base e size v n xs) (hv:v.ownBlock=some b):base≤b∧∃ cur,W.heap[b]? = some (.cells cur e (0,0)):=by
 rcases h.2 with ⟨e1,_⟩ | ⟨g,cap,cur,e1,h1,h2,_⟩
 · rw [e1] at hv;cases hv
 · rw [e1] at hv
   have:g=b:=by simpa [Value.ownBlock] using hv
   subst this
   exact ⟨h1,cur,h2⟩
theorem Bok.no (h:Bok W base hb ov wv es f u t):ov.ownBlock≠some hb:=fun e=>by
 obtain ⟨_,cur,h2⟩:=row_typ h.out e
 rw [h.bk] at h2
 injection h2 with h2
 injection h2 with _ h2 _
 cases h2
theorem Bok.nw (h:Bok W base hb ov wv es f u t):wv.ownBlock≠some hb:=fun e=>by
 obtain ⟨_,cur,h2⟩:=row_typ h.want e
 rw [h.bk] at h2
 injection h2 with h2
 injection h2 with _ h2 _
 cases h2
end
theorem cell_new1 (w:World) (u:Value) (t:TypeId):(w.alloc (.cells #[u] t)).cell? ⟨w.heap.size,0,none⟩=some u:=by
 have:=heap_alloc_new w (.cells #[u] t)
 simp only [World.cell?]
 rw [this]
 rfl
structure Tch (hb:Nat) (ov wv:Value) (W W':World):Prop where
 size:W.heap.size≤W'.heap.size
 block:∀ b,b<W.heap.size→b≠hb→ov.ownBlock≠some b→wv.ownBlock≠some b→W'.heap[b]? = W.heap[b]?
def Mvd (n:Nat) (v v':Value):Prop:=v'.ownBlock=v.ownBlock∨∃ g,v'.ownBlock=some g∧n≤g
structure K1 (w:World) (base hb:Nat) (ov wv:Value) (es:List BE) (f:Nat) (lv:Value) (l:List Bk) (ov':Value) (W:World):Prop where
 bel:Below base w W
 bk:W.heap[hb]? = some (.cells #[ov',wv,.int .i64 f] 29 (0,0))
 out:W.ownsRow base 32 1 ov' (es.length+1) (es.map BE.o++[lv])
 ob:ov'.ownBlock=ov.ownBlock∨∃ g,ov'.ownBlock=some g∧w.heap.size≤g
 blk:∀ b,b<w.heap.size→b≠hb→ov.ownBlock≠some b→W.heap[b]? = w.heap[b]?
theorem k1_of {w w5:World} {base hb:Nat} {ov wv:Value} {es:List BE} {f u t:Nat} {lv:Value} {l:List Bk} (h:Bok w base hb ov wv es f u t) {g c:Nat} {ob:Obj} (ho:w5.ownsRow base 32 1 (.slice (some ⟨g,0,none⟩) (es.length+1) c) (es.length+1) (es.map BE.o++[lv])) (hg:(w.alloc ob).grownBy w5 ov.ownBlock) (hG:ov.ownBlock=some g∨g=(w.alloc ob).heap.size) :
 w5.heap[hb]? = some (.cells #[ov,wv,.int .i64 f] 29 (0,0))∧K1 w base hb ov wv es f lv l (.slice (some ⟨g,0,none⟩) (es.length+1) c) (w5.setCell ⟨hb,0,none⟩ (.slice (some ⟨g,0,none⟩) (es.length+1) c)):=by
 have hlt:=(Array.getElem?_eq_some_iff.1 h.bk).1
 have hB:base≤w.heap.size:=by have:=h.hb;omega
 have hal:∀ b,b<w.heap.size→(w.alloc ob).heap[b]? = w.heap[b]? := fun b hb=>heap_alloc_old w ob b hb
 have hsz:(w.alloc ob).heap.size=w.heap.size+1:=Array.size_push _
 have h5:∀ b,b<w.heap.size→ov.ownBlock≠some b→w5.heap[b]? = w.heap[b]? := fun b hb hne=>(hg.block b (by omega) (fun e=>hne e.symm)).trans (hal b hb)
 have h5b:w5.heap[hb]? = some (.cells #[ov,wv,.int .i64 f] 29 (0,0)):=(h5 hb hlt h.no).trans h.bk
 refine ⟨h5b,?_,?_,?_,?_,?_⟩
 · exact (((Below.refl base w).alloc hB _).grown hg (by omega) (fun k hk=>(World.ownsRow.lt h.out k hk).1)).setCell (p:=⟨hb,0,none⟩) h.hb _
 · have:=cells_setS (j:=0) (u := .slice (some ⟨g,0,none⟩) (es.length+1) c) h5b
   simpa using this
 · refine own_stays ho fun b cur _ _ h3 => ?_
   rw [turns_set _ hb 0 _ b (fun e=>by subst e;rw [h5b] at h3;injection h3 with h3;injection h3 with _ h3 _;cases h3)]
   exact h3
 · rcases hG with hG | hG
   · exact .inl (by rw [hG];rfl)
   · exact .inr ⟨g,rfl,by rw [hG,hsz];omega⟩
 · intro b hb1 hb2 hb3
   rw [turns_set _ hb 0 _ b hb2]
   exact h5 b hb1 hb3
theorem mem_bl {v:Value} {b:Nat} : b∈blO v↔v.ownBlock=some b:=by simp [blO]
theorem blks_mem {es:List BE} {b:Nat} : b∈blksO es↔∃ e∈es,e.o.ownBlock=some b∨e.w.ownBlock=some b:=by
 simp only [blksO,List.mem_flatMap,List.mem_append,mem_bl]
theorem blks_lt {w:World} {base hb:Nat} {ov wv:Value} {es:List BE} {f u t:Nat} (h:Bok w base hb ov wv es f u t) {b:Nat} (hb':b∈blksO es):∃ cur,w.heap[b]? = some (.cells cur 44 (0,0)):=by
 obtain ⟨e,he,h1 | h1⟩:=blks_mem.1 hb'
 · exact (row_typ (h.ro e he) h1).2
 · exact (row_typ (h.rw e he) h1).2
theorem typ_ne {w:World} {a b:Nat} {c d:Array Value} {t u:TypeId} (h1:w.heap[a]? = some (.cells c t (0,0))) (h2:w.heap[b]? = some (.cells d u (0,0))) (hne:t≠u):a≠b:=fun e=>by
 subst e
 rw [h1] at h2
 injection h2 with h2
 injection h2 with _ h2 _
 exact hne h2
theorem snoc_at {es:List BE} {e e':BE} {i:Nat} (h:(es++[e])[i]? = some e'):(i<es.length∧es[i]? = some e')∨(i=es.length∧e'=e):=by
 by_cases hi:i<es.length
 · rw [List.getElem?_append_left hi] at h;exact .inl ⟨hi,h⟩
 · rw [List.getElem?_append_right (by omega)] at h
   obtain ⟨h1,h2⟩:=List.getElem?_eq_some_iff.1 h
   simp at h1 h2
   exact .inr ⟨by omega,h2.symm⟩
theorem aw_snoc {es:List BE} {e:BE} (h:AW es) (h1:∀ b,e.w.ownBlock=some b→b ∉ blksO es∧e.o.ownBlock≠some b) (h2:∀ b,e.o.ownBlock=some b→∀ e'∈es,e'.w.ownBlock≠some b):AW (es++[e]):=by
 intro i j a a' b hi hj hb
 rcases snoc_at hi with ⟨i1,i2⟩ | ⟨i1,i2⟩ <;> rcases snoc_at hj with ⟨j1,j2⟩ | ⟨j1,j2⟩
 · exact h i j a a' b i2 j2 hb
 · subst j2
   have hm:=blks_mem.2 ⟨a,List.mem_of_getElem? i2,.inr hb⟩
   exact ⟨fun _ e=>(h1 b e).1 hm,fun e=>h2 b e a (List.mem_of_getElem? i2) hb⟩
 · subst i2
   have:=(h1 b hb).1
   exact ⟨fun _ e=>this (blks_mem.2 ⟨a',List.mem_of_getElem? j2,.inr e⟩),fun e=>this (blks_mem.2 ⟨a',List.mem_of_getElem? j2,.inl e⟩)⟩
 · subst i2
   subst j2
   exact ⟨fun hne=>absurd (i1.trans j1.symm) hne,(h1 b hb).2⟩
theorem ao_snoc {es:List BE} {e:BE} {u t:Nat} (h:AO es u t) (ht:t≤es.length) (h1:∀ i e' b,u≤i→i<t→es[i]? = some e'→e'.o.ownBlock=some b→e.o.ownBlock≠some b):AO (es++[e]) u t:=by
 intro i j a a' b hu hit hne hi hj hb
 rcases snoc_at hi with ⟨i1,i2⟩ | ⟨i1,i2⟩
 · rcases snoc_at hj with ⟨j1,j2⟩ | ⟨j1,j2⟩
   · exact h i j a a' b hu hit hne i2 j2 hb
   · subst j2;exact h1 i a b hu hit i2 hb
 · omega
theorem ao_keep {es:List BE} {e:BE} {u:Nat} (h:AO es u es.length) (h1:∀ b,e.o.ownBlock=some b→∀ e'∈es,e'.o.ownBlock≠some b):AO (es++[e]) u (es.length+1):=by
 intro i j a a' b hu hit hne hi hj hb
 rcases snoc_at hi with ⟨i1,i2⟩ | ⟨i1,i2⟩ <;> rcases snoc_at hj with ⟨j1,j2⟩ | ⟨j1,j2⟩
 · exact h i j a a' b hu i1 hne i2 j2 hb
 · subst j2;exact fun e1=>h1 b e1 a (List.mem_of_getElem? i2) hb
 · subst i2;exact h1 b hb a' (List.mem_of_getElem? j2)
 · omega
theorem k2_of {w w6 W3:World} {base hb:Nat} {ov wv:Value} {es:List BE} {f u u' t t':Nat} {lv ov' mv:Value} {l:List Bk} (h:Bok w base hb ov wv es f u t) (hl:OwnK w base lv l) (haw:AW (es++[(⟨lv,mv,l⟩:BE)])) (hao:AO (es++[(⟨lv,mv,l⟩:BE)]) u' t') (hn:l.length≤900000) (hes:es.length≤99) (k:K1 w base hb ov wv es f lv l ov' w6) (hm:OwnK W3 base mv l) {g c:Nat} (ho:W3.ownsRow base 32 1 (.slice (some ⟨g,0,none⟩) (es.length+1) c) (es.length+1) (es.map BE.w++[mv])) (hg:w6.grownBy W3 wv.ownBlock) (hG:wv.ownBlock=some g∨w6.heap.size≤g) :
 Bok (W3.setCell ⟨hb,1,none⟩ (.slice (some ⟨g,0,none⟩) (es.length+1) c)) base hb ov' (.slice (some ⟨g,0,none⟩) (es.length+1) c) (es++[⟨lv,mv,l⟩]) f u' t'∧Tch hb ov wv w (W3.setCell ⟨hb,1,none⟩ (.slice (some ⟨g,0,none⟩) (es.length+1) c))∧Below base w (W3.setCell ⟨hb,1,none⟩ (.slice (some ⟨g,0,none⟩) (es.length+1) c))∧Mvd w.heap.size ov ov'∧Mvd w.heap.size wv (.slice (some ⟨g,0,none⟩) (es.length+1) c):=by
 have hbl:=(Array.getElem?_eq_some_iff.1 h.bk).1
 have hB:base≤w.heap.size:=by have:=h.hb;omega
 have hs6:=k.bel.size
 have h3b:W3.heap[hb]? = some (.cells #[ov',wv,.int .i64 f] 29 (0,0)):=(hg.block hb (by omega) (fun e=>h.nw e.symm)).trans k.bk
 have T:=turns_set W3 hb 1 (.slice (some ⟨g,0,none⟩) (es.length+1) c)
 have S:∀ b,b<w.heap.size→b≠hb→ov.ownBlock≠some b→wv.ownBlock≠some b→(W3.setCell ⟨hb,1,none⟩ (.slice (some ⟨g,0,none⟩) (es.length+1) c)).heap[b]? = w.heap[b]? := fun b h1 h2 h3 h4=>by
  rw [T b h2,hg.block b (by omega) (fun e=>h4 e.symm)]
  exact k.blk b h1 h2 h3
 have S3:∀ (b:Nat) (cur:Array Value),w.heap[b]? = some (Obj.cells cur 44 (0,0))→(W3.setCell ⟨hb,1,none⟩ (.slice (some ⟨g,0,none⟩) (es.length+1) c)).heap[b]? = some (Obj.cells cur 44 (0,0)):=fun b cur hc=>
  (S b (Array.getElem?_eq_some_iff.1 hc).1 (typ_ne hc h.bk (by decide)) (fun e=>by obtain ⟨_,d,h2⟩:=row_typ h.out e;exact typ_ne hc h2 (by decide) rfl) (fun e=>by obtain ⟨_,d,h2⟩:=row_typ h.want e;exact typ_ne hc h2 (by decide) rfl)).trans hc
 refine ⟨⟨?_,h.hb,?_,?_,?_,?_,?_,?_,?_,?_,?_,?_⟩,⟨?_,S⟩,?_,k.ob,hG.imp (fun e=>e.symm) fun e=>⟨g,rfl,by omega⟩⟩
 · have:=cells_setS (j:=1) (u := .slice (some ⟨g,0,none⟩) (es.length+1) c) h3b
   simpa using this
 · have e1:(es++[(⟨lv,mv,l⟩:BE)]).length=es.length+1:=by simp
   rw [e1,List.map_append]
   refine own_stays k.out fun b cur h1 h2 h3 => ?_
   rw [T b (typ_ne h3 k.bk (by decide)),hg.block b (Array.getElem?_eq_some_iff.1 h3).1 (fun e => ?_)]
   · exact h3
   · rcases k.ob with h4 | ⟨g',h4,h5⟩
     · rw [h1] at h4
       rcases h.ow with h6 | h6
       · rw [h6] at h4;cases h4
       · exact h6 (h4.symm.trans e)
     · rw [h1] at h4
       injection h4 with h4
       have:=(World.ownsRow.lt h.want b e.symm).2
       omega
 · have e1:(es++[(⟨lv,mv,l⟩:BE)]).length=es.length+1:=by simp
   rw [e1,List.map_append]
   refine own_stays ho fun b cur h1 h2 h3 => ?_
   rw [T b (typ_ne h3 h3b (by decide))]
   exact h3
 · intro e he
   rcases List.mem_append.1 he with he | he
   · exact own_stays (h.ro e he) fun b cur _ _ h3=>S3 b cur h3
   · obtain rfl:=List.mem_singleton.1 he
     exact own_stays hl fun b cur _ _ h3=>S3 b cur h3
 · intro e he
   rcases List.mem_append.1 he with he | he
   · exact own_stays (h.rw e he) fun b cur _ _ h3=>S3 b cur h3
   · obtain rfl:=List.mem_singleton.1 he
     refine own_stays hm fun b cur _ _ h3 => ?_
     rw [T b (typ_ne h3 h3b (by decide))]
     exact h3
 · exact haw
 · exact hao
 · right
   intro e
   have e2:ov'.ownBlock=some g:=e
   rcases hG with hG | hG
   · rcases k.ob with h4 | ⟨g',h4,h5⟩
     · rw [e2] at h4
       rcases h.ow with h6 | h6
       · rw [h6] at h4;cases h4
       · exact h6 (h4.symm.trans hG.symm)
     · rw [e2] at h4
       injection h4 with h4
       have:=(World.ownsRow.lt h.want g hG).2
       omega
   · have:=(World.ownsRow.lt k.out g e2).2
     omega
 · simp;omega
 · intro e he
   rcases List.mem_append.1 he with he | he
   · exact h.sm e he
   · obtain rfl:=List.mem_singleton.1 he
     show l.length≤900000
     omega
 · have:=h.fr
   simp
   omega
 · show w.heap.size≤(W3.setCell _ _).heap.size
   have h1:(W3.setCell ⟨hb,1,none⟩ (.slice (some ⟨g,0,none⟩) (es.length+1) c)).heap.size=W3.heap.size:=by simp [World.setCell]
   have:=hg.size
   omega
 · exact (k.bel.grown hg (by omega) (fun b hb'=>(World.ownsRow.lt h.want b hb').1)).setCell (p:=⟨hb,1,none⟩) h.hb _
set_option maxHeartbeats 4000000 in
theorem keep_any (base hb:Nat) (ov wv:Value) (es:List BE) (f u:Nat) (lv:Value) (l:List Bk) (w:World) (h:Bok w base hb ov wv es f u es.length) (hl:OwnK w base lv l) (hap:∀ b,lv.ownBlock=some b→b ∉ blksO es) (hn:l.length≤800000) (hes:es.length≤99) :
 Calls Tryz.prog 27 #[.pointer (some ⟨hb,0,none⟩),lv] w fun e w'=>(∃ x,e = .returned x)∧∃ ov' wv' mv,Bok w' base hb ov' wv' (es++[⟨lv,mv,l⟩]) f u (es.length+1)∧Tch hb ov wv w w'∧Below base w w'∧Mvd w.heap.size ov ov'∧Mvd w.heap.size wv wv'∧(∀ b,mv.ownBlock=some b→w.heap.size≤b):=by
 have HB:Hid (Bok w base hb ov wv es f u es.length):=h
 have HL:Hid (OwnK w base lv l):=hl
 have hm:=mixed
 obtain ⟨n,hnn⟩:∃ n,es.length=n:=⟨_,rfl⟩
 have HN:Hid (es.length=n):=hnn
 obtain ⟨oa,oc,rfl⟩:=row_nil h.out
 obtain ⟨wa,wc,rfl⟩:=row_nil h.want
 obtain ⟨la,ln,lc,rfl⟩:IsSl lv:=by obtain ⟨a,c,e⟩:=OwnK.form hl;exact ⟨_,_,_,e⟩
 have c0:=h.cell.1
 have hbz:base≤w.heap.size:=by have:=h.hb;have:=(Array.getElem?_eq_some_iff.1 h.bk).1;omega
 have HO:Hid (∀ ob,(w.alloc ob).ownsRow base 32 1 (.slice oa n oc) n (es.map BE.o)∧base≤(w.alloc ob).heap.size):=fun ob=>by
  have:=h.out
  rw [hnn] at this
  exact ⟨World.ownsRow.alloc this ob,by have:(w.alloc ob).heap.size=w.heap.size+1:=Array.size_push _;omega⟩
 have HK1:Hid (∀ (g c:Nat) (ob:Obj) (w5:World),w5.ownsRow base 32 1 (.slice (some ⟨g,0,none⟩) (n+1) c) (n+1) (es.map BE.o++[.slice la ln lc])→(w.alloc ob).grownBy w5 (Value.slice oa n oc).ownBlock→((Value.slice oa n oc).ownBlock=some g∨g=(w.alloc ob).heap.size)→w5.heap[hb]? = some (.cells #[.slice oa n oc,.slice wa n wc,.int .i64 f] 29 (0,0))∧K1 w base hb (.slice oa n oc) (.slice wa n wc) es f (.slice la ln lc) l (.slice (some ⟨g,0,none⟩) (n+1) c) (w5.setCell ⟨hb,0,none⟩ (.slice (some ⟨g,0,none⟩) (n+1) c))):=fun g c ob w5 a b d=>by
  have:=k1_of (l:=l) (lv := .slice la ln lc) h (g:=g) (c:=c) (ob:=ob) (w5:=w5)
  rw [hnn] at this
  exact this a b d
 rw [hnn] at c0
 rw [hnn] at HB hes
 have hnI:n≤2000000:=by omega
 clear h hl hnn
 go_enter Tryz.func27,Tryz.ntmps27
 go_upto_region 1 with (at_builtin;go_must (refine app_L rfl _ _ rfl base (.slice oa n oc) n (es.map BE.o) rfl (HO.out _).1 _ _ (.slice la ln lc) rfl (cell_new1 _ _ _) ⟨_,_,_,rfl⟩ hnI (HO.out _).2 ?_;intro g c w5 ho5 hg5 hG5;have HX:=Hid.mk2 (HK1.out g c _ w5 ho5 hg5 hG5);clear ho5 hg5 hG5;have c5:w5.cell? ⟨hb,0,none⟩=some (.slice oa n oc):=(by simp [World.cell?,HX.out.1]);have f5:w5.frozen? ⟨hb,0,none⟩=false:=(by simp [World.frozen?,HX.out.1])))
 obtain ⟨w6,hw6⟩:∃ w6,w6=w5.setCell ⟨hb,0,none⟩ (.slice (some ⟨g,0,none⟩) (n+1) c):=⟨_,rfl⟩
 rw [←hw6]
 have HK:=Hid.mk2 HX.out.2
 rw [←hw6] at HK
 clear hw6 c5 f5 HX HK1 HO c0
 have hB0:=HB.out
 have hK0:=HK.out
 have HB6:Hid (w6.heap[hb]? = some (.cells #[.slice (some ⟨g,0,none⟩) (n+1) c,.slice wa n wc,.int .i64 f] 29 (0,0))):=hK0.bk
 have HW6:Hid (w6.ownsRow base 32 1 (.slice wa n wc) n (es.map BE.w)):=by
  have:=hB0.want
  rw [HN.out] at this
  refine own_stays this fun b cur h1 _ h3 => ?_
  rw [hK0.blk b (Array.getElem?_eq_some_iff.1 h3).1 (typ_ne h3 hB0.bk (by decide)) (fun e => ?_)]
  · exact h3
  · rcases hB0.ow with h6 | h6
    · rw [h6] at e;cases e
    · exact h6 (e.trans h1.symm)
 have HI6:Hid (KR w6.drew (.slice la ln lc) l):=by
  have:OwnK w6 base (.slice la ln lc) l:=own_stays HL.out fun b cur h1 _ h3=>by
   rw [hK0.blk b (Array.getElem?_eq_some_iff.1 h3).1 (typ_ne h3 hB0.bk (by decide)) (fun e=>by obtain ⟨_,d,h2⟩:=row_typ hB0.out e;exact typ_ne h3 h2 (by decide) rfl)]
   exact h3
  exact (this.below ((Below.refl w6.heap.size w6).drew) (Nat.le_refl _)).kr
 have HSz:Hid (base≤w6.heap.size):=Nat.le_trans hbz hK0.bel.size
 have HNW:Hid ((Value.slice wa n wc).ownBlock≠some hb):=hB0.nw
 have HFin:Hid (∀ (W3:World) (mv:Value) (g c:Nat),OwnK W3 w6.heap.size mv l→W3.ownsRow base 32 1 (.slice (some ⟨g,0,none⟩) (n+1) c) (n+1) (es.map BE.w++[mv])→w6.grownBy W3 (Value.slice wa n wc).ownBlock→((Value.slice wa n wc).ownBlock=some g∨w6.heap.size≤g)→∃ ov' wv' mv,Bok (W3.setCell ⟨hb,1,none⟩ (.slice (some ⟨g,0,none⟩) (n+1) c)) base hb ov' wv' (es++[⟨.slice la ln lc,mv,l⟩]) f u (es.length+1)∧Tch hb (.slice oa es.length oc) (.slice wa es.length wc) w (W3.setCell ⟨hb,1,none⟩ (.slice (some ⟨g,0,none⟩) (n+1) c))∧Below base w (W3.setCell ⟨hb,1,none⟩ (.slice (some ⟨g,0,none⟩) (n+1) c))∧Mvd w.heap.size (.slice oa es.length oc) ov'∧Mvd w.heap.size (.slice wa es.length wc) wv'∧(∀ b,mv.ownBlock=some b→w.heap.size≤b)):=fun W3 mv g2 c2 a1 a2 a3 a4=>by
  have hmv:∀ b,mv.ownBlock=some b→b ∉ blksO es∧(Value.slice la ln lc).ownBlock≠some b:=fun b hb'=>by
   have h1:=(row_typ a1 hb').1
   have h2:=hK0.bel.size
   refine ⟨fun h3 => ?_,fun h3 => ?_⟩
   · obtain ⟨_,h4⟩:=blks_lt hB0 h3
     have:=(Array.getElem?_eq_some_iff.1 h4).1
     omega
   · have:=(World.ownsRow.lt HL.out b h3).2
     omega
  have hao0:=hB0.ao
  rw [←HN.out] at hao0
  have hh:=k2_of (g:=g2) (c:=c2) (mv:=mv) (W3:=W3) (u':=u) (t':=es.length+1) hB0 HL.out (aw_snoc hB0.aw hmv fun b hb' e' he' e1=>hap b hb' (blks_mem.2 ⟨e',he',.inr e1⟩)) (ao_keep hao0 fun b hb' e' he' e1=>hap b hb' (blks_mem.2 ⟨e',he',.inl e1⟩)) (by omega) (by rw [HN.out];exact hes) hK0 (a1.le HSz.out)
  rw [HN.out] at hh
  have:=hh a2 a3 a4
  rw [HN.out]
  exact ⟨_,_,_,this.1,this.2.1,this.2.2.1,this.2.2.2.1,this.2.2.2.2,fun b hb'=>by have h1:=(row_typ a1 hb').1;have h2:=hK0.bel.size;omega⟩
 generalize (.slice (some ⟨g,0,none⟩) (n+1) c:Value)=ov' at HB6
 clear hB0 hK0 HB HL HK hap
 refine wp_region_inv (by kernel_rfl) (by kernel_rfl) (by kernel_rfl) (by kernel_rfl) (KJ w6 base hb (.slice wa n wc) n (es.map BE.w) (.slice la ln lc) l) KJ.start ⟨?_,?_,?_,?_,?_,?_,?_,?_,?_,?_,?_,?_,trivial⟩ ?_
 · as_aux_lemma=>
    intro a wx p vs hJ hdep hpi hval hfr K hK
    have d:a.tmps.getD 0 undef=(.pointer (some ⟨hb,0,none⟩)):=hfr 0 (by kernel_rfl)
    exact step_value (v:=(.pointer (some ⟨hb,0,none⟩))) (w':=wx) rfl (fun _ _ h=>by cases h) (rho [(0,(.pointer (some ⟨hb,0,none⟩)))]) (rho_of (by intro q hm;simp only [List.mem_cons,List.not_mem_nil,or_false] at hm;rcases hm with rfl;exact d) (by kernel_rfl)) (by kernel_rfl) (hK _ _ hJ.put0)
 · as_aux_lemma=>
    intro a wx p vs hJ hdep hpi hval hfr K hK
    have d:a.tmps.getD 0 undef=(.pointer (some ⟨hb,0,none⟩)):=hfr 0 (by kernel_rfl)
    exact step_value (v:=(.pointer (some ⟨hb,0,none⟩))) (w':=wx) rfl (fun _ _ h=>by cases h) (rho [(0,(.pointer (some ⟨hb,0,none⟩)))]) (rho_of (by intro q hm;simp only [List.mem_cons,List.not_mem_nil,or_false] at hm;rcases hm with rfl;exact d) (by kernel_rfl)) (by kernel_rfl) (hK _ _ hJ.put1)
 · as_aux_lemma=>
    intro a wx p vs hJ hdep hpi hval hfr K hK
    have h:=hdep 1 (by kernel_rfl)
    have d:a.tmps.getD 15 undef=(.pointer (some ⟨hb,0,none⟩)):=(hval 1 _ 15 h (by rfl) rfl).trans (hJ.v1 h)
    have hJ':=hJ.put2
    clear hval hfr hdep hJ
    simp only [Array.getD_eq_getD_getElem?] at d
    go_simp
    exact hK _ _ hJ'
 · as_aux_lemma=>
    intro a wx p vs hJ hdep hpi hval hfr K hK
    have h:=hdep 2 (by kernel_rfl)
    have d:a.tmps.getD 16 undef=(.pointer (some ⟨hb,0,none⟩)):=(hval 2 _ 16 h (by rfl) rfl).trans (hJ.v2 h)
    have hJ':=hJ.put3
    clear hval hfr hdep hJ
    simp only [Array.getD_eq_getD_getElem?] at d
    go_simp
    exact hK _ _ hJ'
 · as_aux_lemma=>
    intro a wx p vs hJ hdep hpi hval hfr K hK
    have h:=hdep 3 (by kernel_rfl)
    have d:a.tmps.getD 17 undef=(.pointer (some ⟨hb,1,none⟩)):=(hval 3 _ 17 h (by rfl) rfl).trans (hJ.v3 h)
    have h8:p 8=false:=bool_not hJ.o4 hpi
    have hc:wx.cell? ⟨hb,1,none⟩=some (.slice wa n wc):=by
     have:=((hJ.pre h8).block hb (Array.getElem?_eq_some_iff.1 HB6.out).1).trans HB6.out
     simp [World.cell?,this]
    have hJ':=hJ.put4
    clear hval hfr hdep hJ h8
    simp only [Array.getD_eq_getD_getElem?] at d
    go_simp
    exact hK _ _ hJ'
 · as_aux_lemma=>
    intro a wx p vs hJ hdep hpi hval hfr K hK
    have d:a.tmps.getD 1 undef=(.slice la ln lc):=hfr 1 (by kernel_rfl)
    exact step_value (v:=(.slice la ln lc)) (w':=wx) rfl (fun _ _ h=>by cases h) (rho [(1,(.slice la ln lc))]) (rho_of (by intro q hm;simp only [List.mem_cons,List.not_mem_nil,or_false] at hm;rcases hm with rfl;exact d) (by kernel_rfl)) (by kernel_rfl) (hK _ _ hJ.put5)
 · as_aux_lemma=>
    intro a wx p vs hJ hdep hpi hval hfr K hK
    have h:=hdep 5 (by kernel_rfl)
    have d:a.eval (.tmp 19) = .slice la ln lc:=(hval 5 _ 19 h (by rfl) rfl).trans (hJ.v5 h)
    have hw:=hJ.x0 hpi
    subst hw
    refine step_copyI rfl _ rfl _ l d HI6.out (by omega) ?_
    intro v' w' h1 h2
    exact hK _ _ (hJ.put6 hpi h1 (((Below.refl _ w6).drew).trans h2))
 · as_aux_lemma=>
    intro a wx p vs hJ hdep hpi hval hfr K hK
    have h:=hdep 6 (by kernel_rfl)
    have d:a.tmps.getD 20 undef=vs 6:=hval 6 _ 20 h (by rfl) rfl
    have hJ':=hJ.put7 h hpi
    obtain ⟨ma,mc,hm⟩:=OwnK.form (hJ.x1 h hpi).1
    refine step_slice rfl 27 32 1 _ rfl 1 Tryz.underlying27 (by kernel_rfl) (by kernel_rfl) (by decide) [vs 6] ?_ (by intro v hm2;simp only [List.mem_cons,List.not_mem_nil,or_false] at hm2;rw [hm2,hm];rfl) rfl (by decide) (by decide) ?_
    · rw [Array.toList_map]
      show [(0,a.tmps.getD 20 undef)]=_
      rw [d]
      rfl
    · have e:([vs 6].flatMap fun v=>v.cells.toList).toArray=#[vs 6]:=by rw [hm];rfl
      rw [e]
      exact hK _ _ hJ'
 · as_aux_lemma=>
    intro a wx p vs hJ hdep hpi hval hfr K hK
    have h4:=hdep 4 (by kernel_rfl)
    have h7:=hdep 7 (by kernel_rfl)
    obtain ⟨hx1,hx2,b,e7,hbb,_⟩:=hJ.x2 h7 hpi
    have d4:a.eval (.tmp 18) = .slice wa n wc:=(hval 4 _ 18 h4 (by rfl) rfl).trans (hJ.v4 h4)
    have d7:a.eval (.tmp 21) = .slice (some ⟨b,0,none⟩) 1 1:=(hval 7 _ 21 h7 (by rfl) rfl).trans e7
    obtain ⟨ma,mc,hm⟩:=OwnK.form hx1
    have hO:=ownsRow_below HW6.out hx2 (Nat.le_refl _)
    refine step_appL rfl _ _ rfl base _ n (es.map BE.w) d4 hO b 1 (vs 6) d7 (by simp [World.cell?,hbb]) ⟨_,_,_,hm⟩ (by omega) (by have:=hx2.size;have:=HSz.out;omega) ?_
    intro g cap w' ho hg hG
    exact hK _ _ (hJ.put8 h4 h7 hpi ho hg hG (fun b hb=>(World.ownsRow.lt HW6.out b hb).2))
 · as_aux_lemma=>
    intro a wx p vs hJ hdep hpi hval hfr K hK
    have h:=hdep 0 (by kernel_rfl)
    have d:a.tmps.getD 14 undef=(.pointer (some ⟨hb,0,none⟩)):=(hval 0 _ 14 h (by rfl) rfl).trans (hJ.v0 h)
    have hJ':=hJ.put9
    clear hval hfr hdep hJ
    simp only [Array.getD_eq_getD_getElem?] at d
    go_simp
    exact hK _ _ hJ'
 · as_aux_lemma=>
    intro a wx p vs hJ hdep hpi hval hfr K hK
    have h:=hdep 9 (by kernel_rfl)
    have d:a.tmps.getD 23 undef=(.pointer (some ⟨hb,0,none⟩)):=(hval 9 _ 23 h (by rfl) rfl).trans (hJ.v9 h)
    have hJ':=hJ.put10
    clear hval hfr hdep hJ
    simp only [Array.getD_eq_getD_getElem?] at d
    go_simp
    exact hK _ _ hJ'
 · as_aux_lemma=>
    intro a wx p vs hJ hdep hpi hval hfr K hK
    have h8:=hdep 8 (by kernel_rfl)
    have h10:=hdep 10 (by kernel_rfl)
    obtain ⟨gg,cc,e8,hJ'⟩:=hJ.put11 h8 h10 hpi
    have d8:a.tmps.getD 22 undef = .slice (some ⟨gg,0,none⟩) (n+1) cc:=(hval 8 _ 22 h8 (by rfl) rfl).trans e8
    have d10:a.tmps.getD 24 undef=(.pointer (some ⟨hb,1,none⟩)):=(hval 10 _ 24 h10 (by rfl) rfl).trans (hJ.v10 h10)
    obtain ⟨_,_,W3,_,_,_,hg3,_,hw3,_⟩:=hJ.x3 h8
    obtain rfl:=hw3 hpi
    have htw:wx.heap[hb]? = some (.cells #[ov',.slice wa n wc,.int .i64 f] 29 (0,0)):=(hg3.block hb (Array.getElem?_eq_some_iff.1 HB6.out).1 (fun e=>HNW.out e.symm)).trans HB6.out
    have hc:wx.cell? ⟨hb,1,none⟩=some (.slice wa n wc):=by simp [World.cell?,htw]
    have hf:wx.frozen? ⟨hb,1,none⟩=false:=by simp [World.frozen?,htw]
    have hJ2:=fun v=>hK v _ (hJ' v)
    clear hval hfr hdep hJ e8 hJ' hK htw hg3 hw3
    simp only [Array.getD_eq_getD_getElem?] at d8 d10
    go_simp
    exact hJ2 undef
 · intro vs w' hJ
   obtain ⟨gg,cc,W3,h0,h1,h2,h3,h4,h6,h5⟩:=hJ.x3 (by decide)
   have hw:=h5 (by decide)
   have HE:=Hid.mk2 (HFin.out W3 (vs 6) gg cc h1 h2 h3 h4)
   rw [←hw] at HE
   clear h0 h1 h2 h3 h4 h5 h6 hw hJ HFin HB6 HW6 HI6 HSz HNW
   rw [putL_eq]
   simp only [putsL,List.set_cons_zero,List.set_cons_succ,Nat.zero_add,Nat.reduceAdd]
   generalize vs 0=y0
   generalize vs 1=y1
   generalize vs 2=y2
   generalize vs 3=y3
   generalize vs 4=y4
   generalize vs 5=y5
   generalize vs 6=y6
   generalize vs 7=y7
   generalize vs 8=y8
   generalize vs 9=y9
   generalize vs 10=y10
   generalize vs 11=y11
   clear vs
   go_wp2
   exact bodyPost_end (results_none rfl _ _ _) rfl ⟨⟨_,rfl⟩,HE.out⟩
end Go.Proofs
