/-
  Rows of ranges that grow.
-/
import Derived.RangeFuncNested
import Derived.RangeFuncBound
import Derived.RangeFuncCalls
import Derived.RangeFuncLeaves
import Derived.Shelf.Abstract
import Derived.Shelf.RegionOpen
import Derived.WalkKit
import Derived.WalkSpells
import Derived.WalkLawsBesides
import Derived.OwnWalkIn
import Derived.TacticsInMore
import Derived.LoopNIn
import Derived.LoopIn
import Derived.BigQuiet
import Derived.RegionIn
import Derived.Deep.QuietTactic
import Derived.Deep.RegionWith
import Derived.Lib.OthersKept
import Derived.Maps.AppendAt
import Derived.Lib.SmallJoins
import Derived.Test.YtcfcjljapamcoaaGreatDoorMpbn
namespace Go.Proofs
open Go.RowKit Go.Shelf
set_option maxRecDepth 100000
attribute [local go_sem] Oper.semAt_some
def fl (l:List (Int × Int)):List Value:=l.flatMap fun x=>[Value.int .i64 x.1,Value.int .i64 x.2]
theorem fl_append (l k:List (Int × Int)):fl (l++k)=fl l++fl k:=by simp [fl]
theorem fl_length (l:List (Int × Int)):(fl l).length=l.length*2:=by
 induction l with
 | nil=>rfl
 | cons a l ih=>simp [fl] at ih ⊢;omega
theorem fl_at (l:List (Int × Int)) {j:Nat} (hj:j<l.length):(fl l)[j*2]? = some (Value.int .i64 (rg l j).1)∧(fl l)[j*2+1]? = some (Value.int .i64 (rg l j).2):=by
 induction l generalizing j with
 | nil=>simp at hj
 | cons a l ih=>
  cases j with
  | zero=>exact ⟨by simp [fl,rg],by simp [fl,rg]⟩
  | succ j=>
   have:=ih (j:=j) (by simpa using hj)
   rw [show (j+1)*2=j*2+1+1 by omega]
   simpa [fl,rg] using this
theorem fl_one (l:List (Int × Int)):∀ u∈fl l,u.oneCell'=true:=by
 intro u hu
 simp only [fl,List.mem_flatMap] at hu
 obtain ⟨x,_,hx⟩:=hu
 simp only [List.mem_cons,List.not_mem_nil,or_false] at hx
 rcases hx with rfl | rfl <;> rfl
def OwnR (w:World) (base:Nat) (v:Value) (l:List (Int × Int)):Prop:=w.ownsRow base 67 2 v l.length (fl l)
theorem OwnR.nil (w:World) (base:Nat):OwnR w base (.slice none 0 0) []:=World.ownsRow_nil _ _ _ _
theorem add_zero_at (g j:Nat):(⟨g,0,none⟩:Addr).add j=⟨g,j,none⟩:=by
 unfold Addr.add
 by_cases h:j=0
 · subst h;rfl
 · simp [h]
theorem OwnR.reads {w:World} {base g n cap:Nat} {l:List (Int × Int)} (h:OwnR w base (.slice (some ⟨g,0,none⟩) n cap) l):Reads w g 0 l:=fun j hj=>by
 have h1:=h.cells rfl
 have:=fl_at l hj
 have a1:=h1 _ _ this.1
 have a2:=h1 _ _ this.2
 rw [add_zero_at] at a1 a2
 rw [Nat.zero_add]
 exact ⟨a1,a2⟩
theorem OwnR.rs {w:World} {base:Nat} {v:Value} {l:List (Int × Int)} (h:OwnR w base v l):Rs w v l:=by
 rcases h.2 with ⟨rfl,h0⟩ | ⟨g,cap,cur,rfl,_,_,hc,_⟩
 · have:l=[]:=List.eq_nil_of_length_eq_zero h0
   subst this
   exact ⟨none,0,rfl,Nat.le_refl _,.inl rfl⟩
 · exact ⟨_,cap,rfl,hc,.inr ⟨g,0,rfl,OwnR.reads h⟩⟩
theorem OwnR.le {w:World} {base base':Nat} {v:Value} {l:List (Int × Int)} (h:OwnR w base v l) (hb:base'≤base):OwnR w base' v l:=Joins.ownsRow_le h hb
theorem OwnR.alloc {w:World} {base:Nat} {v:Value} {l:List (Int × Int)} (h:OwnR w base v l) (o:Obj):OwnR (w.alloc o) base v l:=World.ownsRow.alloc h o
theorem info38:(Tryz.prog.info? 67).map (fun i=>(i.zero,i.size,i.bytes))=some (some (.agg #[.int .i64 0,.int .i64 0]),2,16):=by kernel_rfl
theorem own_below {w w':World} {base:Nat} {v:Value} {l:List (Int × Int)} (h:OwnR w base v l) (hb:base≤w.heap.size) (hg:w.grownBy w' v.ownBlock):Below base w w':=(Below.refl _ w).grown hg hb (fun k hk=>(World.ownsRow.lt h k hk).1)
theorem push_R {ops:Array Oper} {rest:List Oper} {o:Oper} {a:Act} {Q:Exit→Act→World→Prop} {w:World} (hgd:o.guard=none) (s x:Operand) (t:TypeId)
 (ho:o.op = .call { callee := .builtin .append,args:=#[s,x],argTypes:=#[t,t] }) (ht:Tryz.prog.underlying t=some (.slice 67))
 (base:Nat) (v:Value) (l:List (Int × Int)) (hs:a.eval s=v) (hown:OwnR w base v l) (g c:Nat) (p q:Int) (hx:a.eval x = .slice (some ⟨g,0,none⟩) 1 c)
 (hp:w.cell? ⟨g,0,none⟩=some (.int .i64 p)) (hq:w.cell? ⟨g,1,none⟩=some (.int .i64 q)) (hl:l.length+1≤8796093022208) (hbase:base≤w.heap.size)
 (h:∀ v' w',OwnR w' base v' (l++[(p,q)])→w.grownBy w' v.ownBlock→Below base w w'→wpList Tryz.prog ops Q rest (a.put o.dst v') w'):wpList Tryz.prog ops Q (o::rest) a w:=by
 obtain ⟨i0,hi,hz0,hz1,hz2⟩:=info_parts info38
 refine wpList_append_own w hgd s x t ho base 67 i0 (.agg #[.int .i64 0,.int .i64 0]) 2 16 ht hi hz0 hz1 hz2 rfl (by decide) v l.length (fl l) hs hown ⟨g,0,none⟩ 1 c (fl [(p,q)]) hx rfl ?_ (fl_one _) (by unfold maxLen;omega) (by omega) hbase (fun v' w' h2 h3 _=>h v' w' ?_ h3 (own_below hown hbase h3))
 · intro j u hj
   match j,hj with
   | 0,hj=>simp [fl] at hj;subst hj;exact hp
   | 1,hj=>simp [fl] at hj;subst hj;exact hq
 · unfold OwnR
   rw [fl_append,List.length_append]
   exact h2
def allU:List (Int × Int):=[(0,55295),(57344,1114111),(1114240,1114367)]
end Go.Proofs
