/-
  Rows of ranges that grow.
-/
import Derived.RangeFuncNested
import Derived.RangeFuncBound
import Derived.RangeFuncCalls
import Derived.RangeFuncLeaves
import Derived.Shelf.Abstract
import Derived.Shelf.RegionOpen
import Derived.WalkKit
import Derived.WalkSpells
import Derived.WalkLawsBesides
import Derived.OwnWalkIn
import Derived.TacticsInMore
import Derived.LoopNIn
import Derived.LoopIn
import Derived.BigQuiet
import Derived.RegionIn
import Derived.Deep.QuietTactic
import Derived.Deep.RegionWith
import Derived.Lib.OthersKept
import Derived.Maps.AppendAt
import Derived.Lib.SmallJoins
import Derived.Test.YtibgnkpagfpinaaGreatDoorVdt
namespace Go.Proofs
open Go.RowKit Go.Shelf
set_option maxRecDepth 100000
attribute [local go_sem] Oper.semAt_some
def fl (l:List (Int × Int)):List Value:=l.flatMap fun x=>[Value.int .i64 x.1,Value.int .i64 x.2]
theorem fl_length (l:List (Int × Int)):(fl l).length=l.length*2:=by
 induction l with
 | nil=>rfl
 | cons a l ih=>simp [fl] at ih ⊢;omega
theorem fl_at (l:List (Int × Int)) {j:Nat} (hj:j<l.length):(fl l)[j*2]? = some (Value.int .i64 (rg l j).1)∧(fl l)[j*2+1]? = some (Value.int .i64 (rg l j).2):=by
 induction l generalizing j with
 | nil=>simp at hj
 | cons a l ih=>
  cases j with
  | zero=>exact ⟨by simp [fl,rg],by simp [fl,rg]⟩
  | succ j=>
   have:=ih (j:=j) (by simpa using hj)
   rw [show (j+1)*2=j*2+1+1 by omega]
   simpa [fl,rg] using this
theorem fl_one (l:List (Int × Int)):∀ u∈fl l,u.oneCell'=true:=by
 intro u hu
 simp only [fl,List.mem_flatMap] at hu
 obtain ⟨x,_,hx⟩:=hu
 simp only [List.mem_cons,List.not_mem_nil,or_false] at hx
 rcases hx with rfl | rfl <;> rfl
def OwnR (w:World) (base:Nat) (v:Value) (l:List (Int × Int)):Prop:=w.ownsRow base 97 2 v l.length (fl l)
theorem add_zero_at (g j:Nat):(⟨g,0,none⟩:Addr).add j=⟨g,j,none⟩:=by
 unfold Addr.add
 by_cases h:j=0
 · subst h;rfl
 · simp [h]
theorem OwnR.reads {w:World} {base g n cap:Nat} {l:List (Int × Int)} (h:OwnR w base (.slice (some ⟨g,0,none⟩) n cap) l):Reads w g 0 l:=fun j hj=>by
 have h1:=h.cells rfl
 have:=fl_at l hj
 have a1:=h1 _ _ this.1
 have a2:=h1 _ _ this.2
 rw [add_zero_at] at a1 a2
 rw [Nat.zero_add]
 exact ⟨a1,a2⟩
theorem OwnR.rs {w:World} {base:Nat} {v:Value} {l:List (Int × Int)} (h:OwnR w base v l):Rs w v l:=by
 rcases h.2 with ⟨rfl,h0⟩ | ⟨g,cap,cur,rfl,_,_,hc,_⟩
 · have:l=[]:=List.eq_nil_of_length_eq_zero h0
   subst this
   exact ⟨none,0,rfl,Nat.le_refl _,.inl rfl⟩
 · exact ⟨_,cap,rfl,hc,.inr ⟨g,0,rfl,OwnR.reads h⟩⟩
theorem info38:(Tryz.prog.info? 97).map (fun i=>(i.zero,i.size,i.bytes))=some (some (.agg #[.int .i64 0,.int .i64 0]),2,16):=by kernel_rfl
end Go.Proofs
