/-
  The document's answer: Place and Nth.
-/
import Derived.RangeFuncNested
import Derived.RangeFuncBound
import Derived.RangeFuncCalls
import Derived.RangeFuncLeaves
import Derived.Shelf.Abstract
import Derived.Shelf.RegionOpen
import Derived.WalkKit
import Derived.WalkSpells
import Derived.WalkLawsBesides
import Derived.OwnWalkIn
import Derived.TacticsInMore
import Derived.LoopNIn
import Derived.LoopIn
import Derived.BigQuiet
import Derived.RegionIn
import Derived.Deep.QuietTactic
import Derived.Deep.RegionWith
import Derived.Lib.OthersKept
import Derived.Maps.AppendAt
import Derived.Lib.SmallJoins
import Derived.Test.YtibgnkpagfpinaaGreatDoorMat
import Derived.Test.YtibgnkpagfpinaaGreatDoorJft
namespace Go.Proofs
open Go.RowKit Go.Shelf
set_option maxRecDepth 100000
attribute [local go_sem] Oper.semAt_some
def isU (u:Int):Prop:=(0≤u∧u≤55295)∨(57344≤u∧u≤1114111)∨(1114240≤u∧u≤1114367)
theorem good_units {r:List (Int × Int)} (h:Good r) {u:Int} (hu:hasU r u):isU u:=by
 obtain ⟨x,hx,h1,h2⟩:=hu
 have:=(h.1 x hx).2
 unfold isU;omega
theorem nth_over:∀ (l:List (Int × Int)) (n:Int),(∀ y∈l,Whole y)→tot l≤n→nthL l n=none
 | [],_,_,_=>rfl
 | x::l,n,hw,h=>by
  rw [tot_cons] at h
  have hw':∀ y∈l,Whole y:=fun y hy=>hw y (by simp [hy])
  have:=(tot_bound hw').1
  rw [nthL,if_neg (by omega)]
  exact nth_over l _ hw' (by omega)
end Go.Proofs
