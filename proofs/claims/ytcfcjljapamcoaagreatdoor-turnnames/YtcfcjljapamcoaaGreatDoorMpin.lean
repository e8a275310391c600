/-
  Several texts in one (Man Ran Rbn Jfn Rcn Icn).
-/
import Derived.Test.YtcfcjljapamcoaaGreatDoorVen
import Derived.RangeFuncNested
import Derived.RangeFuncBound
import Derived.RangeFuncCalls
import Derived.RangeFuncLeaves
import Derived.Shelf.Abstract
import Derived.Shelf.RegionOpen
import Derived.WalkKit
import Derived.WalkSpells
import Derived.WalkLawsBesides
import Derived.OwnWalkIn
import Derived.TacticsInMore
import Derived.LoopNIn
import Derived.LoopIn
import Derived.BigQuiet
import Derived.RegionIn
import Derived.Deep.QuietTactic
import Derived.Deep.RegionWith
import Derived.Lib.OthersKept
import Derived.Maps.AppendAt
import Derived.Lib.SmallJoins
import Derived.Shelf.SlSortCmp.QuietGrown
import Derived.Test.YtcfcjljapamcoaaGreatDoorMpcn
import Derived.Test.YtcfcjljapamcoaaGreatDoorMgcn
namespace Go.Proofs
open Go.RowKit Go.Shelf
end Go.Proofs
namespace Go.Proofs
open Go.RowKit Go.Shelf
set_option maxRecDepth 100000
attribute [local go_sem] Oper.semAt_some
def wB (a b:Int):Nat→Bool
 | 0=>false
 | k+1=>wB a b k || (decide (blkLo k≤a) && decide (b≤blkHi k) && decide (a≤b))
end Go.Proofs
namespace Go.Proofs
open Go.RowKit Go.Shelf
set_option maxRecDepth 100000
attribute [local go_sem] Oper.semAt_some
end Go.Proofs
namespace Go.Proofs
open Go.RowKit Go.Shelf
set_option maxRecDepth 100000
attribute [local go_sem] Oper.semAt_some
attribute [local go_sem ↓] Go.wp_at_zero Go.wp_at_succ
end Go.Proofs
namespace Go.Proofs
open Go.RowKit Go.Shelf
set_option maxRecDepth 100000
attribute [local go_sem] Oper.semAt_some
def isU (u:Int):Prop:=(0≤u∧u≤55295)∨(57344≤u∧u≤1114111)∨(1114240≤u∧u≤1114367)
end Go.Proofs
namespace Go.Proofs
open Go.RowKit Go.Shelf
set_option maxRecDepth 100000
attribute [local go_sem] Oper.semAt_some
attribute [local go_sem ↓] Go.wp_at_zero Go.wp_at_succ
theorem wd_unit {u:Int} (h:isU u):wd u≠0:=by
 unfold isU at h
 by_cases h1:(0≤u∧u≤127)∨(1114240≤u∧u≤1114367)
 · rw [wd_1 h1];decide
 · by_cases h2:128≤u∧u≤2047
   · rw [wd_2 h2];decide
   · by_cases h3:2048≤u∧u≤65535
     · rw [wd_3 (by omega)];decide
     · rw [wd_4 (by omega)];decide
end Go.Proofs
