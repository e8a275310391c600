/-
  Whether units stand at a row of sets; what a piece writes.
-/
import Derived.RangeFuncNested
import Derived.RangeFuncBound
import Derived.RangeFuncCalls
import Derived.RangeFuncLeaves
import Derived.Shelf.Abstract
import Derived.Shelf.RegionOpen
import Derived.WalkKit
import Derived.WalkSpells
import Derived.WalkLawsBesides
import Derived.OwnWalkIn
import Derived.TacticsInMore
import Derived.LoopNIn
import Derived.LoopIn
import Derived.BigQuiet
import Derived.RegionIn
import Derived.Deep.QuietTactic
import Derived.Deep.RegionWith
import Derived.Lib.OthersKept
import Derived.Maps.AppendAt
import Derived.Lib.SmallJoins
import Derived.Deep.DrawnRows
import Derived.Shelf.SlSortCmp.QuietGrown
import Derived.Test.YtibgnkpagfpinaaGreatDoorWbt
namespace Go.Proofs
open Go.RowKit Go.Shelf
set_option maxRecDepth 100000
attribute [local go_sem] Oper.semAt_some
attribute [local go_sem ↓] Go.wp_at_zero Go.wp_at_succ
def IRd (w:World) (g o:Nat) (l:List Int):Prop:=∀ (j:Nat) (hj:j<l.length),w.cell? ⟨g,o+j,none⟩=some (.int .i64 l[j])
def IR (w:World) (v:Value) (l:List Int):Prop:=
 ∃ (a:Option Addr) (cap:Nat),v = .slice a l.length cap∧l.length≤cap∧(l=[]∨∃ g o,a=some ⟨g,o,none⟩∧IRd w g o l)
theorem IRd.below {w w':World} {n g o:Nat} {l:List Int} (h:IRd w g o l) (hb:Below n w w') (hn:w.heap.size≤n):IRd w' g o l:=fun j hj=>cell_below (h j hj) hb hn
theorem IR.below {w w':World} {n:Nat} {v:Value} {l:List Int} (h:IR w v l) (hb:Below n w w') (hn:w.heap.size≤n):IR w' v l:=by
 obtain ⟨a,cap,h1,h2,h3 | ⟨g,o,h3,h4⟩⟩:=h
 · exact ⟨a,cap,h1,h2,.inl h3⟩
 · exact ⟨a,cap,h1,h2,.inr ⟨g,o,h3,h4.below hb hn⟩⟩
theorem IR.grown {w w':World} {v:Value} {l:List Int} (h:IR w v l) (k:Grown w w'):IR w' v l:=h.below k.below (Nat.le_refl _)
theorem IR.sl {w:World} {v:Value} {l:List Int} (h:IR w v l):IsSl v:=by
 obtain ⟨a,c,rfl,_⟩:=h
 exact ⟨a,_,c,rfl⟩
def hasB (l:List (Int × Int)) (u:Int):Bool:=validB l && decide (hasU l u)
def stB (ls:List (List (Int × Int))) (us:List Int):Bool:=decide (ls.length=us.length) && (ls.zip us).all fun x=>hasB x.1 x.2
end Go.Proofs
