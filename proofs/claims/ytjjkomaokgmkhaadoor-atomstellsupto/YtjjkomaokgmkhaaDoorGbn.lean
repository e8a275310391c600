/-
  Regions that draw their order: what they keep.
-/
import Derived.RangeFuncNested
import Derived.RangeFuncBound
import Derived.RangeFuncCalls
import Derived.RangeFuncLeaves
import Derived.Shelf.Abstract
import Derived.Shelf.RegionOpen
import Derived.WalkKit
import Derived.WalkSpells
import Derived.WalkLawsBesides
import Derived.OwnWalkIn
import Derived.TacticsInMore
import Derived.LoopNIn
import Derived.LoopIn
import Derived.BigQuiet
import Derived.RegionIn
import Derived.Deep.QuietTactic
import Derived.Deep.RegionWith
import Derived.Lib.OthersKept
import Derived.Maps.AppendAt
import Derived.Lib.SmallJoins
import Derived.Shelf.SlSortCmp.QuietGrown
import Derived.Test.YtjjkomaokgmkhaaDoorBbn
import Derived.Test.YtjjkomaokgmkhaaDoorGin
namespace Go.Proofs
open Go.RowKit Go.Shelf

set_option maxRecDepth 100000
attribute [local go_sem] Oper.semAt_some
attribute [local go_sem ↓] Go.wp_at_zero Go.wp_at_succ

/-- what holds within a region that draws its order and only grows: values that are fixed, what else is known of them, and the world -/
structure JG (X : World) (val : Nat → Option Value) (E : Nat → Value → World → Prop) (p : Nat → Bool) (vs : Nat → Value) (W : World) : Prop where
  v : ∀ i x, val i = some x → p i = true → vs i = x
  e : ∀ i, p i = true → E i (vs i) W
  g : Grown X W
theorem JG.start {X : World} {val : Nat → Option Value} {E : Nat → Value → World → Prop} : JG X val E (fun _ => false) (fun _ => undef) X.drew := ⟨fun _ _ _ h => (by cases h), fun _ h => (by cases h), (Grown.refl X).drew⟩
theorem JG.step {X : World} {val : Nat → Option Value} {E : Nat → Value → World → Prop} (hE : ∀ i v W W', E i v W → Grown W W' → E i v W') {p : Nat → Bool} {vs : Nat → Value} {W W' : World} (h : JG X val E p vs W) (i : Nat) {v : Value} (hg : Grown W W') (hv : ∀ x, val i = some x → v = x) (he : E i v W') :
    JG X val E (fun j => p j || j == i) (fun j => if j = i then v else vs j) W' := by
  refine ⟨fun j x hx hp => ?_, fun j hp => ?_, h.g.trans hg⟩
  · by_cases e : j = i
    · subst e; rw [if_pos rfl]; exact hv x hx
    · rw [if_neg e]; exact h.v j x hx (by simpa [e] using hp)
  · by_cases e : j = i
    · subst e; rw [if_pos rfl]; exact he
    · rw [if_neg e]; exact hE j _ W W' (h.e j (by simpa [e] using hp)) hg
theorem wanted_of {o : Oper} {ops : Array Oper} {t : Array Value} {j T : Nat} {b : Bool} (hg : o.guard = some (j, b)) (hj : ((ops[j]?).bind (·.dst)) = some T) (h : t.getD T undef = .bool b) : Region.wanted o (yielded ops t) = true := by
  have ht : t[T]? = some (.bool b) := by
    rw [Array.getD_eq_getD_getElem?] at h
    cases e : t[T]? with
    | none => rw [e] at h; cases h
    | some v => rw [e] at h; simp at h; rw [h]
  unfold Region.wanted
  rw [hg]
  simp only [yielded, hj, Option.bind_some, ht]
  simp
theorem heap_cellv {W : World} {B j : Nat} {cs : Array Value} {t : TypeId} {m : Nat × Nat} {v : Value} (h : W.heap[B]? = some (.cells cs t m)) (hv : cs[j]? = some v) : W.cell? ⟨B, j, none⟩ = some v := by rw [cell_of h]; exact hv
end Go.Proofs
