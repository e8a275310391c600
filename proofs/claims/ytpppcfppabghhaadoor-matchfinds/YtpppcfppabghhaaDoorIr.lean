/-
  Parts of a row of numbers.
-/
import Derived.RangeFuncNested
import Derived.RangeFuncBound
import Derived.RangeFuncCalls
import Derived.RangeFuncLeaves
import Derived.Shelf.Abstract
import Derived.Shelf.RegionOpen
import Derived.WalkKit
import Derived.WalkSpells
import Derived.WalkLawsBesides
import Derived.OwnWalkIn
import Derived.TacticsInMore
import Derived.LoopNIn
import Derived.LoopIn
import Derived.BigQuiet
import Derived.RegionIn
import Derived.Deep.QuietTactic
import Derived.Deep.RegionWith
import Derived.Lib.OthersKept
import Derived.Maps.AppendAt
import Derived.Lib.SmallJoins
import Derived.Shelf.SlSortCmp.QuietGrown
import Derived.Test.YtpppcfppabghhaaDoorWd
import Derived.Test.YtpppcfppabghhaaDoorNb
namespace Go.Proofs
open Go.RowKit Go.Shelf

set_option maxRecDepth 100000
attribute [local go_sem] Oper.semAt_some
attribute [local go_sem ↓] Go.wp_at_zero Go.wp_at_succ
theorem ir_take {w : World} {g o N c n : Nat} {l : List Int} (h : IR w (.slice (some ⟨g, o, none⟩) N c) l) (hn : n ≤ N) : IR w (.slice (some ⟨g, o, none⟩) n c) (l.take n) := by
  obtain ⟨A, c', e, hc, hr⟩ := h
  injection e with e1 e2 e3
  subst e3
  have ht : (l.take n).length = n := by rw [List.length_take]; omega
  refine ⟨_, c, by rw [ht], by omega, ?_⟩
  rcases hr with rfl | ⟨g', o', h1, hr⟩
  · exact .inl (by simp)
  · rw [← e1] at h1
    injection h1 with h1
    injection h1 with h1 h2
    subst h1 h2
    exact .inr ⟨g, o, rfl, fun j hj => by rw [List.getElem_take]; exact hr j (by omega)⟩
theorem ir_drop {w : World} {g o N c n : Nat} {l : List Int} (h : IR w (.slice (some ⟨g, o, none⟩) N c) l) (hn : n ≤ N) : IR w (.slice (some ⟨g, o + n, none⟩) (N - n) (c - n)) (l.drop n) := by
  obtain ⟨A, c', e, hc, hr⟩ := h
  injection e with e1 e2 e3
  subst e3
  refine ⟨_, c - n, by rw [List.length_drop, e2], by rw [List.length_drop]; omega, ?_⟩
  rcases hr with rfl | ⟨g', o', h1, hr⟩
  · exact .inl (by simp)
  · rw [← e1] at h1
    injection h1 with h1
    injection h1 with h1 h2
    subst h1 h2
    exact .inr ⟨g, o + n, rfl, fun j hj => by
      rw [List.length_drop] at hj
      have := hr (n + j) (by omega)
      rw [List.getElem_drop, Nat.add_assoc]
      exact this⟩
end Go.Proofs
