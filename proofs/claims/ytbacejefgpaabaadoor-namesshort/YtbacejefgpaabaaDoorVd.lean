/-
  Has, Len, Place and Nth of a set.
-/
import Derived.RangeFuncNested
import Derived.RangeFuncBound
import Derived.RangeFuncCalls
import Derived.RangeFuncLeaves
import Derived.Shelf.Abstract
import Derived.Shelf.RegionOpen
import Derived.WalkKit
import Derived.WalkSpells
import Derived.WalkLawsBesides
import Derived.OwnWalkIn
import Derived.TacticsInMore
import Derived.LoopNIn
import Derived.LoopIn
import Derived.BigQuiet
import Derived.RegionIn
import Derived.Deep.QuietTactic
import Derived.Deep.RegionWith
import Derived.Lib.OthersKept
import Derived.Maps.AppendAt
import Derived.Lib.SmallJoins
import Derived.Test.YtbacejefgpaabaaDoorVc
namespace Go.Proofs
open Go.RowKit Go.Shelf

set_option maxRecDepth 100000
attribute [local go_sem] Oper.semAt_some
set_option maxHeartbeats 1000000 in
theorem has_any (v : Value) (l : List (Int × Int)) (u : Int) (w : World) (hT : Tab w) (h : Rs w v l) : Calls Tryd.prog 75 #[v, .int .i64 u] w fun e w' => e = .returned (.bool (validB l && decide (hasU l u))) ∧ Grown w w' := by
  have HC : Hid (Calls Tryd.prog 82 #[v, .int .i64 u] w fun e w' => e = .returned (.tuple #[.int .i64 (if validB l then (fnd l u : Int) else 0), .bool (validB l && decide (hasU l u))]) ∧ Grown w w') := find_any v l u w hT h
  generalize (if validB l then (fnd l u : Int) else 0) = a at HC
  generalize (validB l && decide (hasU l u)) = b at HC ⊢
  clear h
  go_enter Tryd.func75, Tryd.ntmps75
  go_wp2_with (go_at_call 82; refine HC.out.mono ?_; rintro e w' ⟨rfl, hb⟩)
  go_ret
  exact ⟨rfl, hb⟩
theorem Reads.take {w : World} {g o : Nat} {l : List (Int × Int)} (h : Reads w g o l) (k : Nat) : Reads w g o (l.take k) := fun j hj => by
  rw [List.length_take] at hj
  have := h j (by omega)
  rwa [show rg (l.take k) j = rg l j by simp only [rg]; rw [List.getElem?_take_of_lt (by omega)]]
theorem Rs.take {w : World} {g o n c : Nat} {l : List (Int × Int)} (h : Rs w (.slice (some ⟨g, o, none⟩) n c) l) {k : Nat} (hk : k ≤ l.length) : Rs w (.slice (some ⟨g, o, none⟩) k k) (l.take k) := by
  obtain ⟨a, cap, hs, hcp, h⟩ := h
  refine ⟨some ⟨g, o, none⟩, k, by rw [List.length_take, Nat.min_eq_left hk], by rw [List.length_take]; omega, ?_⟩
  rcases h with rfl | ⟨g', o', rfl, h⟩
  · exact .inl (by simp)
  · cases hs; exact .inr ⟨g, o, rfl, h.take k⟩
theorem drop_rg {l : List (Int × Int)} {k : Nat} (hk : k < l.length) : l.drop k = rg l k :: l.drop (k + 1) := by
  rw [rg_lt hk, List.drop_eq_getElem_cons hk]
end Go.Proofs
