/-
  The example: chainOf.
-/
import Derived.RangeFuncNested
import Derived.RangeFuncBound
import Derived.RangeFuncCalls
import Derived.RangeFuncLeaves
import Derived.Shelf.Abstract
import Derived.Shelf.RegionOpen
import Derived.WalkKit
import Derived.WalkSpells
import Derived.WalkLawsBesides
import Derived.OwnWalkIn
import Derived.TacticsInMore
import Derived.LoopNIn
import Derived.LoopIn
import Derived.BigQuiet
import Derived.RegionIn
import Derived.Deep.QuietTactic
import Derived.Deep.RegionWith
import Derived.Lib.OthersKept
import Derived.Maps.AppendAt
import Derived.Lib.SmallJoins
import Derived.Shelf.SlSortCmp.QuietGrown
import Derived.Test.YtkijbaofhodplaaDoorEp
namespace Go.Proofs
open Go.RowKit Go.Shelf

set_option maxRecDepth 100000
attribute [local go_sem] Oper.semAt_some
attribute [local go_sem ↓] Go.wp_at_zero Go.wp_at_succ
theorem one_any (u : Int) (w : World) : Calls Tryd.prog 46 #[.int .i64 u] w fun e w' => e = .returned (.slice (some ⟨w.heap.size, 0, none⟩) 1 1) ∧ w' = w.alloc (.cells #[.int .i64 u, .int .i64 u] 84) := by
  go_enter Tryd.func46, Tryd.ntmps46
  go_wp2
  go_ret
  exact ⟨rfl, rfl⟩
theorem u_any (x : Int) (w : World) : Calls Tryd.prog 47 #[.int .i64 x] w fun e w' => e = .returned (.agg #[.int .i64 1, .int .i64 x, .int .i64 0, .slice none 0 0]) ∧ w' = w.alloc (.cells #[.int .i64 1, .int .i64 x, .int .i64 0, .slice none 0 0] 66) := by
  go_enter Tryd.func47, Tryd.ntmps47
  go_wp2
  exact bodyPost_ret (v := .agg #[.int .i64 1, .int .i64 x, .int .i64 0, .slice none 0 0]) (by simp [results, Tryd.f47, go_sem]) rfl ⟨rfl, rfl⟩
def rlC (a : Int) (ps : List Pc) (cu : Int) : Rl := { bg := false, ante := [], key := [[(a, a)]], post := [], en := false, res := ps, cu := cu }
def pcC (u : Int) : Pc := { k := 1, u := u, y := 0, tl := [] }
/-- a > | bb, b > | cc, c > u (or | u) -/
def rsC (c u : Int) : List Rl := [rlC 97 [pcC 98, pcC 98] 0, rlC 98 [pcC 99, pcC 99] 0, rlC 99 [pcC u] c]
/-- the example's blocks -/
structure CH (W : World) (n : Nat) (c u : Int) : Prop where
  b1 : W.heap[n + 1]? = some (.cells #[.int .i64 97, .int .i64 97] 84 (0, 0))
  b2 : W.heap[n + 2]? = some (.cells #[.slice (some ⟨n + 1, 0, none⟩) 1 1] 59 (0, 0))
  b5 : W.heap[n + 5]? = some (.cells #[.int .i64 1, .int .i64 98, .int .i64 0, .slice none 0 0, .int .i64 1, .int .i64 98, .int .i64 0, .slice none 0 0] 66 (0, 0))
  b6 : W.heap[n + 6]? = some (.cells #[.int .i64 98, .int .i64 98] 84 (0, 0))
  b7 : W.heap[n + 7]? = some (.cells #[.slice (some ⟨n + 6, 0, none⟩) 1 1] 59 (0, 0))
  b10 : W.heap[n + 10]? = some (.cells #[.int .i64 1, .int .i64 99, .int .i64 0, .slice none 0 0, .int .i64 1, .int .i64 99, .int .i64 0, .slice none 0 0] 66 (0, 0))
  b11 : W.heap[n + 11]? = some (.cells #[.int .i64 99, .int .i64 99] 84 (0, 0))
  b12 : W.heap[n + 12]? = some (.cells #[.slice (some ⟨n + 11, 0, none⟩) 1 1] 59 (0, 0))
  b14 : W.heap[n + 14]? = some (.cells #[.int .i64 1, .int .i64 u, .int .i64 0, .slice none 0 0] 66 (0, 0))
  b15 : W.heap[n + 15]? = some (.cells #[.bool false, .slice none 0 0, .slice (some ⟨n + 2, 0, none⟩) 1 1, .slice none 0 0, .bool false, .slice (some ⟨n + 5, 0, none⟩) 2 2, .int .i64 0, .bool false, .slice none 0 0, .slice (some ⟨n + 7, 0, none⟩) 1 1, .slice none 0 0, .bool false, .slice (some ⟨n + 10, 0, none⟩) 2 2, .int .i64 0, .bool false, .slice none 0 0, .slice (some ⟨n + 12, 0, none⟩) 1 1, .slice none 0 0, .bool false, .slice (some ⟨n + 14, 0, none⟩) 1 1, .int .i64 c] 54 (0, 0))
theorem CH.below {W W' : World} {n : Nat} {c u : Int} (h : CH W n c u) {m : Nat} (hb : Below m W W') (hm : n + 15 < m) : CH W' n c u :=
  ⟨(hb.block _ (by omega)).trans h.b1, (hb.block _ (by omega)).trans h.b2, (hb.block _ (by omega)).trans h.b5, (hb.block _ (by omega)).trans h.b6, (hb.block _ (by omega)).trans h.b7, (hb.block _ (by omega)).trans h.b10, (hb.block _ (by omega)).trans h.b11, (hb.block _ (by omega)).trans h.b12, (hb.block _ (by omega)).trans h.b14, (hb.block _ (by omega)).trans h.b15⟩
theorem CH.lt {W : World} {n : Nat} {c u : Int} (h : CH W n c u) : n + 15 < W.heap.size := (Array.getElem?_eq_some_iff.1 h.b15).1
theorem sr_nil (W : World) : SR W (.slice none 0 0) [] := ⟨none, 0, rfl, Nat.le_refl _, .inl rfl⟩
theorem rs_nil (W : World) : Rs W (.slice none 0 0) [] := ⟨none, 0, rfl, Nat.le_refl _, .inl rfl⟩
theorem sr_one {W : World} {g g' : Nat} {a : Int} (h : W.heap[g]? = some (.cells #[.slice (some ⟨g', 0, none⟩) 1 1] 59 (0, 0))) (h' : W.heap[g']? = some (.cells #[.int .i64 a, .int .i64 a] 84 (0, 0))) : SR W (.slice (some ⟨g, 0, none⟩) 1 1) [[(a, a)]] := by
  refine ⟨_, 1, rfl, Nat.le_refl _, .inr ⟨g, 0, rfl, fun j hj => ?_⟩⟩
  obtain rfl : j = 0 := by simp at hj; omega
  refine ⟨.slice (some ⟨g', 0, none⟩) 1 1, by rw [cell_of h]; rfl, ⟨_, 1, rfl, Nat.le_refl _, .inr ⟨g', 0, rfl, fun j hj => ?_⟩⟩⟩
  obtain rfl : j = 0 := by simp at hj; omega
  rw [cell_of h', cell_of h']
  exact ⟨rfl, rfl⟩
theorem pr_two {W : World} {g : Nat} {a : Int} (h : W.heap[g]? = some (.cells #[.int .i64 1, .int .i64 a, .int .i64 0, .slice none 0 0, .int .i64 1, .int .i64 a, .int .i64 0, .slice none 0 0] 66 (0, 0))) : PR W (.slice (some ⟨g, 0, none⟩) 2 2) [pcC a, pcC a] := by
  refine ⟨_, 2, rfl, Nat.le_refl _, .inr ⟨g, 0, rfl, fun j hj => ?_⟩⟩
  have hj2 : j = 0 ∨ j = 1 := by simp at hj; omega
  rcases hj2 with rfl | rfl
  · exact ⟨.slice none 0 0, by rw [cell_of h]; rfl, by rw [cell_of h]; rfl, by rw [cell_of h]; rfl, by rw [cell_of h]; rfl, rs_nil W⟩
  · exact ⟨.slice none 0 0, by rw [cell_of h]; rfl, by rw [cell_of h]; rfl, by rw [cell_of h]; rfl, by rw [cell_of h]; rfl, rs_nil W⟩
theorem pr_one {W : World} {g : Nat} {a : Int} (h : W.heap[g]? = some (.cells #[.int .i64 1, .int .i64 a, .int .i64 0, .slice none 0 0] 66 (0, 0))) : PR W (.slice (some ⟨g, 0, none⟩) 1 1) [pcC a] := by
  refine ⟨_, 1, rfl, Nat.le_refl _, .inr ⟨g, 0, rfl, fun j hj => ?_⟩⟩
  obtain rfl : j = 0 := by simp at hj; omega
  exact ⟨.slice none 0 0, by rw [cell_of h]; rfl, by rw [cell_of h]; rfl, by rw [cell_of h]; rfl, by rw [cell_of h]; rfl, rs_nil W⟩
theorem CH.psr {W : World} {n : Nat} {c u : Int} (h : CH W n c u) : PsR W (.slice (some ⟨n + 15, 0, none⟩) 3 3) (rsC c u) := by
  refine ⟨_, 3, rfl, Nat.le_refl _, .inr ⟨n + 15, 0, rfl, fun j hj => ?_⟩⟩
  have hj3 : j = 0 ∨ j = 1 ∨ j = 2 := by simp [rsC] at hj; omega
  have h15 := h.b15
  rcases hj3 with rfl | rfl | rfl
  · exact ⟨_, _, _, _, by rw [cell_of h15]; rfl, by rw [cell_of h15]; rfl, by rw [cell_of h15]; rfl, by rw [cell_of h15]; rfl, by rw [cell_of h15]; rfl, by rw [cell_of h15]; rfl, by rw [cell_of h15]; rfl, ⟨sr_nil W, sr_one h.b2 h.b1, sr_nil W, pr_two h.b5⟩⟩
  · exact ⟨_, _, _, _, by rw [cell_of h15]; rfl, by rw [cell_of h15]; rfl, by rw [cell_of h15]; rfl, by rw [cell_of h15]; rfl, by rw [cell_of h15]; rfl, by rw [cell_of h15]; rfl, by rw [cell_of h15]; rfl, ⟨sr_nil W, sr_one h.b7 h.b6, sr_nil W, pr_two h.b10⟩⟩
  · exact ⟨_, _, _, _, by rw [cell_of h15]; rfl, by rw [cell_of h15]; rfl, by rw [cell_of h15]; rfl, by rw [cell_of h15]; rfl, by rw [cell_of h15]; rfl, by rw [cell_of h15]; rfl, by rw [cell_of h15]; rfl, ⟨sr_nil W, sr_one h.b12 h.b11, sr_nil W, pr_one h.b14⟩⟩
theorem alloc_at {W : World} {o : Obj} {k : Nat} (h : k = W.heap.size) : (W.alloc o).heap[k]? = some o := by subst h; exact heap_alloc_new _ _
theorem alloc_up {W : World} {o ob : Obj} {k : Nat} (h : W.heap[k]? = some ob) : (W.alloc o).heap[k]? = some ob := (((Grown.refl W).alloc o).below.block k (Array.getElem?_eq_some_iff.1 h).1).trans h
set_option maxHeartbeats 8000000 in
theorem chain_any (w : World) : Calls Tryd.prog 27 #[] w fun e w' => e = .returned (.agg #[.slice (some ⟨w.heap.size + 15, 0, none⟩) 3 3]) ∧ CH w' w.heap.size 1 100 ∧ Grown w w' := by
  go_enter Tryd.func27, Tryd.ntmps27
  go_wp2_with (first | (go_at_call 46; refine (one_any _ _).mono ?_; rintro e w' ⟨rfl, rfl⟩) | (go_at_call 47; refine (u_any _ _).mono ?_; rintro e w' ⟨rfl, rfl⟩))
  refine bodyPost_ret (v := .agg #[.slice (some ⟨w.heap.size + 15, 0, none⟩) 3 3]) (by simp [results, Tryd.f27, go_sem]) rfl ⟨rfl, ?_, ?_⟩
  · constructor
    all_goals first
      | exact alloc_at (by simp)
      | (repeat (first | exact alloc_at (by simp) | refine alloc_up ?_))
  · repeat (first | exact Grown.refl _ | refine Grown.alloc ?_ _)
end Go.Proofs
