/-
  sameSet says true of two slices that read as the same ranges.
-/
import Derived.RangeFuncNested
import Derived.RangeFuncBound
import Derived.RangeFuncCalls
import Derived.RangeFuncLeaves
import Derived.Shelf.SlSorted.Search
import Derived.Deep.MidRow
import Derived.Maps.OwnSet
import Derived.Maps.OwnOps
import Derived.Shelf.Abstract
import Derived.Shelf.RegionOpen
import Derived.WalkKit
import Derived.WalkSpells
import Derived.WalkLawsBesides
import Derived.OwnWalkIn
import Derived.TacticsInMore
import Derived.LoopNIn
import Derived.LoopIn
import Derived.BigQuiet
import Derived.RegionIn
import Derived.Deep.QuietTactic
import Derived.Deep.RegionWith
import Derived.Lib.OthersKept
import Derived.Maps.AppendAt
import Derived.Lib.SmallJoins
import Derived.Shelf.SlSortCmp.QuietGrown
import Derived.Deep.DrawnRows
import Derived.Test.YtbacejefgpaabaaDoorNp
namespace Go.Proofs
open Go.RowKit Go.Shelf

set_option maxRecDepth 100000
attribute [local go_sem] Oper.semAt_some

theorem neq48 (x y : Int) (w : World) : (binOp .neq 48 (.agg #[.int .i64 x, .int .i64 y]) (.agg #[.int .i64 x, .int .i64 y])).run Tryd.prog w = .ok (.bool false) w := by
  go_simp
  try simp
set_option maxHeartbeats 2000000 in
theorem same_walk (g h o p c d n : Nat) (l : List (Int × Int)) (w : World) (hn : l.length = n) (hn5 : n ≤ 512) (h1 : Reads w g o l) (h2 : Reads w h p l) :
    Calls Tryd.prog 11 #[.slice (some ⟨g, o, none⟩) n c, .slice (some ⟨h, p, none⟩) n d] w fun e w' => e = .returned (.bool true) ∧ Grown w w' := by
  have H1 : Hid (Reads w g o l) := h1
  have H2 : Hid (Reads w h p l) := h2
  have hne := neq48
  clear h1 h2
  go_enter Tryd.func11, Tryd.ntmps11
  go_wp2
  go_loopw [5] (fun vi wr => ∃ k : Nat, vi = .int .i64 k ∧ k ≤ n ∧ Grown w wr) (fun vi _ => n - (intOf vi).toNat)
  case atStart => exact ⟨0, rfl, by omega, Grown.refl _⟩
  case round =>
    obtain ⟨k, rfl, hk, hG⟩ := hrel
    have HG : Hid (Grown w wr) := hG
    by_cases hkn : k = n
    · subst hkn
      clear hG
      go_wp2
      go_ret
      exact ⟨rfl, HG.out⟩
    · obtain ⟨a0, a1⟩ := H1.out k (by omega)
      obtain ⟨b0, b1⟩ := H2.out k (by omega)
      replace a0 := hG.cellv a0
      replace a1 := hG.cellv a1
      replace b0 := hG.cellv b0
      replace b1 := hG.cellv b1
      obtain ⟨x, hx⟩ : ∃ x, (rg l k).1 = x := ⟨_, rfl⟩
      obtain ⟨y, hy⟩ : ∃ y, (rg l k).2 = y := ⟨_, rfl⟩
      rw [hx] at a0 b0
      rw [hy] at a1 b1
      clear hG hx hy
      go_wp2
      go_quiet (fail)
      go_wp2
      exact ⟨⟨k + 1, by go_num, by omega, HG.out.drewN _⟩, by simp [intOf]; omega⟩
set_option maxHeartbeats 2000000 in
theorem same_nil (a b : Option Addr) (c d : Nat) (w : World) : Calls Tryd.prog 11 #[.slice a 0 c, .slice b 0 d] w fun e w' => e = .returned (.bool true) ∧ Grown w w' := by
  go_enter Tryd.func11, Tryd.ntmps11
  go_wp2
  refine wp_loop_rounds 1 ?_
  rw [rounds_succ]
  go_wp2
  go_ret
  exact ⟨rfl, Grown.refl _⟩
theorem same_any (v u : Value) (l : List (Int × Int)) (w : World) (hn : l.length ≤ 512) (h1 : Rs w v l) (h2 : Rs w u l) : Calls Tryd.prog 11 #[v, u] w fun e w' => e = .returned (.bool true) ∧ Grown w w' := by
  obtain ⟨a, c, rfl, -, h1⟩ := h1
  obtain ⟨b, d, rfl, -, h2⟩ := h2
  by_cases hl : l = []
  · subst hl
    exact same_nil a b c d w
  · obtain ⟨g, o, rfl, r1⟩ := h1.resolve_left hl
    obtain ⟨h, p, rfl, r2⟩ := h2.resolve_left hl
    exact same_walk g h o p c d _ l w rfl hn r1 r2
end Go.Proofs
