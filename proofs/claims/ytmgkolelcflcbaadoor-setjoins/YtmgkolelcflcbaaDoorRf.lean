/-
  The document's answer: Any, Runes, Strays, and how many ranges a set may have.
-/
import Derived.RangeFuncNested
import Derived.RangeFuncBound
import Derived.RangeFuncCalls
import Derived.RangeFuncLeaves
import Derived.Shelf.Abstract
import Derived.Shelf.RegionOpen
import Derived.WalkKit
import Derived.WalkSpells
import Derived.WalkLawsBesides
import Derived.OwnWalkIn
import Derived.TacticsInMore
import Derived.LoopNIn
import Derived.LoopIn
import Derived.BigQuiet
import Derived.RegionIn
import Derived.Deep.QuietTactic
import Derived.Deep.RegionWith
import Derived.Lib.OthersKept
import Derived.Maps.AppendAt
import Derived.Lib.SmallJoins
import Derived.Test.YtmgkolelcflcbaaDoorRa
namespace Go.Proofs
open Go.RowKit Go.Shelf

set_option maxRecDepth 100000
attribute [local go_sem] Oper.semAt_some
set_option maxHeartbeats 1000000 in
theorem rany_any (w : World) : Calls Tryd.prog 14 #[] w fun e w' => ∃ v, e = .returned v ∧ OwnR w' w.heap.size v allU ∧ Below w.heap.size w w' := by
  go_enter Tryd.func14, Tryd.ntmps14
  go_wp2_with fail
  refine (domain_any w).mono ?_
  rintro e w1 ⟨rfl, rfl⟩
  go_wp2
  go_ret
  exact ⟨_, rfl, lit3 w _ rfl, (Below.refl _ w).alloc (Nat.le_refl _) _⟩
set_option maxHeartbeats 1000000 in
theorem rrunes_any (w : World) : Calls Tryd.prog 16 #[] w fun e w' => ∃ v, e = .returned v ∧ Rs w' v [(0, 55295), (57344, 1114111)] ∧ Below w.heap.size w w' := by
  have hO := fun W : World => OwnR.reads (lit3 W _ rfl)
  have HO : Hid (∀ W : World, Reads (W.alloc (.cells #[.int .i64 0, .int .i64 55295, .int .i64 57344, .int .i64 1114111, .int .i64 1114240, .int .i64 1114367] 38)) W.heap.size 0 allU) := hO
  clear hO
  go_enter Tryd.func16, Tryd.ntmps16
  go_wp2_with fail
  refine (domain_any w).mono ?_
  rintro e w1 ⟨rfl, rfl⟩
  go_wp2
  go_ret
  exact ⟨_, rfl, ⟨_, 3, rfl, by simp, .inr ⟨w.heap.size, 0, rfl, (HO.out w).take 2⟩⟩, (Below.refl _ w).alloc (Nat.le_refl _) _⟩
set_option maxHeartbeats 1000000 in
theorem rstrays_any (w : World) : Calls Tryd.prog 18 #[] w fun e w' => ∃ v, e = .returned v ∧ Rs w' v [(1114240, 1114367)] ∧ Below w.heap.size w w' := by
  have hO := fun W : World => OwnR.reads (lit3 W _ rfl)
  have HO : Hid (∀ W : World, Reads (W.alloc (.cells #[.int .i64 0, .int .i64 55295, .int .i64 57344, .int .i64 1114111, .int .i64 1114240, .int .i64 1114367] 38)) W.heap.size 0 allU) := hO
  clear hO
  go_enter Tryd.func18, Tryd.ntmps18
  go_wp2_with fail
  refine (domain_any w).mono ?_
  rintro e w1 ⟨rfl, rfl⟩
  go_wp2
  go_ret
  exact ⟨_, rfl, ⟨_, 1, rfl, by simp, .inr ⟨w.heap.size, 4, rfl, rg_slice (HO.out w) 2⟩⟩, (Below.refl _ w).alloc (Nat.le_refl _) _⟩
set_option maxHeartbeats 1000000 in
theorem rfew_any (a : Option Addr) (n c : Nat) (w : World) : Calls Tryd.prog 48 #[.slice a n c] w fun e w' => e = .returned (if n ≤ 512 then .tuple #[.slice a n c, .int .i64 0] else .tuple #[.slice none 0 0, .int .i64 21]) ∧ w' = w := by
  by_cases h : n ≤ 512
  · have h1 : ¬ (512 : Int) < (n : Int) := by omega
    rw [if_pos h]
    clear h
    go_enter Tryd.func48, Tryd.ntmps48
    go_wp2
    go_ret2
    exact ⟨rfl, rfl⟩
  · have h1 : (512 : Int) < (n : Int) := by omega
    rw [if_neg h]
    clear h
    go_enter Tryd.func48, Tryd.ntmps48
    go_wp2
    go_ret2
    exact ⟨rfl, rfl⟩
end Go.Proofs
