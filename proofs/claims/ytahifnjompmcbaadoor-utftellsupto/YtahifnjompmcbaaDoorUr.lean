/-
  The reference's Width tells what the layer's does.
-/
import Derived.RangeFuncNested
import Derived.RangeFuncBound
import Derived.RangeFuncCalls
import Derived.RangeFuncLeaves
import Derived.Shelf.Abstract
import Derived.Shelf.RegionOpen
import Derived.WalkKit
import Derived.WalkSpells
import Derived.WalkLawsBesides
import Derived.OwnWalkIn
import Derived.TacticsInMore
import Derived.LoopNIn
import Derived.LoopIn
import Derived.BigQuiet
import Derived.RegionIn
import Derived.Deep.QuietTactic
import Derived.Lib.OthersKept
import Derived.Lib.IndexBytes
import Derived.Test.YtahifnjompmcbaaDoorUm
namespace Go.Proofs
open Go.RowKit Go.Shelf

set_option maxRecDepth 100000
attribute [local go_sem] Oper.semAt_some
set_option maxHeartbeats 400000 in
theorem rwd0 (u : Int) (w : World) (h1 : u ≤ -1) : Calls Tryd.prog 25 #[.int .i64 u] w fun e w' => e = .returned (.int .i64 0) ∧ w' = w := by
  have d0 : decide (0 ≤ u) = false := decide_eq_false (by omega)
  have d1 : decide (u ≤ 127) = true := decide_eq_true (by omega)
  have d2 : decide (1114240 ≤ u) = false := decide_eq_false (by omega)
  have d3 : decide (u ≤ 1114367) = true := decide_eq_true (by omega)
  have d4 : decide (128 ≤ u) = false := decide_eq_false (by omega)
  have d5 : decide (u ≤ 2047) = true := decide_eq_true (by omega)
  have d6 : decide (2048 ≤ u) = false := decide_eq_false (by omega)
  have d7 : decide (u ≤ 65535) = true := decide_eq_true (by omega)
  have d8 : decide (u < 55296) = true := decide_eq_true (by omega)
  have d9 : decide (57343 < u) = false := decide_eq_false (by omega)
  have d10 : decide (65536 ≤ u) = false := decide_eq_false (by omega)
  have d11 : decide (u ≤ 1114111) = true := decide_eq_true (by omega)
  go_enter Tryd.func25, Tryd.ntmps25
  go_wp2
  go_ret
  exact ⟨rfl, rfl⟩
set_option maxHeartbeats 400000 in
theorem rwd1 (u : Int) (w : World) (h0 : 0 ≤ u) (h1 : u ≤ 127) : Calls Tryd.prog 25 #[.int .i64 u] w fun e w' => e = .returned (.int .i64 1) ∧ w' = w := by
  have d0 : decide (0 ≤ u) = true := decide_eq_true (by omega)
  have d1 : decide (u ≤ 127) = true := decide_eq_true (by omega)
  have d2 : decide (1114240 ≤ u) = false := decide_eq_false (by omega)
  have d3 : decide (u ≤ 1114367) = true := decide_eq_true (by omega)
  have d4 : decide (128 ≤ u) = false := decide_eq_false (by omega)
  have d5 : decide (u ≤ 2047) = true := decide_eq_true (by omega)
  have d6 : decide (2048 ≤ u) = false := decide_eq_false (by omega)
  have d7 : decide (u ≤ 65535) = true := decide_eq_true (by omega)
  have d8 : decide (u < 55296) = true := decide_eq_true (by omega)
  have d9 : decide (57343 < u) = false := decide_eq_false (by omega)
  have d10 : decide (65536 ≤ u) = false := decide_eq_false (by omega)
  have d11 : decide (u ≤ 1114111) = true := decide_eq_true (by omega)
  go_enter Tryd.func25, Tryd.ntmps25
  go_wp2
  go_ret
  exact ⟨rfl, rfl⟩
set_option maxHeartbeats 400000 in
theorem rwd2 (u : Int) (w : World) (h0 : 128 ≤ u) (h1 : u ≤ 2047) : Calls Tryd.prog 25 #[.int .i64 u] w fun e w' => e = .returned (.int .i64 2) ∧ w' = w := by
  have d0 : decide (0 ≤ u) = true := decide_eq_true (by omega)
  have d1 : decide (u ≤ 127) = false := decide_eq_false (by omega)
  have d2 : decide (1114240 ≤ u) = false := decide_eq_false (by omega)
  have d3 : decide (u ≤ 1114367) = true := decide_eq_true (by omega)
  have d4 : decide (128 ≤ u) = true := decide_eq_true (by omega)
  have d5 : decide (u ≤ 2047) = true := decide_eq_true (by omega)
  have d6 : decide (2048 ≤ u) = false := decide_eq_false (by omega)
  have d7 : decide (u ≤ 65535) = true := decide_eq_true (by omega)
  have d8 : decide (u < 55296) = true := decide_eq_true (by omega)
  have d9 : decide (57343 < u) = false := decide_eq_false (by omega)
  have d10 : decide (65536 ≤ u) = false := decide_eq_false (by omega)
  have d11 : decide (u ≤ 1114111) = true := decide_eq_true (by omega)
  go_enter Tryd.func25, Tryd.ntmps25
  go_wp2
  go_ret
  exact ⟨rfl, rfl⟩
set_option maxHeartbeats 400000 in
theorem rwd3 (u : Int) (w : World) (h0 : 2048 ≤ u) (h1 : u ≤ 55295) : Calls Tryd.prog 25 #[.int .i64 u] w fun e w' => e = .returned (.int .i64 3) ∧ w' = w := by
  have d0 : decide (0 ≤ u) = true := decide_eq_true (by omega)
  have d1 : decide (u ≤ 127) = false := decide_eq_false (by omega)
  have d2 : decide (1114240 ≤ u) = false := decide_eq_false (by omega)
  have d3 : decide (u ≤ 1114367) = true := decide_eq_true (by omega)
  have d4 : decide (128 ≤ u) = true := decide_eq_true (by omega)
  have d5 : decide (u ≤ 2047) = false := decide_eq_false (by omega)
  have d6 : decide (2048 ≤ u) = true := decide_eq_true (by omega)
  have d7 : decide (u ≤ 65535) = true := decide_eq_true (by omega)
  have d8 : decide (u < 55296) = true := decide_eq_true (by omega)
  have d9 : decide (57343 < u) = false := decide_eq_false (by omega)
  have d10 : decide (65536 ≤ u) = false := decide_eq_false (by omega)
  have d11 : decide (u ≤ 1114111) = true := decide_eq_true (by omega)
  go_enter Tryd.func25, Tryd.ntmps25
  go_wp2
  go_ret
  exact ⟨rfl, rfl⟩
set_option maxHeartbeats 400000 in
theorem rwd4 (u : Int) (w : World) (h0 : 55296 ≤ u) (h1 : u ≤ 57343) : Calls Tryd.prog 25 #[.int .i64 u] w fun e w' => e = .returned (.int .i64 0) ∧ w' = w := by
  have d0 : decide (0 ≤ u) = true := decide_eq_true (by omega)
  have d1 : decide (u ≤ 127) = false := decide_eq_false (by omega)
  have d2 : decide (1114240 ≤ u) = false := decide_eq_false (by omega)
  have d3 : decide (u ≤ 1114367) = true := decide_eq_true (by omega)
  have d4 : decide (128 ≤ u) = true := decide_eq_true (by omega)
  have d5 : decide (u ≤ 2047) = false := decide_eq_false (by omega)
  have d6 : decide (2048 ≤ u) = true := decide_eq_true (by omega)
  have d7 : decide (u ≤ 65535) = true := decide_eq_true (by omega)
  have d8 : decide (u < 55296) = false := decide_eq_false (by omega)
  have d9 : decide (57343 < u) = false := decide_eq_false (by omega)
  have d10 : decide (65536 ≤ u) = false := decide_eq_false (by omega)
  have d11 : decide (u ≤ 1114111) = true := decide_eq_true (by omega)
  go_enter Tryd.func25, Tryd.ntmps25
  go_wp2
  go_ret
  exact ⟨rfl, rfl⟩
set_option maxHeartbeats 400000 in
theorem rwd5 (u : Int) (w : World) (h0 : 57344 ≤ u) (h1 : u ≤ 65535) : Calls Tryd.prog 25 #[.int .i64 u] w fun e w' => e = .returned (.int .i64 3) ∧ w' = w := by
  have d0 : decide (0 ≤ u) = true := decide_eq_true (by omega)
  have d1 : decide (u ≤ 127) = false := decide_eq_false (by omega)
  have d2 : decide (1114240 ≤ u) = false := decide_eq_false (by omega)
  have d3 : decide (u ≤ 1114367) = true := decide_eq_true (by omega)
  have d4 : decide (128 ≤ u) = true := decide_eq_true (by omega)
  have d5 : decide (u ≤ 2047) = false := decide_eq_false (by omega)
  have d6 : decide (2048 ≤ u) = true := decide_eq_true (by omega)
  have d7 : decide (u ≤ 65535) = true := decide_eq_true (by omega)
  have d8 : decide (u < 55296) = false := decide_eq_false (by omega)
  have d9 : decide (57343 < u) = true := decide_eq_true (by omega)
  have d10 : decide (65536 ≤ u) = false := decide_eq_false (by omega)
  have d11 : decide (u ≤ 1114111) = true := decide_eq_true (by omega)
  go_enter Tryd.func25, Tryd.ntmps25
  go_wp2
  go_ret
  exact ⟨rfl, rfl⟩
set_option maxHeartbeats 400000 in
theorem rwd6 (u : Int) (w : World) (h0 : 65536 ≤ u) (h1 : u ≤ 1114111) : Calls Tryd.prog 25 #[.int .i64 u] w fun e w' => e = .returned (.int .i64 4) ∧ w' = w := by
  have d0 : decide (0 ≤ u) = true := decide_eq_true (by omega)
  have d1 : decide (u ≤ 127) = false := decide_eq_false (by omega)
  have d2 : decide (1114240 ≤ u) = false := decide_eq_false (by omega)
  have d3 : decide (u ≤ 1114367) = true := decide_eq_true (by omega)
  have d4 : decide (128 ≤ u) = true := decide_eq_true (by omega)
  have d5 : decide (u ≤ 2047) = false := decide_eq_false (by omega)
  have d6 : decide (2048 ≤ u) = true := decide_eq_true (by omega)
  have d7 : decide (u ≤ 65535) = false := decide_eq_false (by omega)
  have d8 : decide (u < 55296) = false := decide_eq_false (by omega)
  have d9 : decide (57343 < u) = true := decide_eq_true (by omega)
  have d10 : decide (65536 ≤ u) = true := decide_eq_true (by omega)
  have d11 : decide (u ≤ 1114111) = true := decide_eq_true (by omega)
  go_enter Tryd.func25, Tryd.ntmps25
  go_wp2
  go_ret
  exact ⟨rfl, rfl⟩
set_option maxHeartbeats 400000 in
theorem rwd7 (u : Int) (w : World) (h0 : 1114112 ≤ u) (h1 : u ≤ 1114239) : Calls Tryd.prog 25 #[.int .i64 u] w fun e w' => e = .returned (.int .i64 0) ∧ w' = w := by
  have d0 : decide (0 ≤ u) = true := decide_eq_true (by omega)
  have d1 : decide (u ≤ 127) = false := decide_eq_false (by omega)
  have d2 : decide (1114240 ≤ u) = false := decide_eq_false (by omega)
  have d3 : decide (u ≤ 1114367) = true := decide_eq_true (by omega)
  have d4 : decide (128 ≤ u) = true := decide_eq_true (by omega)
  have d5 : decide (u ≤ 2047) = false := decide_eq_false (by omega)
  have d6 : decide (2048 ≤ u) = true := decide_eq_true (by omega)
  have d7 : decide (u ≤ 65535) = false := decide_eq_false (by omega)
  have d8 : decide (u < 55296) = false := decide_eq_false (by omega)
  have d9 : decide (57343 < u) = true := decide_eq_true (by omega)
  have d10 : decide (65536 ≤ u) = true := decide_eq_true (by omega)
  have d11 : decide (u ≤ 1114111) = false := decide_eq_false (by omega)
  go_enter Tryd.func25, Tryd.ntmps25
  go_wp2
  go_ret
  exact ⟨rfl, rfl⟩
set_option maxHeartbeats 400000 in
theorem rwd8 (u : Int) (w : World) (h0 : 1114240 ≤ u) (h1 : u ≤ 1114367) : Calls Tryd.prog 25 #[.int .i64 u] w fun e w' => e = .returned (.int .i64 1) ∧ w' = w := by
  have d0 : decide (0 ≤ u) = true := decide_eq_true (by omega)
  have d1 : decide (u ≤ 127) = false := decide_eq_false (by omega)
  have d2 : decide (1114240 ≤ u) = true := decide_eq_true (by omega)
  have d3 : decide (u ≤ 1114367) = true := decide_eq_true (by omega)
  have d4 : decide (128 ≤ u) = true := decide_eq_true (by omega)
  have d5 : decide (u ≤ 2047) = false := decide_eq_false (by omega)
  have d6 : decide (2048 ≤ u) = true := decide_eq_true (by omega)
  have d7 : decide (u ≤ 65535) = false := decide_eq_false (by omega)
  have d8 : decide (u < 55296) = false := decide_eq_false (by omega)
  have d9 : decide (57343 < u) = true := decide_eq_true (by omega)
  have d10 : decide (65536 ≤ u) = true := decide_eq_true (by omega)
  have d11 : decide (u ≤ 1114111) = false := decide_eq_false (by omega)
  go_enter Tryd.func25, Tryd.ntmps25
  go_wp2
  go_ret
  exact ⟨rfl, rfl⟩
set_option maxHeartbeats 400000 in
theorem rwd9 (u : Int) (w : World) (h0 : 1114368 ≤ u) : Calls Tryd.prog 25 #[.int .i64 u] w fun e w' => e = .returned (.int .i64 0) ∧ w' = w := by
  have d0 : decide (0 ≤ u) = true := decide_eq_true (by omega)
  have d1 : decide (u ≤ 127) = false := decide_eq_false (by omega)
  have d2 : decide (1114240 ≤ u) = true := decide_eq_true (by omega)
  have d3 : decide (u ≤ 1114367) = false := decide_eq_false (by omega)
  have d4 : decide (128 ≤ u) = true := decide_eq_true (by omega)
  have d5 : decide (u ≤ 2047) = false := decide_eq_false (by omega)
  have d6 : decide (2048 ≤ u) = true := decide_eq_true (by omega)
  have d7 : decide (u ≤ 65535) = false := decide_eq_false (by omega)
  have d8 : decide (u < 55296) = false := decide_eq_false (by omega)
  have d9 : decide (57343 < u) = true := decide_eq_true (by omega)
  have d10 : decide (65536 ≤ u) = true := decide_eq_true (by omega)
  have d11 : decide (u ≤ 1114111) = false := decide_eq_false (by omega)
  go_enter Tryd.func25, Tryd.ntmps25
  go_wp2
  go_ret
  exact ⟨rfl, rfl⟩
theorem rwidth_any (u : Int) (w : World) : Calls Tryd.prog 25 #[.int .i64 u] w fun e w' => e = .returned (.int .i64 (wd u)) ∧ w' = w := by
  by_cases c0 : u ≤ -1
  · rw [show wd u = 0 by unfold wd Lib.runeLen; repeat' split <;> omega]; exact rwd0 u w (by omega)
  by_cases c1 : u ≤ 127
  · rw [show wd u = 1 by unfold wd Lib.runeLen; repeat' split <;> omega]; exact rwd1 u w (by omega) (by omega)
  by_cases c2 : u ≤ 2047
  · rw [show wd u = 2 by unfold wd Lib.runeLen; repeat' split <;> omega]; exact rwd2 u w (by omega) (by omega)
  by_cases c3 : u ≤ 55295
  · rw [show wd u = 3 by unfold wd Lib.runeLen; repeat' split <;> omega]; exact rwd3 u w (by omega) (by omega)
  by_cases c4 : u ≤ 57343
  · rw [show wd u = 0 by unfold wd Lib.runeLen; repeat' split <;> omega]; exact rwd4 u w (by omega) (by omega)
  by_cases c5 : u ≤ 65535
  · rw [show wd u = 3 by unfold wd Lib.runeLen; repeat' split <;> omega]; exact rwd5 u w (by omega) (by omega)
  by_cases c6 : u ≤ 1114111
  · rw [show wd u = 4 by unfold wd Lib.runeLen; repeat' split <;> omega]; exact rwd6 u w (by omega) (by omega)
  by_cases c7 : u ≤ 1114239
  · rw [show wd u = 0 by unfold wd Lib.runeLen; repeat' split <;> omega]; exact rwd7 u w (by omega) (by omega)
  by_cases c8 : u ≤ 1114367
  · rw [show wd u = 1 by unfold wd Lib.runeLen; repeat' split <;> omega]; exact rwd8 u w (by omega) (by omega)
  rw [show wd u = 0 by unfold wd Lib.runeLen; repeat' split <;> omega]; exact rwd9 u w (by omega)
end Go.Proofs
