/-
  The examples.
-/
import Derived.RangeFuncNested
import Derived.RangeFuncBound
import Derived.RangeFuncCalls
import Derived.RangeFuncLeaves
import Derived.Shelf.Abstract
import Derived.Shelf.RegionOpen
import Derived.WalkKit
import Derived.WalkSpells
import Derived.WalkLawsBesides
import Derived.OwnWalkIn
import Derived.TacticsInMore
import Derived.LoopNIn
import Derived.LoopIn
import Derived.BigQuiet
import Derived.RegionIn
import Derived.Deep.QuietTactic
import Derived.Deep.RegionWith
import Derived.Lib.OthersKept
import Derived.Maps.AppendAt
import Derived.Lib.SmallJoins
import Derived.Shelf.SlSortCmp.QuietGrown
import Derived.Test.YtkijbaofhodplaaDoorEq
namespace Go.Proofs
open Go.RowKit Go.Shelf

set_option maxRecDepth 100000
attribute [local go_sem] Oper.semAt_some
attribute [local go_sem ↓] Go.wp_at_zero Go.wp_at_succ
set_option maxHeartbeats 2000000 in
theorem bound_bad (rv : Value) (rs : List Rl) (c : Int × Int) (s : ByteArray) (w : World) (hT : Tab w) (h : PsR w rv rs) (hst : wgh rs = (none, c)) :
    Calls Tryd.prog 15 #[.agg #[rv], .string s] w fun e w' => e = .returned (.int .i64 0) ∧ Below w.heap.size w w' := by
  have HC : Hid (∀ ob, Calls Tryd.prog 34 #[.agg #[rv]] (w.alloc ob) fun e w' => e = .returned (.tuple #[.pointer none, .int .i64 c.1, .int .i64 c.2]) ∧ Below w.heap.size w w') := fun ob => by
    have hg : Grown w (w.alloc ob) := (Grown.refl _).alloc ob
    refine (weighed_any rv rs (w.alloc ob) (hT.grown hg) (h.grown hg)).mono ?_
    rintro e w' ⟨hb, ⟨c', h1, rfl⟩ | ⟨st', sp, h1, rfl, hS⟩⟩
    · rw [hst] at h1
      cases h1
      exact ⟨rfl, hg.below.trans (hb.mono hg.size)⟩
    · rw [hst] at h1; cases h1
  have hc := wgh_none hst
  obtain ⟨c1, c2⟩ := c
  have hc' : (c2 != 0) = true := by simpa using hc
  obtain ⟨ra, rc, hrv, _, _⟩ := h
  subst hrv
  go_enter Tryd.func15, Tryd.ntmps15
  go_wp2_with (go_at_call 34; refine (HC.out _).mono ?_; rintro e w' ⟨rfl, hb⟩)
  go_ret
  exact ⟨rfl, hb.trans (((Grown.refl w').alloc _).below.mono hb.size)⟩
theorem bound_any (rv : Value) (rs : List Rl) (s : ByteArray) (w : World) (hT : Tab w) (h : PsR w rv rs) (hs : s.size ≤ 140737488355328) :
    Calls Tryd.prog 15 #[.agg #[rv], .string s] w fun e w' => e = .returned (.int .i64 (bndP rs s)) ∧ Below w.heap.size w w' := by
  unfold bndP
  obtain ⟨o, c, ho⟩ : ∃ o c, wgh rs = (o, c) := ⟨_, _, rfl⟩
  rw [ho]
  cases o with
  | none => exact bound_bad rv rs c s w hT h ho
  | some st =>
    have hc : c = (0, 0) := by
      unfold wgh at ho
      split at ho
      · injection ho with h1; cases h1
      · split at ho
        · injection ho with h1; cases h1
        · split at ho
          · injection ho with h1; cases h1
          · injection ho with _ h2; exact h2.symm
    subst hc
    exact bound_ok rv rs st s w hT h hs ho
theorem ex1 : chkW (rsC 1 100) = (0, 0) := by decide +kernel
theorem ex2 : chkW (rsC 0 97) = (2, 81) := by decide +kernel
theorem ex3 : wgtP (rsC 1 100) 97 = 7 := by decide +kernel
theorem ex4 : wgtP (rsC 1 100) 98 = 3 := by decide +kernel
theorem ex5 : wgtP (rsC 1 100) 100 = 1 := by decide +kernel
theorem ex6 : wgtP (rsC 0 97) 97 = 0 := by decide +kernel
theorem ex7 : bndP (rsC 1 100) ⟨#[97, 98, 99]⟩ = 11 := by decide +kernel
end Go.Proofs
