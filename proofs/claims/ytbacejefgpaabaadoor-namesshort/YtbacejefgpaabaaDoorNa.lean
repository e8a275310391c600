/-
  names: whether two units are in a set; all units from one to another.
-/
import Derived.Shelf.Abstract
import Derived.Shelf.RegionOpen
import Derived.WalkKit
import Derived.WalkSpells
import Derived.WalkLawsBesides
import Derived.OwnWalk
import Derived.BigQuiet
import Derived.Deep.QuietTactic
import Derived.Deep.RegionWith
import Derived.Lib.OthersKept
import Derived.Maps.AppendAt
import Derived.Lib.SmallJoins
import Derived.Test.YtbacejefgpaabaaDoorVq
namespace Go.Proofs
open Go.RowKit Go.Shelf

set_option maxRecDepth 100000
attribute [local go_sem] Oper.semAt_some

set_option maxHeartbeats 1000000 in
theorem both_any (v : Value) (l : List (Int × Int)) (a b : Int) (w : World) (hT : Tab w) (h : Rs w v l) (hv : validB l = true) : Calls Tryd.prog 62 #[v, .int .i64 a, .int .i64 b] w fun e w' => e = .returned (.bool (decide (hasU l a) && decide (hasU l b))) ∧ Grown w w' := by
  have HA : Hid (Calls Tryd.prog 75 #[v, .int .i64 a] w fun e w' => e = .returned (.bool (decide (hasU l a))) ∧ Grown w w') := by
    have := has_any v l a w hT h
    rw [hv, Bool.true_and] at this; exact this
  have HB : Hid (∀ w1, Grown w w1 → Calls Tryd.prog 75 #[v, .int .i64 b] w1 fun e w' => e = .returned (.bool (decide (hasU l b))) ∧ Grown w1 w') := fun w1 hg => by
    have := has_any v l b w1 (hT.grown hg) (h.below hg.below (Nat.le_refl _))
    rw [hv, Bool.true_and] at this; exact this
  generalize decide (hasU l a) = x at HA ⊢
  generalize decide (hasU l b) = y at HB ⊢
  clear h hv hT
  cases x
  · go_enter Tryd.func62, Tryd.ntmps62
    go_wp2_with fail
    refine HA.out.mono ?_
    rintro e w1 ⟨rfl, hg⟩
    go_wp2
    go_ret
    exact ⟨rfl, hg⟩
  · go_enter Tryd.func62, Tryd.ntmps62
    go_wp2_with fail
    refine HA.out.mono ?_
    rintro e w1 ⟨rfl, hg⟩
    go_wp2_with fail
    refine (HB.out w1 hg).mono ?_
    rintro e w2 ⟨rfl, hg2⟩
    go_wp2
    go_ret
    exact ⟨by simp, hg.trans hg2⟩
theorem clips_good (a b : Int) : Good (clips a b) := by
  refine ⟨fun x hx => clips_whole hx, ?_⟩
  unfold clips clipsN clipsN clipsN clipsN
  simp only [pc, blkLo, blkHi]
  repeat' split
  all_goals (simp [List.pairwise_cons]; try omega)
theorem clips_canon (a b : Int) : Canon [(a, b)] (clips a b) := ⟨clips_good a b, fun u => by
  rw [clips_has]
  simp [hasU]⟩
theorem canon_unique {l r s : List (Int × Int)} (h : Canon l r) (k : Canon l s) : r = s := good_unique r s h.1 k.1 (fun u => (h.2 u).trans (k.2 u).symm)
/-- a set, or why there is none -/
def AnsN (B : Nat) (c : Int) (r : List (Int × Int)) (e : Ending) (W : World) : Prop := ∃ v, e = .returned (.tuple #[v, .int .i64 c]) ∧ (if c = 0 then OwnR W B v r else v = .slice none 0 0)
def runesL : List (Int × Int) := [(0, 55295), (57344, 1114111)]
def straysL : List (Int × Int) := [(1114240, 1114367)]
/-- two runes or two strays, in order -/
def SpanOk (a b : Int) : Prop := a ≤ b ∧ ((hasU runesL a ∧ hasU runesL b) ∨ (hasU straysL a ∧ hasU straysL b))
theorem spanOk_unit (u : Int) : SpanOk u u ↔ isU u := by
  simp only [SpanOk, hasU, runesL, straysL, isU, List.mem_cons, List.not_mem_nil, or_false, exists_eq_or_imp, exists_eq_left, Int.le_refl, true_and, and_self]
  exact or_assoc
end Go.Proofs
