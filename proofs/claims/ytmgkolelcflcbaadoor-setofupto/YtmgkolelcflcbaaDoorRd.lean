/-
  The document's answer: what two ranges have in common; how rows are united, by thinking.
-/
import Derived.RangeFuncNested
import Derived.RangeFuncBound
import Derived.RangeFuncCalls
import Derived.RangeFuncLeaves
import Derived.Shelf.Abstract
import Derived.Shelf.RegionOpen
import Derived.WalkKit
import Derived.WalkSpells
import Derived.WalkLawsBesides
import Derived.OwnWalkIn
import Derived.TacticsInMore
import Derived.LoopNIn
import Derived.LoopIn
import Derived.BigQuiet
import Derived.RegionIn
import Derived.Deep.QuietTactic
import Derived.Deep.RegionWith
import Derived.Lib.OthersKept
import Derived.Maps.AppendAt
import Derived.Lib.SmallJoins
import Derived.Test.YtmgkolelcflcbaaDoorRc
namespace Go.Proofs
open Go.RowKit Go.Shelf

set_option maxRecDepth 100000
attribute [local go_sem] Oper.semAt_some
set_option maxHeartbeats 2000000 in
theorem cut_any (a b c d : Int) (w : World) : Calls Tryd.prog 65 #[.agg #[.int .i64 a, .int .i64 b], .agg #[.int .i64 c, .int .i64 d]] w fun e w' => e = .returned (.tuple #[.agg #[.int .i64 (max a c), .int .i64 (min b d)], .bool (decide (max a c ≤ min b d))]) ∧ Grown w w' := by
  by_cases h1 : a < c
  · have e1 : max a c = c := by omega
    rw [e1]
    clear e1
    by_cases h2 : d < b
    · have e2 : min b d = d := by omega
      rw [e2]
      clear e2
      go_enter Tryd.func65, Tryd.ntmps65
      go_wp2
      go_region
      as_aux_lemma =>
        go_wp2
        refine bodyPost_ret (v := .tuple #[.agg #[.int .i64 c, .int .i64 d], .bool (decide (c ≤ d))]) ?_ rfl ⟨rfl, ?_⟩
        · simp [results, Tryd.f65, go_sem]
        · exact ((((Grown.refl w).alloc _).alloc _).alloc _).drew
    · have e2 : min b d = b := by omega
      have hd2 : decide (d < b) = false := by simp; omega
      rw [e2]
      clear e2 h2
      go_enter Tryd.func65, Tryd.ntmps65
      go_wp2
      go_region
      as_aux_lemma =>
        go_wp2
        refine bodyPost_ret (v := .tuple #[.agg #[.int .i64 c, .int .i64 b], .bool (decide (c ≤ b))]) ?_ rfl ⟨rfl, ?_⟩
        · simp [results, Tryd.f65, go_sem]
        · exact ((((Grown.refl w).alloc _).alloc _).alloc _).drew
  · have e1 : max a c = a := by omega
    have hd1 : decide (a < c) = false := by simp; omega
    rw [e1]
    clear e1 h1
    by_cases h2 : d < b
    · have e2 : min b d = d := by omega
      rw [e2]
      clear e2
      go_enter Tryd.func65, Tryd.ntmps65
      go_wp2
      go_region
      as_aux_lemma =>
        go_wp2
        refine bodyPost_ret (v := .tuple #[.agg #[.int .i64 a, .int .i64 d], .bool (decide (a ≤ d))]) ?_ rfl ⟨rfl, ?_⟩
        · simp [results, Tryd.f65, go_sem]
        · exact ((((Grown.refl w).alloc _).alloc _).alloc _).drew
    · have e2 : min b d = b := by omega
      have hd2 : decide (d < b) = false := by simp; omega
      rw [e2]
      clear e2 h2
      go_enter Tryd.func65, Tryd.ntmps65
      go_wp2
      go_region
      as_aux_lemma =>
        go_wp2
        refine bodyPost_ret (v := .tuple #[.agg #[.int .i64 a, .int .i64 b], .bool (decide (a ≤ b))]) ?_ rfl ⟨rfl, ?_⟩
        · simp [results, Tryd.f65, go_sem]
        · exact ((((Grown.refl w).alloc _).alloc _).alloc _).drew
/-! united, by thinking -/
/-- x is an interval of units of left, from the least one on -/
def Growing (left : List (Int × Int)) (x : Int × Int) : Prop := Whole x ∧ (∀ y ∈ left, x.1 ≤ y.1) ∧ (∀ u, x.1 ≤ u → u ≤ x.2 → hasU left u)
theorem growing_start {left : List (Int × Int)} (hw : ∀ y ∈ left, Whole y) {x : Int × Int} (hx : x ∈ left) (hm : ∀ y ∈ left, x.1 ≤ y.1) : Growing left x := ⟨hw x hx, hm, fun _ h1 h2 => ⟨x, hx, h1, h2⟩⟩
theorem growing_step {left : List (Int × Int)} (hw : ∀ y ∈ left, Whole y) {x y : Int × Int} (h : Growing left x) (hy : y ∈ left) (h1 : y.1 ≤ x.2 + 1) (h2 : x.2 < y.2) : Growing left (x.1, y.2) := by
  obtain ⟨g1, g2, g3⟩ := h
  have hy2 := hw y hy
  have hlo := g2 y hy
  refine ⟨?_, g2, fun u k1 k2 => ?_⟩
  · unfold Whole at g1 hy2 ⊢; simp only at *; omega
  · by_cases k : u ≤ x.2
    · exact g3 u k1 k
    · exact ⟨y, hy, by simp only at *; omega, k2⟩
theorem growing_end {left : List (Int × Int)} {x : Int × Int} (h : Growing left x) (hd : ∀ y ∈ left, y.1 ≤ x.2 + 1 → y.2 ≤ x.2) (u : Int) : hasU left u ↔ (x.1 ≤ u ∧ u ≤ x.2) ∨ hasU (left.filter fun y => decide (x.2 + 1 < y.1)) u := by
  constructor
  · rintro ⟨y, hy, h1, h2⟩
    by_cases k : x.2 + 1 < y.1
    · exact .inr ⟨y, by simp [hy, k], h1, h2⟩
    · have := hd y hy (by omega)
      have := h.2.1 y hy
      exact .inl (by omega)
  · rintro (k | ⟨y, hy, k⟩)
    · exact h.2.2 u k.1 k.2
    · exact ⟨y, (List.mem_filter.1 hy).1, k⟩
/-- what the rows out and left are of l -/
def Uni (l out left : List (Int × Int)) : Prop := Good out ∧ (∀ y ∈ left, Whole y) ∧ (∀ u, hasU l u ↔ hasU out u ∨ hasU left u) ∧ (∀ z ∈ out, ∀ y ∈ left, z.2 + 2 ≤ y.1)
theorem uni_start {l : List (Int × Int)} (hw : ∀ y ∈ l, Whole y) : Uni l [] l := ⟨good_nil, hw, fun u => by simp [hasU], fun z hz => by simp at hz⟩
theorem uni_step {l out left : List (Int × Int)} (h : Uni l out left) {x : Int × Int} (hx : Growing left x) (hne : ∃ y ∈ left, y.1 = x.1) (hd : ∀ y ∈ left, y.1 ≤ x.2 + 1 → y.2 ≤ x.2) : Uni l (out ++ [x]) (left.filter fun y => decide (x.2 + 1 < y.1)) := by
  obtain ⟨u1, u2, u3, u4⟩ := h
  refine ⟨good_snoc.2 ⟨u1, hx.1, fun z hz => ?_⟩, fun y hy => u2 y (List.mem_filter.1 hy).1, fun u => ?_, fun z hz y hy => ?_⟩
  · obtain ⟨y, hy, e⟩ := hne
    rw [← e]; exact u4 z hz y hy
  · rw [u3 u, hasU_append, growing_end hx hd u]
    obtain ⟨x1, x2⟩ := x
    rw [hasU_one]
    exact or_assoc.symm
  · have hy' := List.mem_filter.1 hy
    simp only [decide_eq_true_eq] at hy'
    rw [List.mem_append, List.mem_singleton] at hz
    rcases hz with hz | rfl
    · exact u4 z hz y hy'.1
    · omega
theorem uni_less {left : List (Int × Int)} {x : Int × Int} (hw : x.1 ≤ x.2) (hne : ∃ y ∈ left, y.1 = x.1) : (left.filter fun y => decide (x.2 + 1 < y.1)).length < left.length := by
  obtain ⟨y, hy, e⟩ := hne
  have h1 := List.length_filter_le (fun y : Int × Int => decide (x.2 + 1 < y.1)) left
  by_cases k : (left.filter fun y => decide (x.2 + 1 < y.1)).length = left.length
  · have := (List.length_filter_eq_length_iff.1 k) y hy
    simp at this
    omega
  · omega
end Go.Proofs
