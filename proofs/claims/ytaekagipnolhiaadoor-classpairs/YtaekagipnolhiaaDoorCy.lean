/-
  ClassPairs walked: partners are one to one; who has a partner is in upper, or in lower; nobody else moves.
-/
import Derived.RangeFuncNested
import Derived.RangeFuncBound
import Derived.RangeFuncCalls
import Derived.RangeFuncLeaves
import Derived.Shelf.SlSorted.Search
import Derived.Deep.MidRow
import Derived.Maps.OwnSet
import Derived.Maps.OwnOps
import Derived.Shelf.Abstract
import Derived.Shelf.RegionOpen
import Derived.WalkKit
import Derived.WalkSpells
import Derived.WalkLawsBesides
import Derived.OwnWalkIn
import Derived.TacticsInMore
import Derived.LoopNIn
import Derived.LoopIn
import Derived.BigQuiet
import Derived.RegionIn
import Derived.Deep.QuietTactic
import Derived.Deep.RegionWith
import Derived.Lib.OthersKept
import Derived.Maps.AppendAt
import Derived.Lib.SmallJoins
import Derived.Shelf.SlSortCmp.QuietGrown
import Derived.Deep.DrawnRows
import Derived.Test.YtaekagipnolhiaaDoorCw
import Derived.Test.YtaekagipnolhiaaDoorCh
namespace Go.Proofs
open Go.RowKit Go.Shelf

set_option maxRecDepth 100000
attribute [local go_sem] Oper.semAt_some

/-- the great letters, and the small ones -/
def hasG (u : Int) : Prop := (65 ≤ u ∧ u ≤ 90) ∨ (192 ≤ u ∧ u ≤ 214) ∨ (216 ≤ u ∧ u ≤ 222) ∨ (913 ≤ u ∧ u ≤ 929) ∨ (931 ≤ u ∧ u ≤ 937) ∨ (1024 ≤ u ∧ u ≤ 1071)
def hasS (u : Int) : Prop := (97 ≤ u ∧ u ≤ 122) ∨ (223 ≤ u ∧ u ≤ 246) ∨ (248 ≤ u ∧ u ≤ 255) ∨ (945 ≤ u ∧ u ≤ 969) ∨ (1072 ≤ u ∧ u ≤ 1119)
theorem great_iff (u : Int) : hasU (spOf 21) u ↔ hasG u := by
  rw [show spOf 21 = [(65, 90), (192, 214), (216, 222), (913, 929), (931, 937), (1024, 1071)] from rfl]
  simp [hasU, hasG]
theorem small_iff (u : Int) : hasU (spOf 13) u ↔ hasS u := by
  rw [show spOf 13 = [(97, 122), (223, 246), (248, 255), (945, 969), (1072, 1119)] from rfl]
  simp [hasU, hasS]
theorem valid_great : validB (spOf 21) = true := by decide +kernel
theorem valid_small : validB (spOf 13) = true := by decide +kernel
theorem great_yes {u : Int} (h : hasG u) : (validB (spOf 21) && decide (hasU (spOf 21) u)) = true := by rw [valid_great, Bool.true_and, decide_eq_true_eq, great_iff]; exact h
theorem great_no {u : Int} (h : ¬ hasG u) : (validB (spOf 21) && decide (hasU (spOf 21) u)) = false := by rw [valid_great, Bool.true_and, decide_eq_false_iff_not, great_iff]; exact h
theorem small_yes {u : Int} (h : hasS u) : (validB (spOf 13) && decide (hasU (spOf 13) u)) = true := by rw [valid_small, Bool.true_and, decide_eq_true_eq, small_iff]; exact h
theorem small_no {u : Int} (h : ¬ hasS u) : (validB (spOf 13) && decide (hasU (spOf 13) u)) = false := by rw [valid_small, Bool.true_and, decide_eq_false_iff_not, small_iff]; exact h
theorem low_cases (u : Int) : (lowU u = u ∧ ¬ hasG u) ∨ (hasG u ∧ ((u < 1024 ∨ 1040 ≤ u) ∧ lowU u = u + 32 ∨ (1024 ≤ u ∧ u < 1040) ∧ lowU u = u + 80)) := by
  unfold lowU gRow hasG
  simp only [lowFrom]
  repeat' split
  all_goals omega
theorem up_cases (u : Int) : (upU u = u ∧ (hasS u → u = 223 ∨ u = 255 ∨ u = 962)) ∨ (hasS u ∧ u ≠ 223 ∧ u ≠ 255 ∧ u ≠ 962 ∧ ((u < 1104) ∧ upU u = u - 32 ∨ (1104 ≤ u) ∧ upU u = u - 80)) := by
  unfold upU gRow hasS
  simp only [upFrom]
  repeat' split
  all_goals omega
set_option maxHeartbeats 4000000 in
theorem pairs_great (u lo : Int) (w : World) (hT : Tab w) (h1 : -9223372036854775808 ≤ u) (h2 : u ≤ 9223372036854775807) (hlo : lowU u = lo) (hup : upU u = u) (hne : lo ≠ u) (hg : hasG u) (hs : ¬ hasS u) (hgl : hasS lo) (hback : upU lo = u) (h3 : -9223372036854775808 ≤ lo) (h4 : lo ≤ 9223372036854775807) :
    Calls Tryd.prog 6 #[.int .i64 u] w fun e w' => e = .returned (.bool true) ∧ Below w.heap.size w w' := by
  have HT : Hid (Tab w) := hT
  have H1 : Hid (-9223372036854775808 ≤ u) := h1
  have H2 : Hid (u ≤ 9223372036854775807) := h2
  clear hT h1 h2
  have H3 : Hid (-9223372036854775808 ≤ lo) := h3
  have H4 : Hid (lo ≤ 9223372036854775807) := h4
  have g1 := great_yes hg
  have s1 := small_no hs
  have s2 := small_yes hgl
  have n1 : (lo != u) = true := by simpa using hne
  clear h3 h4 hg hs hgl
  go_enter Tryd.func6, Tryd.ntmps6
  go_wp2_with fail
  refine (shown_any _ HT.out).mono ?_
  rintro e w1 ⟨rfl, hb⟩
  have HB : Hid (Below w.heap.size w w1) := hb
  clear hb
  go_wp2_with fail
  refine (lower_any _ _ (HT.out.bel HB.out) H1.out H2.out).mono ?_
  rw [hlo]
  rintro e w2 ⟨rfl, hb⟩
  replace HB : Hid (Below w.heap.size w w2) := HB.out.trans (hb.below.mono HB.out.size)
  clear hb
  go_wp2_with fail
  refine (upper_any _ _ (HT.out.bel HB.out) H1.out H2.out).mono ?_
  rw [hup]
  rintro e w3 ⟨rfl, hb⟩
  replace HB : Hid (Below w.heap.size w w3) := HB.out.trans (hb.below.mono HB.out.size)
  clear hb
  go_wp2_with fail
  refine (of_some _ 13 _ (by unfold maxLen; decide) (by decide +kernel)).mono ?_
  rintro e w4 ⟨vs, rfl, hO, hb⟩
  have HS : Hid (Rs w4 vs (spOf 13)) := OwnR.rs hO
  replace HB : Hid (Below w.heap.size w w4) := HB.out.trans (hb.mono HB.out.size)
  clear hb hO
  go_wp2_with fail
  refine (of_some _ 21 _ (by unfold maxLen; decide) (by decide +kernel)).mono ?_
  rintro e w5 ⟨vg, rfl, hO, hb⟩
  have HQ : Hid (Rs w5 vg (spOf 21)) := OwnR.rs hO
  replace HS : Hid (Rs w5 vs (spOf 13)) := HS.out.below hb (Nat.le_refl _)
  replace HB : Hid (Below w.heap.size w w5) := HB.out.trans (hb.mono HB.out.size)
  clear hb hO
  go_wp2_with fail
  refine (upper_any _ _ (HT.out.bel HB.out) H3.out H4.out).mono ?_
  rw [hback]
  rintro e w21 ⟨rfl, hb⟩
  replace HB : Hid (Below w.heap.size w w21) := HB.out.trans (hb.below.mono HB.out.size)
  replace HS : Hid (Rs w21 vs (spOf 13)) := HS.out.below hb.below (Nat.le_refl _)
  replace HQ : Hid (Rs w21 vg (spOf 21)) := HQ.out.below hb.below (Nat.le_refl _)
  clear hb
  go_wp2_with fail
  refine (rhas_any _ _ _ _ HQ.out).mono ?_
  rw [g1]
  rintro e w22 ⟨rfl, hb⟩
  replace HB : Hid (Below w.heap.size w w22) := HB.out.trans (hb.below.mono HB.out.size)
  replace HS : Hid (Rs w22 vs (spOf 13)) := HS.out.below hb.below (Nat.le_refl _)
  replace HQ : Hid (Rs w22 vg (spOf 21)) := HQ.out.below hb.below (Nat.le_refl _)
  clear hb
  go_wp2_with fail
  refine (rhas_any _ _ _ _ HS.out).mono ?_
  rw [s2]
  rintro e w23 ⟨rfl, hb⟩
  replace HB : Hid (Below w.heap.size w w23) := HB.out.trans (hb.below.mono HB.out.size)
  replace HS : Hid (Rs w23 vs (spOf 13)) := HS.out.below hb.below (Nat.le_refl _)
  replace HQ : Hid (Rs w23 vg (spOf 21)) := HQ.out.below hb.below (Nat.le_refl _)
  clear hb
  go_wp2_with fail
  refine (rhas_any _ _ _ _ HQ.out).mono ?_
  rw [g1]
  rintro e w24 ⟨rfl, hb⟩
  replace HB : Hid (Below w.heap.size w w24) := HB.out.trans (hb.below.mono HB.out.size)
  replace HS : Hid (Rs w24 vs (spOf 13)) := HS.out.below hb.below (Nat.le_refl _)
  replace HQ : Hid (Rs w24 vg (spOf 21)) := HQ.out.below hb.below (Nat.le_refl _)
  clear hb
  go_wp2_with fail
  refine (rhas_any _ _ _ _ HQ.out).mono ?_
  rw [g1]
  rintro e w25 ⟨rfl, hb⟩
  replace HB : Hid (Below w.heap.size w w25) := HB.out.trans (hb.below.mono HB.out.size)
  replace HS : Hid (Rs w25 vs (spOf 13)) := HS.out.below hb.below (Nat.le_refl _)
  replace HQ : Hid (Rs w25 vg (spOf 21)) := HQ.out.below hb.below (Nat.le_refl _)
  clear hb
  go_wp2_with fail
  refine (rhas_any _ _ _ _ HS.out).mono ?_
  rw [s1]
  rintro e w26 ⟨rfl, hb⟩
  replace HB : Hid (Below w.heap.size w w26) := HB.out.trans (hb.below.mono HB.out.size)
  replace HS : Hid (Rs w26 vs (spOf 13)) := HS.out.below hb.below (Nat.le_refl _)
  replace HQ : Hid (Rs w26 vg (spOf 21)) := HQ.out.below hb.below (Nat.le_refl _)
  clear hb
  go_wp2_with fail
  refine (rhas_any _ _ _ _ HS.out).mono ?_
  rw [s1]
  rintro e w27 ⟨rfl, hb⟩
  replace HB : Hid (Below w.heap.size w w27) := HB.out.trans (hb.below.mono HB.out.size)
  replace HS : Hid (Rs w27 vs (spOf 13)) := HS.out.below hb.below (Nat.le_refl _)
  replace HQ : Hid (Rs w27 vg (spOf 21)) := HQ.out.below hb.below (Nat.le_refl _)
  clear hb
  go_wp2
  go_ret
  exact ⟨rfl, HB.out⟩
set_option maxHeartbeats 4000000 in
theorem pairs_small (u up : Int) (w : World) (hT : Tab w) (h1 : -9223372036854775808 ≤ u) (h2 : u ≤ 9223372036854775807) (hlo : lowU u = u) (hup : upU u = up) (hne : up ≠ u) (hg : ¬ hasG u) (hs : hasS u) (hgl : hasG up) (hback : lowU up = u) (h3 : -9223372036854775808 ≤ up) (h4 : up ≤ 9223372036854775807) :
    Calls Tryd.prog 6 #[.int .i64 u] w fun e w' => e = .returned (.bool true) ∧ Below w.heap.size w w' := by
  have HT : Hid (Tab w) := hT
  have H1 : Hid (-9223372036854775808 ≤ u) := h1
  have H2 : Hid (u ≤ 9223372036854775807) := h2
  clear hT h1 h2
  have H3 : Hid (-9223372036854775808 ≤ up) := h3
  have H4 : Hid (up ≤ 9223372036854775807) := h4
  have g1 := great_no hg
  have s1 := small_yes hs
  have g2 := great_yes hgl
  have n1 : (up != u) = true := by simpa using hne
  clear h3 h4 hg hs hgl
  go_enter Tryd.func6, Tryd.ntmps6
  go_wp2_with fail
  refine (shown_any _ HT.out).mono ?_
  rintro e w1 ⟨rfl, hb⟩
  have HB : Hid (Below w.heap.size w w1) := hb
  clear hb
  go_wp2_with fail
  refine (lower_any _ _ (HT.out.bel HB.out) H1.out H2.out).mono ?_
  rw [hlo]
  rintro e w2 ⟨rfl, hb⟩
  replace HB : Hid (Below w.heap.size w w2) := HB.out.trans (hb.below.mono HB.out.size)
  clear hb
  go_wp2_with fail
  refine (upper_any _ _ (HT.out.bel HB.out) H1.out H2.out).mono ?_
  rw [hup]
  rintro e w3 ⟨rfl, hb⟩
  replace HB : Hid (Below w.heap.size w w3) := HB.out.trans (hb.below.mono HB.out.size)
  clear hb
  go_wp2_with fail
  refine (of_some _ 13 _ (by unfold maxLen; decide) (by decide +kernel)).mono ?_
  rintro e w4 ⟨vs, rfl, hO, hb⟩
  have HS : Hid (Rs w4 vs (spOf 13)) := OwnR.rs hO
  replace HB : Hid (Below w.heap.size w w4) := HB.out.trans (hb.mono HB.out.size)
  clear hb hO
  go_wp2_with fail
  refine (of_some _ 21 _ (by unfold maxLen; decide) (by decide +kernel)).mono ?_
  rintro e w5 ⟨vg, rfl, hO, hb⟩
  have HQ : Hid (Rs w5 vg (spOf 21)) := OwnR.rs hO
  replace HS : Hid (Rs w5 vs (spOf 13)) := HS.out.below hb (Nat.le_refl _)
  replace HB : Hid (Below w.heap.size w w5) := HB.out.trans (hb.mono HB.out.size)
  clear hb hO
  go_wp2_with fail
  refine (lower_any _ _ (HT.out.bel HB.out) H3.out H4.out).mono ?_
  rw [hback]
  rintro e w21 ⟨rfl, hb⟩
  replace HB : Hid (Below w.heap.size w w21) := HB.out.trans (hb.below.mono HB.out.size)
  replace HS : Hid (Rs w21 vs (spOf 13)) := HS.out.below hb.below (Nat.le_refl _)
  replace HQ : Hid (Rs w21 vg (spOf 21)) := HQ.out.below hb.below (Nat.le_refl _)
  clear hb
  go_wp2_with fail
  refine (rhas_any _ _ _ _ HS.out).mono ?_
  rw [s1]
  rintro e w22 ⟨rfl, hb⟩
  replace HB : Hid (Below w.heap.size w w22) := HB.out.trans (hb.below.mono HB.out.size)
  replace HS : Hid (Rs w22 vs (spOf 13)) := HS.out.below hb.below (Nat.le_refl _)
  replace HQ : Hid (Rs w22 vg (spOf 21)) := HQ.out.below hb.below (Nat.le_refl _)
  clear hb
  go_wp2_with fail
  refine (rhas_any _ _ _ _ HQ.out).mono ?_
  rw [g2]
  rintro e w23 ⟨rfl, hb⟩
  replace HB : Hid (Below w.heap.size w w23) := HB.out.trans (hb.below.mono HB.out.size)
  replace HS : Hid (Rs w23 vs (spOf 13)) := HS.out.below hb.below (Nat.le_refl _)
  replace HQ : Hid (Rs w23 vg (spOf 21)) := HQ.out.below hb.below (Nat.le_refl _)
  clear hb
  go_wp2_with fail
  refine (rhas_any _ _ _ _ HQ.out).mono ?_
  rw [g1]
  rintro e w24 ⟨rfl, hb⟩
  replace HB : Hid (Below w.heap.size w w24) := HB.out.trans (hb.below.mono HB.out.size)
  replace HS : Hid (Rs w24 vs (spOf 13)) := HS.out.below hb.below (Nat.le_refl _)
  replace HQ : Hid (Rs w24 vg (spOf 21)) := HQ.out.below hb.below (Nat.le_refl _)
  clear hb
  go_wp2_with fail
  refine (rhas_any _ _ _ _ HQ.out).mono ?_
  rw [g1]
  rintro e w25 ⟨rfl, hb⟩
  replace HB : Hid (Below w.heap.size w w25) := HB.out.trans (hb.below.mono HB.out.size)
  replace HS : Hid (Rs w25 vs (spOf 13)) := HS.out.below hb.below (Nat.le_refl _)
  replace HQ : Hid (Rs w25 vg (spOf 21)) := HQ.out.below hb.below (Nat.le_refl _)
  clear hb
  go_wp2_with fail
  refine (rhas_any _ _ _ _ HS.out).mono ?_
  rw [s1]
  rintro e w26 ⟨rfl, hb⟩
  replace HB : Hid (Below w.heap.size w w26) := HB.out.trans (hb.below.mono HB.out.size)
  replace HS : Hid (Rs w26 vs (spOf 13)) := HS.out.below hb.below (Nat.le_refl _)
  replace HQ : Hid (Rs w26 vg (spOf 21)) := HQ.out.below hb.below (Nat.le_refl _)
  clear hb
  go_wp2
  go_ret
  exact ⟨rfl, HB.out⟩
set_option maxHeartbeats 4000000 in
theorem pairs_none (u : Int) (w : World) (hT : Tab w) (h1 : -9223372036854775808 ≤ u) (h2 : u ≤ 9223372036854775807) (hlo : lowU u = u) (hup : upU u = u) (hg : ¬ hasG u) (hs : ¬ hasS u) :
    Calls Tryd.prog 6 #[.int .i64 u] w fun e w' => e = .returned (.bool true) ∧ Below w.heap.size w w' := by
  have HT : Hid (Tab w) := hT
  have H1 : Hid (-9223372036854775808 ≤ u) := h1
  have H2 : Hid (u ≤ 9223372036854775807) := h2
  clear hT h1 h2
  have g1 := great_no hg
  have s1 := small_no hs
  clear hg hs
  go_enter Tryd.func6, Tryd.ntmps6
  go_wp2_with fail
  refine (shown_any _ HT.out).mono ?_
  rintro e w1 ⟨rfl, hb⟩
  have HB : Hid (Below w.heap.size w w1) := hb
  clear hb
  go_wp2_with fail
  refine (lower_any _ _ (HT.out.bel HB.out) H1.out H2.out).mono ?_
  rw [hlo]
  rintro e w2 ⟨rfl, hb⟩
  replace HB : Hid (Below w.heap.size w w2) := HB.out.trans (hb.below.mono HB.out.size)
  clear hb
  go_wp2_with fail
  refine (upper_any _ _ (HT.out.bel HB.out) H1.out H2.out).mono ?_
  rw [hup]
  rintro e w3 ⟨rfl, hb⟩
  replace HB : Hid (Below w.heap.size w w3) := HB.out.trans (hb.below.mono HB.out.size)
  clear hb
  go_wp2_with fail
  refine (of_some _ 13 _ (by unfold maxLen; decide) (by decide +kernel)).mono ?_
  rintro e w4 ⟨vs, rfl, hO, hb⟩
  have HS : Hid (Rs w4 vs (spOf 13)) := OwnR.rs hO
  replace HB : Hid (Below w.heap.size w w4) := HB.out.trans (hb.mono HB.out.size)
  clear hb hO
  go_wp2_with fail
  refine (of_some _ 21 _ (by unfold maxLen; decide) (by decide +kernel)).mono ?_
  rintro e w5 ⟨vg, rfl, hO, hb⟩
  have HQ : Hid (Rs w5 vg (spOf 21)) := OwnR.rs hO
  replace HS : Hid (Rs w5 vs (spOf 13)) := HS.out.below hb (Nat.le_refl _)
  replace HB : Hid (Below w.heap.size w w5) := HB.out.trans (hb.mono HB.out.size)
  clear hb hO
  go_wp2_with fail
  refine (rhas_any _ _ _ _ HQ.out).mono ?_
  rw [g1]
  rintro e w21 ⟨rfl, hb⟩
  replace HB : Hid (Below w.heap.size w w21) := HB.out.trans (hb.below.mono HB.out.size)
  replace HS : Hid (Rs w21 vs (spOf 13)) := HS.out.below hb.below (Nat.le_refl _)
  replace HQ : Hid (Rs w21 vg (spOf 21)) := HQ.out.below hb.below (Nat.le_refl _)
  clear hb
  go_wp2_with fail
  refine (rhas_any _ _ _ _ HQ.out).mono ?_
  rw [g1]
  rintro e w22 ⟨rfl, hb⟩
  replace HB : Hid (Below w.heap.size w w22) := HB.out.trans (hb.below.mono HB.out.size)
  replace HS : Hid (Rs w22 vs (spOf 13)) := HS.out.below hb.below (Nat.le_refl _)
  replace HQ : Hid (Rs w22 vg (spOf 21)) := HQ.out.below hb.below (Nat.le_refl _)
  clear hb
  go_wp2_with fail
  refine (rhas_any _ _ _ _ HS.out).mono ?_
  rw [s1]
  rintro e w23 ⟨rfl, hb⟩
  replace HB : Hid (Below w.heap.size w w23) := HB.out.trans (hb.below.mono HB.out.size)
  replace HS : Hid (Rs w23 vs (spOf 13)) := HS.out.below hb.below (Nat.le_refl _)
  replace HQ : Hid (Rs w23 vg (spOf 21)) := HQ.out.below hb.below (Nat.le_refl _)
  clear hb
  go_wp2
  go_ret
  exact ⟨rfl, HB.out⟩
set_option maxHeartbeats 4000000 in
theorem pairs_223 (w : World) (hT : Tab w) : Calls Tryd.prog 6 #[.int .i64 223] w fun e w' => e = .returned (.bool true) ∧ Below w.heap.size w w' := by
  have HT : Hid (Tab w) := hT
  have H1 : Hid (-9223372036854775808 ≤ (223 : Int)) := by show _ ≤ _; decide
  have H2 : Hid ((223 : Int) ≤ 9223372036854775807) := by show _ ≤ _; decide
  have hlo : lowU 223 = 223 := by decide
  have hup : upU 223 = 223 := by decide
  have g1 := great_no (u := 223) (by unfold hasG; omega)
  have s1 := small_yes (u := 223) (by unfold hasS; omega)
  clear hT
  go_enter Tryd.func6, Tryd.ntmps6
  go_wp2_with fail
  refine (shown_any _ HT.out).mono ?_
  rintro e w1 ⟨rfl, hb⟩
  have HB : Hid (Below w.heap.size w w1) := hb
  clear hb
  go_wp2_with fail
  refine (lower_any _ _ (HT.out.bel HB.out) H1.out H2.out).mono ?_
  rw [hlo]
  rintro e w2 ⟨rfl, hb⟩
  replace HB : Hid (Below w.heap.size w w2) := HB.out.trans (hb.below.mono HB.out.size)
  clear hb
  go_wp2_with fail
  refine (upper_any _ _ (HT.out.bel HB.out) H1.out H2.out).mono ?_
  rw [hup]
  rintro e w3 ⟨rfl, hb⟩
  replace HB : Hid (Below w.heap.size w w3) := HB.out.trans (hb.below.mono HB.out.size)
  clear hb
  go_wp2_with fail
  refine (of_some _ 13 _ (by unfold maxLen; decide) (by decide +kernel)).mono ?_
  rintro e w4 ⟨vs, rfl, hO, hb⟩
  have HS : Hid (Rs w4 vs (spOf 13)) := OwnR.rs hO
  replace HB : Hid (Below w.heap.size w w4) := HB.out.trans (hb.mono HB.out.size)
  clear hb hO
  go_wp2_with fail
  refine (of_some _ 21 _ (by unfold maxLen; decide) (by decide +kernel)).mono ?_
  rintro e w5 ⟨vg, rfl, hO, hb⟩
  have HQ : Hid (Rs w5 vg (spOf 21)) := OwnR.rs hO
  replace HS : Hid (Rs w5 vs (spOf 13)) := HS.out.below hb (Nat.le_refl _)
  replace HB : Hid (Below w.heap.size w w5) := HB.out.trans (hb.mono HB.out.size)
  clear hb hO
  go_wp2_with fail
  refine (rhas_any _ _ _ _ HQ.out).mono ?_
  rw [g1]
  rintro e w21 ⟨rfl, hb⟩
  replace HB : Hid (Below w.heap.size w w21) := HB.out.trans (hb.below.mono HB.out.size)
  replace HS : Hid (Rs w21 vs (spOf 13)) := HS.out.below hb.below (Nat.le_refl _)
  replace HQ : Hid (Rs w21 vg (spOf 21)) := HQ.out.below hb.below (Nat.le_refl _)
  clear hb
  go_wp2_with fail
  refine (rhas_any _ _ _ _ HQ.out).mono ?_
  rw [g1]
  rintro e w22 ⟨rfl, hb⟩
  replace HB : Hid (Below w.heap.size w w22) := HB.out.trans (hb.below.mono HB.out.size)
  replace HS : Hid (Rs w22 vs (spOf 13)) := HS.out.below hb.below (Nat.le_refl _)
  replace HQ : Hid (Rs w22 vg (spOf 21)) := HQ.out.below hb.below (Nat.le_refl _)
  clear hb
  go_wp2_with fail
  refine (rhas_any _ _ _ _ HS.out).mono ?_
  rw [s1]
  rintro e w23 ⟨rfl, hb⟩
  replace HB : Hid (Below w.heap.size w w23) := HB.out.trans (hb.below.mono HB.out.size)
  replace HS : Hid (Rs w23 vs (spOf 13)) := HS.out.below hb.below (Nat.le_refl _)
  replace HQ : Hid (Rs w23 vg (spOf 21)) := HQ.out.below hb.below (Nat.le_refl _)
  clear hb
  go_wp2
  go_ret
  exact ⟨rfl, HB.out⟩
set_option maxHeartbeats 4000000 in
theorem pairs_255 (w : World) (hT : Tab w) : Calls Tryd.prog 6 #[.int .i64 255] w fun e w' => e = .returned (.bool true) ∧ Below w.heap.size w w' := by
  have HT : Hid (Tab w) := hT
  have H1 : Hid (-9223372036854775808 ≤ (255 : Int)) := by show _ ≤ _; decide
  have H2 : Hid ((255 : Int) ≤ 9223372036854775807) := by show _ ≤ _; decide
  have hlo : lowU 255 = 255 := by decide
  have hup : upU 255 = 255 := by decide
  have g1 := great_no (u := 255) (by unfold hasG; omega)
  have s1 := small_yes (u := 255) (by unfold hasS; omega)
  clear hT
  go_enter Tryd.func6, Tryd.ntmps6
  go_wp2_with fail
  refine (shown_any _ HT.out).mono ?_
  rintro e w1 ⟨rfl, hb⟩
  have HB : Hid (Below w.heap.size w w1) := hb
  clear hb
  go_wp2_with fail
  refine (lower_any _ _ (HT.out.bel HB.out) H1.out H2.out).mono ?_
  rw [hlo]
  rintro e w2 ⟨rfl, hb⟩
  replace HB : Hid (Below w.heap.size w w2) := HB.out.trans (hb.below.mono HB.out.size)
  clear hb
  go_wp2_with fail
  refine (upper_any _ _ (HT.out.bel HB.out) H1.out H2.out).mono ?_
  rw [hup]
  rintro e w3 ⟨rfl, hb⟩
  replace HB : Hid (Below w.heap.size w w3) := HB.out.trans (hb.below.mono HB.out.size)
  clear hb
  go_wp2_with fail
  refine (of_some _ 13 _ (by unfold maxLen; decide) (by decide +kernel)).mono ?_
  rintro e w4 ⟨vs, rfl, hO, hb⟩
  have HS : Hid (Rs w4 vs (spOf 13)) := OwnR.rs hO
  replace HB : Hid (Below w.heap.size w w4) := HB.out.trans (hb.mono HB.out.size)
  clear hb hO
  go_wp2_with fail
  refine (of_some _ 21 _ (by unfold maxLen; decide) (by decide +kernel)).mono ?_
  rintro e w5 ⟨vg, rfl, hO, hb⟩
  have HQ : Hid (Rs w5 vg (spOf 21)) := OwnR.rs hO
  replace HS : Hid (Rs w5 vs (spOf 13)) := HS.out.below hb (Nat.le_refl _)
  replace HB : Hid (Below w.heap.size w w5) := HB.out.trans (hb.mono HB.out.size)
  clear hb hO
  go_wp2_with fail
  refine (rhas_any _ _ _ _ HQ.out).mono ?_
  rw [g1]
  rintro e w21 ⟨rfl, hb⟩
  replace HB : Hid (Below w.heap.size w w21) := HB.out.trans (hb.below.mono HB.out.size)
  replace HS : Hid (Rs w21 vs (spOf 13)) := HS.out.below hb.below (Nat.le_refl _)
  replace HQ : Hid (Rs w21 vg (spOf 21)) := HQ.out.below hb.below (Nat.le_refl _)
  clear hb
  go_wp2_with fail
  refine (rhas_any _ _ _ _ HQ.out).mono ?_
  rw [g1]
  rintro e w22 ⟨rfl, hb⟩
  replace HB : Hid (Below w.heap.size w w22) := HB.out.trans (hb.below.mono HB.out.size)
  replace HS : Hid (Rs w22 vs (spOf 13)) := HS.out.below hb.below (Nat.le_refl _)
  replace HQ : Hid (Rs w22 vg (spOf 21)) := HQ.out.below hb.below (Nat.le_refl _)
  clear hb
  go_wp2_with fail
  refine (rhas_any _ _ _ _ HS.out).mono ?_
  rw [s1]
  rintro e w23 ⟨rfl, hb⟩
  replace HB : Hid (Below w.heap.size w w23) := HB.out.trans (hb.below.mono HB.out.size)
  replace HS : Hid (Rs w23 vs (spOf 13)) := HS.out.below hb.below (Nat.le_refl _)
  replace HQ : Hid (Rs w23 vg (spOf 21)) := HQ.out.below hb.below (Nat.le_refl _)
  clear hb
  go_wp2
  go_ret
  exact ⟨rfl, HB.out⟩
set_option maxHeartbeats 4000000 in
theorem pairs_962 (w : World) (hT : Tab w) : Calls Tryd.prog 6 #[.int .i64 962] w fun e w' => e = .returned (.bool true) ∧ Below w.heap.size w w' := by
  have HT : Hid (Tab w) := hT
  have H1 : Hid (-9223372036854775808 ≤ (962 : Int)) := by show _ ≤ _; decide
  have H2 : Hid ((962 : Int) ≤ 9223372036854775807) := by show _ ≤ _; decide
  have hlo : lowU 962 = 962 := by decide
  have hup : upU 962 = 962 := by decide
  have g1 := great_no (u := 962) (by unfold hasG; omega)
  have s1 := small_yes (u := 962) (by unfold hasS; omega)
  clear hT
  go_enter Tryd.func6, Tryd.ntmps6
  go_wp2_with fail
  refine (shown_any _ HT.out).mono ?_
  rintro e w1 ⟨rfl, hb⟩
  have HB : Hid (Below w.heap.size w w1) := hb
  clear hb
  go_wp2_with fail
  refine (lower_any _ _ (HT.out.bel HB.out) H1.out H2.out).mono ?_
  rw [hlo]
  rintro e w2 ⟨rfl, hb⟩
  replace HB : Hid (Below w.heap.size w w2) := HB.out.trans (hb.below.mono HB.out.size)
  clear hb
  go_wp2_with fail
  refine (upper_any _ _ (HT.out.bel HB.out) H1.out H2.out).mono ?_
  rw [hup]
  rintro e w3 ⟨rfl, hb⟩
  replace HB : Hid (Below w.heap.size w w3) := HB.out.trans (hb.below.mono HB.out.size)
  clear hb
  go_wp2_with fail
  refine (of_some _ 13 _ (by unfold maxLen; decide) (by decide +kernel)).mono ?_
  rintro e w4 ⟨vs, rfl, hO, hb⟩
  have HS : Hid (Rs w4 vs (spOf 13)) := OwnR.rs hO
  replace HB : Hid (Below w.heap.size w w4) := HB.out.trans (hb.mono HB.out.size)
  clear hb hO
  go_wp2_with fail
  refine (of_some _ 21 _ (by unfold maxLen; decide) (by decide +kernel)).mono ?_
  rintro e w5 ⟨vg, rfl, hO, hb⟩
  have HQ : Hid (Rs w5 vg (spOf 21)) := OwnR.rs hO
  replace HS : Hid (Rs w5 vs (spOf 13)) := HS.out.below hb (Nat.le_refl _)
  replace HB : Hid (Below w.heap.size w w5) := HB.out.trans (hb.mono HB.out.size)
  clear hb hO
  go_wp2_with fail
  refine (rhas_any _ _ _ _ HQ.out).mono ?_
  rw [g1]
  rintro e w21 ⟨rfl, hb⟩
  replace HB : Hid (Below w.heap.size w w21) := HB.out.trans (hb.below.mono HB.out.size)
  replace HS : Hid (Rs w21 vs (spOf 13)) := HS.out.below hb.below (Nat.le_refl _)
  replace HQ : Hid (Rs w21 vg (spOf 21)) := HQ.out.below hb.below (Nat.le_refl _)
  clear hb
  go_wp2_with fail
  refine (rhas_any _ _ _ _ HQ.out).mono ?_
  rw [g1]
  rintro e w22 ⟨rfl, hb⟩
  replace HB : Hid (Below w.heap.size w w22) := HB.out.trans (hb.below.mono HB.out.size)
  replace HS : Hid (Rs w22 vs (spOf 13)) := HS.out.below hb.below (Nat.le_refl _)
  replace HQ : Hid (Rs w22 vg (spOf 21)) := HQ.out.below hb.below (Nat.le_refl _)
  clear hb
  go_wp2_with fail
  refine (rhas_any _ _ _ _ HS.out).mono ?_
  rw [s1]
  rintro e w23 ⟨rfl, hb⟩
  replace HB : Hid (Below w.heap.size w w23) := HB.out.trans (hb.below.mono HB.out.size)
  replace HS : Hid (Rs w23 vs (spOf 13)) := HS.out.below hb.below (Nat.le_refl _)
  replace HQ : Hid (Rs w23 vg (spOf 21)) := HQ.out.below hb.below (Nat.le_refl _)
  clear hb
  go_wp2
  go_ret
  exact ⟨rfl, HB.out⟩
theorem pairsLaw_any (u : Int) (w : World) (hT : Tab w) (h1 : -9223372036854775808 ≤ u) (h2 : u ≤ 9223372036854775807) : Calls Tryd.prog 6 #[.int .i64 u] w fun e w' => e = .returned (.bool true) ∧ Below w.heap.size w w' := by
  have cl := low_cases u
  have cu := up_cases u
  rcases cl with ⟨l1, l2⟩ | ⟨l1, l2⟩
  · rcases cu with ⟨c1, c2⟩ | ⟨c1, c2, c3, c4, c5⟩
    · by_cases hs : hasS u
      · rcases c2 hs with rfl | rfl | rfl
        · exact pairs_223 w hT
        · exact pairs_255 w hT
        · exact pairs_962 w hT
      · exact pairs_none u w hT h1 h2 l1 c1 l2 hs
    · have b1 := low_cases (upU u)
      unfold hasG hasS at *
      refine pairs_small u (upU u) w hT h1 h2 l1 rfl ?_ l2 c1 ?_ ?_ ?_ ?_
      · omega
      · unfold hasG; omega
      · omega
      · omega
      · omega
  · rcases cu with ⟨c1, c2⟩ | ⟨c1, c2, c3, c4, c5⟩
    · have b1 := up_cases (lowU u)
      unfold hasG hasS at *
      refine pairs_great u (lowU u) w hT h1 h2 rfl c1 ?_ l1 ?_ ?_ ?_ ?_ ?_
      · omega
      · unfold hasS; omega
      · unfold hasS; omega
      · omega
      · omega
      · omega
    · exfalso
      unfold hasG hasS at *
      omega
end Go.Proofs
