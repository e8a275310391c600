/-
  Sets: valid, has, count.
-/
import Derived.RangeFuncNested
import Derived.RangeFuncBound
import Derived.RangeFuncCalls
import Derived.RangeFuncLeaves
import Derived.Shelf.Abstract
import Derived.Shelf.RegionOpen
import Derived.WalkKit
import Derived.WalkSpells
import Derived.WalkLawsBesides
import Derived.OwnWalkIn
import Derived.TacticsInMore
import Derived.LoopNIn
import Derived.LoopIn
import Derived.BigQuiet
import Derived.RegionIn
import Derived.Deep.QuietTactic
import Derived.Deep.RegionWith
import Derived.Lib.OthersKept
import Derived.Maps.AppendAt
import Derived.Lib.SmallJoins
import Derived.Shelf.SlSortCmp.QuietGrown
import Derived.Shelf.SlSorted.Search
import Derived.Deep.DrawnRows
import Derived.Test.YtkijbaofhodplaaDoorProg
import Derived.Test.YtkijbaofhodplaaDoorShelf
namespace Go.Proofs
open Go.RowKit Go.Shelf

set_option maxRecDepth 100000
attribute [local go_sem] Oper.semAt_some
def blkV : Array Value := #[.int .i64 0, .int .i64 55295, .int .i64 57344, .int .i64 1114111, .int .i64 1114240, .int .i64 1114367]
/-- the table of blocks lies in block 0 -/
def Tab (w : World) : Prop := ∀ (j : Nat) (v : Value), blkV[j]? = some v → w.cell? ⟨0, j, none⟩ = some v
theorem Tab.cell {w : World} (h : Tab w) (j : Nat) (v : Value) (hv : blkV[j]? = some v) : w.cell? ⟨0, j, none⟩ = some v := h j v hv
theorem Tab.pos {w : World} (h : Tab w) : 0 < w.heap.size := by
  obtain ⟨o, ho, _⟩ := cells_of_cell (h.cell 0 _ rfl)
  exact (Array.getElem?_eq_some_iff.1 ho).1
theorem Tab.below {w w' : World} {n : Nat} (h : Tab w) (hb : Below n w w') (hn : 0 < n) : Tab w' := fun j v hv => (hb.cell (p := ⟨0, j, none⟩) hn).trans (h j v hv)
theorem cell_up {W : World} {a : Addr} {v : Value} (h : W.cell? a = some v) (o : Obj) : (W.alloc o).cell? a = some v := cell_kept h (World.grownBy_alloc W o none) (fun r e => by cases e)
theorem Tab.up {w : World} (h : Tab w) (o : Obj) : Tab (w.alloc o) := fun j v hv => cell_up (h j v hv) o
theorem idx0 (w : World) : (Instr.index 138 (.agg #[.int .i64 0, .int .i64 55295, .int .i64 57344, .int .i64 1114111, .int .i64 1114240, .int .i64 1114367]) (.int .i64 0)).run Tryd.prog w = .ok (.agg #[.int .i64 0, .int .i64 55295]) w := by kernel_rfl
theorem idx1 (w : World) : (Instr.index 138 (.agg #[.int .i64 0, .int .i64 55295, .int .i64 57344, .int .i64 1114111, .int .i64 1114240, .int .i64 1114367]) (.int .i64 1)).run Tryd.prog w = .ok (.agg #[.int .i64 57344, .int .i64 1114111]) w := by kernel_rfl
theorem idx2 (w : World) : (Instr.index 138 (.agg #[.int .i64 0, .int .i64 55295, .int .i64 57344, .int .i64 1114111, .int .i64 1114240, .int .i64 1114367]) (.int .i64 2)).run Tryd.prog w = .ok (.agg #[.int .i64 1114240, .int .i64 1114367]) w := by kernel_rfl
/-- a range has numbers, all of them units -/
def Whole (x : Int × Int) : Prop := x.1 ≤ x.2 ∧ ((0 ≤ x.1 ∧ x.2 ≤ 55295) ∨ (57344 ≤ x.1 ∧ x.2 ≤ 1114111) ∨ (1114240 ≤ x.1 ∧ x.2 ≤ 1114367))
instance (x : Int × Int) : Decidable (Whole x) := by unfold Whole; infer_instance
theorem whole_iff (a b : Int) : Whole (a, b) ↔ (a ≤ b ∧ ((0 ≤ a ∧ b ≤ 55295) ∨ (57344 ≤ a ∧ b ≤ 1114111) ∨ (1114240 ≤ a ∧ b ≤ 1114367))) := Iff.rfl
theorem grow_more {w W : World} {os : Array Obj} (h : w = Go.Sort.grow W os) (o : Obj) : w.alloc o = Go.Sort.grow W (os ++ #[o]) := by rw [h, Go.Sort.alloc_eq_grow, Go.Sort.grow_grow]
theorem grow_same0 {w W : World} {ob : Obj} {os : Array Obj} (h : w = Go.Sort.grow (W.alloc ob) os) : w = Go.Sort.grow (W.drewN 0) (#[ob] ++ os) := by rw [h, Go.Sort.alloc_eq_grow, Go.Sort.grow_grow]; rfl
theorem grow_more0 {w W : World} {ob : Obj} {os : Array Obj} (h : w = Go.Sort.grow (W.alloc ob) os) (o : Obj) : w.alloc o = Go.Sort.grow (W.drewN 0) (#[ob] ++ os ++ #[o]) := by rw [grow_same0 h, Go.Sort.alloc_eq_grow, Go.Sort.grow_grow]
/-- a world after some draws, with some blocks laid behind it -/
def Grown (w w' : World) : Prop := ∃ q os, w' = Go.Sort.grow (w.drewN q) os
theorem Grown.refl (w : World) : Grown w w := ⟨0, #[], (Go.Sort.grow_empty _).symm⟩
theorem Grown.trans {w w1 w2 : World} (h : Grown w w1) (k : Grown w1 w2) : Grown w w2 := by
  obtain ⟨q, os, rfl⟩ := h
  obtain ⟨q', os', rfl⟩ := k
  refine ⟨q + q', os ++ os', ?_⟩
  show Go.Sort.grow (Go.Sort.grow ((w.drewN q).drewN q') os) os' = _
  rw [Go.Sort.grow_grow, World.drewN_drewN]
theorem Grown.alloc {w w1 : World} (h : Grown w w1) (o : Obj) : Grown w (w1.alloc o) := h.trans ⟨0, #[o], by rw [Go.Sort.alloc_eq_grow]; rfl⟩
theorem Grown.drewN {w w1 : World} (h : Grown w w1) (n : Nat) : Grown w (w1.drewN n) := h.trans ⟨n, #[], (Go.Sort.grow_empty _).symm⟩
theorem Grown.drew {w w1 : World} (h : Grown w w1) : Grown w w1.drew := h.trans ⟨1, #[], (Go.Sort.grow_empty _).symm⟩
theorem Grown.quiet {w w1 : World} (h : Grown w w1) (n : Nat) (os : Array Obj) : Grown w (Go.Sort.grow (w1.drewN n) os) := h.trans ⟨n, os, rfl⟩
theorem Grown.below {w w' : World} (h : Grown w w') : Below w.heap.size w w' := by
  obtain ⟨q, os, rfl⟩ := h
  exact below_grown_sl _ w q os (Nat.le_refl _)
theorem Grown.size {w w' : World} (h : Grown w w') : w.heap.size ≤ w'.heap.size := h.below.size
theorem Grown.cell {w w' : World} (h : Grown w w') {a : Addr} (ha : a.block < w.heap.size) : w'.cell? a = w.cell? a := h.below.cell ha
theorem Grown.cellv {w w' : World} (h : Grown w w') {a : Addr} {v : Value} (hv : w.cell? a = some v) : w'.cell? a = some v := by
  obtain ⟨o, ho, _⟩ := cells_of_cell hv
  rw [h.cell (Array.getElem?_eq_some_iff.1 ho).1]; exact hv
theorem Tab.grown {w w' : World} (h : Tab w) (k : Grown w w') : Tab w' := fun j v hv => k.cellv (h j v hv)
theorem mixed : Tryd.prog.follows .mixedOrders = true := by kernel_rfl
/-- a callee in a quiet region -/
theorem grown_of {P : Program} {f : FuncId} {args : Array Value} {w : World} {n : Nat} {os : Array Obj} {v : Value}
    (h : Calls P f args (Go.Sort.grow (w.drewN n) os) fun e w' => e = .returned v ∧ Grown (Go.Sort.grow (w.drewN n) os) w') : Calls P f args (Go.Sort.grow (w.drewN n) os) fun e w'' => e = .returned v ∧ ∃ p : GrownBy, w'' = Go.Sort.grow (w.drewN p.n) p.os :=
  Calls.grown_of h
def blkLo : Nat → Int | 0 => 0 | 1 => 57344 | _ => 1114240
def blkHi : Nat → Int | 0 => 55295 | 1 => 1114111 | _ => 1114367
set_option maxHeartbeats 1000000 in
theorem whole_any (a b : Int) (w : World) (hT : Tab w) : Calls Tryd.prog 96 #[.agg #[.int .i64 a, .int .i64 b]] w fun e w' => e = .returned (.bool (decide (Whole (a, b)))) ∧ Grown w w' := by
  have hT1 := hT.up (.cells #[.int .i64 a, .int .i64 b] 84)
  have t0 := hT1.cell 0 (.int .i64 0) rfl
  have t1 := hT1.cell 1 (.int .i64 55295) rfl
  have t2 := hT1.cell 2 (.int .i64 57344) rfl
  have t3 := hT1.cell 3 (.int .i64 1114111) rfl
  have t4 := hT1.cell 4 (.int .i64 1114240) rfl
  have t5 := hT1.cell 5 (.int .i64 1114367) rfl
  obtain ⟨r, hr⟩ : ∃ r : Bool, decide (Whole (a, b)) = r := ⟨_, rfl⟩
  have HR : Hid (decide (Whole (a, b)) = r) := hr
  rw [hr]
  clear hr
  go_enter Tryd.func96, Tryd.ntmps96
  go_wp2
  clear t0 t1 t2 t3 t4 t5
  go_loopw [6] (fun vi wr => ∃ k : Nat, vi = .int .i64 k ∧ k ≤ 3 ∧ Hid (∀ j, j < k → ¬ (blkLo j ≤ a ∧ b ≤ blkHi j)) ∧ ∃ os, wr = Go.Sort.grow (w.alloc (.cells #[.int .i64 a, .int .i64 b] 84)) os) (fun vi _ => 3 - (intOf vi).toNat)
  case atStart => exact ⟨0, rfl, by omega, fun j hj => by omega, #[], (Go.Sort.grow_empty _).symm⟩
  case round =>
    obtain ⟨k, rfl, hk, hm, os, hos⟩ := hrel
    have c0 : wr.cell? ⟨w.heap.size, 0, none⟩ = some (.int .i64 a) := by rw [hos, Go.Sort.cell?_grow _ _ _ (by simp)]; simp
    have c1 : wr.cell? ⟨w.heap.size, 1, none⟩ = some (.int .i64 b) := by rw [hos, Go.Sort.cell?_grow _ _ _ (by simp)]; simp
    have HO : Hid (wr = Go.Sort.grow (w.alloc (.cells #[.int .i64 a, .int .i64 b] 84)) os) := hos
    clear hos
    have d0 := fun o => cell_up c0 o
    have d1 := fun o => cell_up c1 o
    have hk5 : k = 0 ∨ k = 1 ∨ k = 2 ∨ k = 3 := by omega
    rcases hk5 with rfl | rfl | rfl | rfl
    · have hix := idx0
      by_cases h1 : 0 ≤ a
      · by_cases h2 : b ≤ 55295
        · by_cases h3 : a ≤ b
          · have hr : r = true := by rw [← HR.out]; rw [decide_eq_true_eq, whole_iff]; omega
            go_wp2
            go_ret
            exact ⟨by first | rfl | (rw [hr]; rfl), 0, _, grow_more0 HO.out _⟩
          · have hd3 : decide (a ≤ b) = false := by simp; omega
            have hr : r = false := by rw [← HR.out]; rw [decide_eq_false_iff_not, whole_iff]; omega
            go_wp2
            go_ret
            exact ⟨by first | rfl | (rw [hr]; rfl), 0, _, grow_more0 HO.out _⟩
        · have hd2 : decide (b ≤ 55295) = false := by simp; omega
          have hm' : Hid (∀ j, j < 1 → ¬ (blkLo j ≤ a ∧ b ≤ blkHi j)) := fun j hj => by
            by_cases e : j = 0
            · subst e; simp only [blkLo, blkHi]; omega
            · exact hm.out j (by omega)
          go_wp2
          exact ⟨⟨1, rfl, by omega, hm', _, grow_more HO.out _⟩, by simp [intOf]⟩
      · have hd1 : decide (0 ≤ a) = false := by simp; omega
        have hm' : Hid (∀ j, j < 1 → ¬ (blkLo j ≤ a ∧ b ≤ blkHi j)) := fun j hj => by
          by_cases e : j = 0
          · subst e; simp only [blkLo, blkHi]; omega
          · exact hm.out j (by omega)
        go_wp2
        exact ⟨⟨1, rfl, by omega, hm', _, grow_more HO.out _⟩, by simp [intOf]⟩
    · have hix := idx1
      by_cases h1 : 57344 ≤ a
      · by_cases h2 : b ≤ 1114111
        · by_cases h3 : a ≤ b
          · have hr : r = true := by rw [← HR.out]; rw [decide_eq_true_eq, whole_iff]; omega
            go_wp2
            go_ret
            exact ⟨by first | rfl | (rw [hr]; rfl), 0, _, grow_more0 HO.out _⟩
          · have hd3 : decide (a ≤ b) = false := by simp; omega
            have hr : r = false := by rw [← HR.out]; rw [decide_eq_false_iff_not, whole_iff]; omega
            go_wp2
            go_ret
            exact ⟨by first | rfl | (rw [hr]; rfl), 0, _, grow_more0 HO.out _⟩
        · have hd2 : decide (b ≤ 1114111) = false := by simp; omega
          have hm' : Hid (∀ j, j < 2 → ¬ (blkLo j ≤ a ∧ b ≤ blkHi j)) := fun j hj => by
            by_cases e : j = 1
            · subst e; simp only [blkLo, blkHi]; omega
            · exact hm.out j (by omega)
          go_wp2
          exact ⟨⟨2, rfl, by omega, hm', _, grow_more HO.out _⟩, by simp [intOf]⟩
      · have hd1 : decide (57344 ≤ a) = false := by simp; omega
        have hm' : Hid (∀ j, j < 2 → ¬ (blkLo j ≤ a ∧ b ≤ blkHi j)) := fun j hj => by
          by_cases e : j = 1
          · subst e; simp only [blkLo, blkHi]; omega
          · exact hm.out j (by omega)
        go_wp2
        exact ⟨⟨2, rfl, by omega, hm', _, grow_more HO.out _⟩, by simp [intOf]⟩
    · have hix := idx2
      by_cases h1 : 1114240 ≤ a
      · by_cases h2 : b ≤ 1114367
        · by_cases h3 : a ≤ b
          · have hr : r = true := by rw [← HR.out]; rw [decide_eq_true_eq, whole_iff]; omega
            go_wp2
            go_ret
            exact ⟨by first | rfl | (rw [hr]; rfl), 0, _, grow_more0 HO.out _⟩
          · have hd3 : decide (a ≤ b) = false := by simp; omega
            have hr : r = false := by rw [← HR.out]; rw [decide_eq_false_iff_not, whole_iff]; omega
            go_wp2
            go_ret
            exact ⟨by first | rfl | (rw [hr]; rfl), 0, _, grow_more0 HO.out _⟩
        · have hd2 : decide (b ≤ 1114367) = false := by simp; omega
          have hm' : Hid (∀ j, j < 3 → ¬ (blkLo j ≤ a ∧ b ≤ blkHi j)) := fun j hj => by
            by_cases e : j = 2
            · subst e; simp only [blkLo, blkHi]; omega
            · exact hm.out j (by omega)
          go_wp2
          exact ⟨⟨3, rfl, by omega, hm', _, grow_more HO.out _⟩, by simp [intOf]⟩
      · have hd1 : decide (1114240 ≤ a) = false := by simp; omega
        have hm' : Hid (∀ j, j < 3 → ¬ (blkLo j ≤ a ∧ b ≤ blkHi j)) := fun j hj => by
          by_cases e : j = 2
          · subst e; simp only [blkLo, blkHi]; omega
          · exact hm.out j (by omega)
        go_wp2
        exact ⟨⟨3, rfl, by omega, hm', _, grow_more HO.out _⟩, by simp [intOf]⟩
    · have hr : r = false := by
        rw [← HR.out]
        have m0 := hm.out 0 (by omega)
        have m1 := hm.out 1 (by omega)
        have m2 := hm.out 2 (by omega)
        simp only [blkLo, blkHi] at m0 m1 m2
        rw [decide_eq_false_iff_not, whole_iff]; omega
      go_wp2
      go_ret
      exact ⟨by first | rfl | (rw [hr]; rfl), 0, _, grow_same0 HO.out⟩
end Go.Proofs
namespace Go.Proofs
open Go.RowKit Go.Shelf

set_option maxRecDepth 100000
attribute [local go_sem] Oper.semAt_some
attribute [local go_sem ↓] Go.wp_at_zero Go.wp_at_succ
theorem Tab.drew {w : World} (h : Tab w) : Tab w.drew := fun j v hv => (cell_drew_own _ _).trans (h j v hv)
/-- the range at a place -/
def rg (l : List (Int × Int)) (j : Nat) : Int × Int := l[j]?.getD (0, 0)
theorem rg_lt {l : List (Int × Int)} {j : Nat} (h : j < l.length) : rg l j = l[j] := by simp [rg, h]
/-- ranges of units that rise and are apart -/
def Good (l : List (Int × Int)) : Prop := (∀ x ∈ l, Whole x) ∧ l.Pairwise (fun x y => x.2 + 2 ≤ y.1)
instance (l : List (Int × Int)) : Decidable (Good l) := by unfold Good; infer_instance
theorem good_nil : Good [] := ⟨by simp, by simp⟩
theorem good_take {l : List (Int × Int)} (h : Good l) (k : Nat) : Good (l.take k) := ⟨fun x hx => h.1 x (List.mem_of_mem_take hx), h.2.sublist (List.take_sublist _ _)⟩
theorem good_succ {l : List (Int × Int)} {k : Nat} (hk : k < l.length) : Good (l.take (k + 1)) ↔ Good (l.take k) ∧ Whole (rg l k) ∧ (0 < k → (rg l (k - 1)).2 + 2 ≤ (rg l k).1) := by
  rw [List.take_succ_eq_append_getElem hk, rg_lt hk]
  constructor
  · rintro ⟨h1, h2⟩
    rw [List.pairwise_append] at h2
    refine ⟨⟨fun x hx => h1 x (List.mem_append_left _ hx), h2.1⟩, h1 _ (List.mem_append_right _ (by simp)), fun h0 => ?_⟩
    rw [rg_lt (show k - 1 < l.length by omega)]
    exact h2.2.2 _ (by rw [List.mem_take_iff_getElem]; exact ⟨k - 1, by omega, rfl⟩) _ (by simp)
  · rintro ⟨⟨h1, h2⟩, h3, h4⟩
    refine ⟨fun x hx => ?_, ?_⟩
    · rw [List.mem_append, List.mem_singleton] at hx
      rcases hx with hx | rfl
      · exact h1 x hx
      · exact h3
    · rw [List.pairwise_append]
      refine ⟨h2, by simp, fun x hx y hy => ?_⟩
      rw [List.mem_singleton] at hy
      subst hy
      rw [List.mem_take_iff_getElem] at hx
      obtain ⟨j, hj, rfl⟩ := hx
      have h5 := h4 (by omega)
      rw [rg_lt (show k - 1 < l.length by omega)] at h5
      by_cases e : j = k - 1
      · subst e; exact h5
      · have h6 := List.pairwise_iff_getElem.1 h2 j (k - 1) (by simp; omega) (by simp; omega) (by omega)
        have h7 := h1 l[k - 1] (by rw [List.mem_take_iff_getElem]; exact ⟨k - 1, by omega, rfl⟩)
        simp only [List.getElem_take] at h6
        have h8 := h7.1
        omega
/-- a slice value that reads as these ranges -/
def Reads (w : World) (g o : Nat) (l : List (Int × Int)) : Prop := ∀ j, j < l.length → w.cell? ⟨g, o + j * 2, none⟩ = some (.int .i64 (rg l j).1) ∧ w.cell? ⟨g, o + j * 2 + 1, none⟩ = some (.int .i64 (rg l j).2)
def Rs (w : World) (v : Value) (l : List (Int × Int)) : Prop :=
  ∃ (a : Option Addr) (cap : Nat), v = .slice a l.length cap ∧ l.length ≤ cap ∧ (l = [] ∨ ∃ g o, a = some ⟨g, o, none⟩ ∧ Reads w g o l)
theorem Reads.lt {w : World} {g o : Nat} {l : List (Int × Int)} (h : Reads w g o l) (h0 : l ≠ []) : g < w.heap.size := by
  obtain ⟨ob, ho, _⟩ := cells_of_cell (h 0 (List.length_pos_iff.2 h0)).1
  exact (Array.getElem?_eq_some_iff.1 ho).1
theorem Reads.below {w w' : World} {n g o : Nat} {l : List (Int × Int)} (h : Reads w g o l) (hb : Below n w w') (hn : g < n) : Reads w' g o l := fun j hj =>
  ⟨(hb.cell (p := ⟨g, o + j * 2, none⟩) hn).trans (h j hj).1, (hb.cell (p := ⟨g, o + j * 2 + 1, none⟩) hn).trans (h j hj).2⟩
theorem Rs.below {w w' : World} {n : Nat} {v : Value} {l : List (Int × Int)} (h : Rs w v l) (hb : Below n w w') (hn : w.heap.size ≤ n) : Rs w' v l := by
  obtain ⟨a, cap, rfl, hcp, h | ⟨g, o, rfl, hc⟩⟩ := h
  · exact ⟨a, cap, rfl, hcp, .inl h⟩
  · by_cases h0 : l = []
    · exact ⟨_, cap, rfl, hcp, .inl h0⟩
    · exact ⟨_, cap, rfl, hcp, .inr ⟨g, o, rfl, hc.below hb (by have := hc.lt h0; omega)⟩⟩
/-- what Valid tells -/
def validB (l : List (Int × Int)) : Bool := decide (l.length ≤ 512 ∧ Good l)
theorem validB_iff (l : List (Int × Int)) : validB l = true ↔ l.length ≤ 512 ∧ Good l := by simp [validB]
theorem validB_no {l : List (Int × Int)} (h : ¬ (l.length ≤ 512 ∧ Good l)) : validB l = false := by simp only [validB, decide_eq_false_iff_not]; exact h
set_option maxHeartbeats 1000000 in
theorem valid_many (a : Option Addr) (n c : Nat) (w : World) (hn : 512 < n) : Calls Tryd.prog 88 #[.slice a n c] w fun e w' => e = .returned (.bool false) ∧ Grown w w' := by
  have h1 : (512 : Int) < (n : Int) := by omega
  go_enter Tryd.func88, Tryd.ntmps88
  go_wp2
  go_ret
  exact ⟨rfl, Grown.refl _⟩
set_option maxHeartbeats 1000000 in
theorem valid_nil (a : Option Addr) (c : Nat) (w : World) : Calls Tryd.prog 88 #[.slice a 0 c] w fun e w' => e = .returned (.bool (validB [])) ∧ Grown w w' := by
  have hv : validB [] = true := by decide
  rw [hv]
  go_enter Tryd.func88, Tryd.ntmps88
  go_wp2
  go_loopw [10] (fun vi wr => vi = .int .i64 0 ∧ wr = w) (fun _ _ => 0)
  case atStart => exact ⟨rfl, rfl⟩
  case round =>
    obtain ⟨rfl, rfl⟩ := hrel
    go_wp2
    go_ret
    exact ⟨rfl, Grown.refl _⟩
set_option maxHeartbeats 1000000 in
theorem valid_walk (g o c : Nat) (l : List (Int × Int)) (w : World) (hT : Tab w) (hn : l.length ≤ 512) (h : Reads w g o l) :
    Calls Tryd.prog 88 #[.slice (some ⟨g, o, none⟩) l.length c] w fun e w' => e = .returned (.bool (validB l)) ∧ Grown w w' := by
  obtain ⟨n, hnn⟩ : ∃ n, l.length = n := ⟨_, rfl⟩
  have HN : Hid (l.length = n) := hnn
  rw [hnn] at hn ⊢
  obtain ⟨r, hr⟩ : ∃ r : Bool, validB l = r := ⟨_, rfl⟩
  have HR : Hid (validB l = r) := hr
  rw [hr]
  clear hr hnn
  have hn' : ¬ (512 : Int) < (n : Int) := by omega
  have HH : Hid (Reads w g o l) := h
  have hm := mixed
  clear h
  go_enter Tryd.func88, Tryd.ntmps88
  go_wp2
  go_loopw [10] (fun vi wr => ∃ k : Nat, vi = .int .i64 k ∧ k ≤ n ∧ Hid (Good (l.take k)) ∧ Grown w wr) (fun vi _ => n - (intOf vi).toNat)
  case atStart => exact ⟨0, rfl, by omega, good_nil, Grown.refl _⟩
  case round =>
    obtain ⟨k, rfl, hk, hG, hB⟩ := hrel
    by_cases hlt : k < n
    · have hlt' : (k : Int) < (n : Int) := by omega
      have hpos : (0 : Int) ≤ (k : Int) := by omega
      have hkl : k < l.length := by rw [HN.out]; exact hlt
      obtain ⟨a, b, hab⟩ : ∃ a b : Int, rg l k = (a, b) := ⟨_, _, rfl⟩
      obtain ⟨ca, cb⟩ := HH.out k hkl
      rw [hab] at ca cb
      simp only at ca cb
      have ca := hB.cellv ca
      have cb := hB.cellv cb
      have HT : Hid (∀ m os, Tab (Go.Sort.grow ((wr.alloc (.cells #[.int .i64 a, .int .i64 b] 84)).drewN m) os)) := fun m os => (hT.grown hB).grown (((Grown.refl _).alloc _).quiet m os)
      have hS : Hid (Good (l.take (k + 1)) ↔ Good (l.take k) ∧ Whole (a, b) ∧ (0 < k → (rg l (k - 1)).2 + 2 ≤ a)) := by have := good_succ hkl; rw [hab] at this; exact this
      have e0 : ∀ m os, (Go.Sort.grow ((wr.alloc (.cells #[.int .i64 a, .int .i64 b] 84)).drewN m) os).cell? ⟨wr.heap.size, 0, none⟩ = some (.int .i64 a) := fun m os => cell_grown (by simp) (by simp) m os
      have e1 : ∀ m os, (Go.Sort.grow ((wr.alloc (.cells #[.int .i64 a, .int .i64 b] 84)).drewN m) os).cell? ⟨wr.heap.size, 1, none⟩ = some (.int .i64 b) := fun m os => cell_grown (by simp) (by simp) m os
      clear hab
      by_cases hw : Whole (a, b)
      · have HW : Hid (decide (Whole (a, b)) = true) := decide_eq_true hw
        have HC : Hid (∀ m os, Calls Tryd.prog 96 #[.agg #[.int .i64 a, .int .i64 b]] (Go.Sort.grow ((wr.alloc (.cells #[.int .i64 a, .int .i64 b] 84)).drewN m) os) fun e w' => e = .returned (.bool true) ∧ Grown (Go.Sort.grow ((wr.alloc (.cells #[.int .i64 a, .int .i64 b] 84)).drewN m) os) w') := fun m os => by have := whole_any a b _ (HT.out m os); rw [HW.out] at this; exact this
        have HW2 : Hid (Whole (a, b)) := hw
        clear HW HT
        clear hw
        by_cases h0 : k = 0
        · have HS : Hid (Good (l.take (k + 1))) := hS.out.2 ⟨hG.out, HW2.out, fun h => by omega⟩
          subst h0
          rw [Nat.zero_mul, Nat.add_zero] at ca cb
          clear hS hG HW2
          go_wp2
          refine wp_region_quiet_grown hm (by kernel_rfl) ?_
          repeat (go_big_quiet_step ((go_at_call 96; exact grown_of (HC.out _ _))))
          refine wpQuiet_nil ?_
          intro _ hw'
          obtain ⟨⟨nq, osq⟩, hw''⟩ := hw'
          subst hw''
          go_wp2
          exact ⟨⟨1, rfl, by omega, HS, (hB.alloc _).quiet _ _⟩, by simp [intOf]; omega⟩
        · obtain ⟨j, hj⟩ : ∃ j, k = j + 1 := ⟨k - 1, by omega⟩
          have hjl : j < l.length := by omega
          have hq : (k : Int) - 1 = (j : Int) := by omega
          have hk1 : (0 : Int) < (k : Int) := by omega
          have hk2 : 0 < k := by omega
          have hj0 : (0 : Int) ≤ (j : Int) := by omega
          have hj1 : (j : Int) < (n : Int) := by omega
          obtain ⟨p, hp⟩ : ∃ p, (rg l j).2 = p := ⟨_, rfl⟩
          have cp := hB.cellv (HH.out j hjl).2
          rw [hp] at cp
          have e2 : ∀ m os, (Go.Sort.grow ((wr.alloc (.cells #[.int .i64 a, .int .i64 b] 84)).drewN m) os).cell? ⟨g, o + j * 2 + 1, none⟩ = some (.int .i64 p) := fun m os => (((Grown.refl _).alloc _).quiet m os).cellv cp
          have hpw : Whole (rg l j) := by
            refine hG.out.1 _ ?_
            rw [rg_lt hjl, List.mem_take_iff_getElem]
            exact ⟨j, by omega, rfl⟩
          have ha0 : 0 ≤ a ∧ a ≤ 1114367 := by have := HW2.out; rw [whole_iff] at this; omega
          have hp0 : 0 ≤ p ∧ p ≤ 1114367 := by have h1 := hpw.1; have h2 := hpw.2; rw [hp] at h1 h2; omega
          have hS' : Hid (Good (l.take (k + 1)) ↔ p + 2 ≤ a) := by
            have := hS.out
            rw [show k - 1 = j by omega, hp] at this
            rw [this]
            exact ⟨fun h => h.2.2 (by omega), fun h => ⟨hG.out, HW2.out, fun _ => h⟩⟩
          obtain ⟨ha1, ha2⟩ := ha0
          obtain ⟨hp1, hp2⟩ := hp0
          clear hS hG HW2 hp hpw cp hjl
          have HJ : Hid (k = j + 1) := hj
          clear hj h0
          by_cases h2 : a - p < 2
          · go_wp2
            refine wp_region_quiet_grown hm (by kernel_rfl) ?_
            repeat (go_big_quiet_step ((go_at_call 96; exact grown_of (HC.out _ _))))
            refine wpQuiet_nil ?_
            intro _ hw'
            obtain ⟨⟨nq, osq⟩, hw''⟩ := hw'
            subst hw''
            go_wp2
            go_ret
            have hrf : r = false := by
              rw [← HR.out]
              refine validB_no fun hv => ?_
              have := hS'.out.1 (good_take hv.2 (k + 1))
              omega
            exact ⟨by first | rfl | (rw [hrf]; rfl), (hB.alloc _).quiet _ _⟩
          · have hd2 : decide (a - p < 2) = false := by simp; omega
            go_wp2
            refine wp_region_quiet_grown hm (by kernel_rfl) ?_
            repeat (go_big_quiet_step ((go_at_call 96; exact grown_of (HC.out _ _))))
            refine wpQuiet_nil ?_
            intro _ hw'
            obtain ⟨⟨nq, osq⟩, hw''⟩ := hw'
            subst hw''
            go_wp2
            exact ⟨⟨k + 1, by go_num, by omega, hS'.out.2 (by omega), (hB.alloc _).quiet _ _⟩, by simp [intOf]; omega⟩
      · have HW : Hid (decide (Whole (a, b)) = false) := decide_eq_false hw
        have HC : Hid (∀ m os, Calls Tryd.prog 96 #[.agg #[.int .i64 a, .int .i64 b]] (Go.Sort.grow ((wr.alloc (.cells #[.int .i64 a, .int .i64 b] 84)).drewN m) os) fun e w' => e = .returned (.bool false) ∧ Grown (Go.Sort.grow ((wr.alloc (.cells #[.int .i64 a, .int .i64 b] 84)).drewN m) os) w') := fun m os => by have := whole_any a b _ (HT.out m os); rw [HW.out] at this; exact this
        have hrf : r = false := by
          rw [← HR.out]
          refine validB_no fun hv => ?_
          exact hw (hS.out.1 (good_take hv.2 (k + 1))).2.1
        have HF : Hid (r = false) := hrf
        clear HW HT hw hS hG hrf
        go_wp2
        refine wp_region_quiet_grown hm (by kernel_rfl) ?_
        repeat (go_big_quiet_step ((go_at_call 96; exact grown_of (HC.out _ _))))
        refine wpQuiet_nil ?_
        intro _ hw'
        obtain ⟨⟨nq, osq⟩, hw''⟩ := hw'
        subst hw''
        go_wp2
        go_ret
        have hrf := HF.out
        exact ⟨by first | rfl | (rw [hrf]; rfl), (hB.alloc _).quiet _ _⟩
    · have hrt : r = true := by
        rw [← HR.out, validB_iff, HN.out]
        have := hG.out
        rw [List.take_of_length_le (by rw [HN.out]; omega)] at this
        exact ⟨hn, this⟩
      have HF : Hid (r = true) := hrt
      clear hG hrt
      go_wp2
      go_ret
      have hrf := HF.out
      exact ⟨by first | rfl | (rw [hrf]; rfl), hB⟩
theorem valid_any (v : Value) (l : List (Int × Int)) (w : World) (hT : Tab w) (h : Rs w v l) : Calls Tryd.prog 88 #[v] w fun e w' => e = .returned (.bool (validB l)) ∧ Grown w w' := by
  obtain ⟨a, cap, rfl, _, h⟩ := h
  by_cases hn : l.length ≤ 512
  · rcases h with rfl | ⟨g, o, rfl, h⟩
    · exact valid_nil a cap w
    · exact valid_walk g o cap l w hT hn h
  · rw [validB_no (fun h => hn h.1)]
    exact valid_many a l.length cap w (by omega)
end Go.Proofs
namespace Go.Proofs
open Go.RowKit Go.Shelf

set_option maxRecDepth 100000
attribute [local go_sem] Oper.semAt_some
/-! which range has a unit -/
def hasU (l : List (Int × Int)) (u : Int) : Prop := ∃ x ∈ l, x.1 ≤ u ∧ u ≤ x.2
instance (l : List (Int × Int)) (u : Int) : Decidable (hasU l u) := by unfold hasU; infer_instance
/-- how many ranges end ahead of a unit -/
def fnd (l : List (Int × Int)) (u : Int) : Nat := (List.range l.length).countP (fun i => !decide (u ≤ (rg l i).2))
theorem countP_first (p : Nat → Bool) (n : Nat) (h : ∀ a b, a ≤ b → b < n → p b = true → p a = true) : ∀ i, i < n → (p i = true ↔ i < (List.range n).countP p) := by
  induction n with
  | zero => intro i hi; omega
  | succ n ih =>
    intro i hi
    have ih' := ih (fun a b hab hb => h a b hab (by omega))
    rw [List.range_succ, List.countP_append]
    have hle : (List.range n).countP p ≤ n := by have := List.countP_le_length (p := p) (l := List.range n); simpa using this
    by_cases hp : p n = true
    · have hall : ∀ j, j < n → p j = true := fun j hj => h j n (by omega) (by omega) hp
      have hn : (List.range n).countP p = n := by
        have := List.countP_eq_length.2 (show ∀ a ∈ List.range n, p a = true from fun a ha => hall a (by simpa using ha))
        simpa using this
      have h1 : p i = true := h i n (by omega) (by omega) hp
      have hs : List.countP p [n] = 1 := by simp [hp]
      rw [hn, hs]
      exact ⟨fun _ => by omega, fun _ => h1⟩
    · have hs : List.countP p [n] = 0 := by simp [hp]
      rw [hs, Nat.add_zero]
      by_cases e : i = n
      · subst e
        exact ⟨fun h' => absurd h' hp, fun h' => by omega⟩
      · exact ih' i (by omega)
theorem good_rise {l : List (Int × Int)} (h : Good l) {i j : Nat} (hij : i < j) (hj : j < l.length) : (rg l i).2 + 2 ≤ (rg l j).1 := by
  rw [rg_lt hj, rg_lt (show i < l.length by omega)]
  exact List.pairwise_iff_getElem.1 h.2 i j (by omega) hj hij
theorem good_at {l : List (Int × Int)} (h : Good l) {i : Nat} (hi : i < l.length) : Whole (rg l i) := by
  rw [rg_lt hi]; exact h.1 _ (List.getElem_mem hi)
theorem fnd_lt {l : List (Int × Int)} (h : Good l) (u : Int) {i : Nat} (hi : i < l.length) : i < fnd l u ↔ (rg l i).2 < u := by
  unfold fnd
  rw [← countP_first (fun i => !decide (u ≤ (rg l i).2)) l.length ?_ i hi]
  · simp
  · intro a b hab hb hp
    by_cases e : a = b
    · subst e; exact hp
    · have h1 := good_rise h (show a < b by omega) hb
      have h2 := (good_at h hb).1
      simp at hp ⊢; omega
theorem fnd_le (l : List (Int × Int)) (u : Int) : fnd l u ≤ l.length := by
  unfold fnd
  have := List.countP_le_length (p := fun i => !decide (u ≤ (rg l i).2)) (l := List.range l.length)
  simpa using this
theorem hasU_iff (l : List (Int × Int)) (u : Int) : hasU l u ↔ ∃ i, i < l.length ∧ (rg l i).1 ≤ u ∧ u ≤ (rg l i).2 := by
  constructor
  · rintro ⟨x, hx, h⟩
    obtain ⟨i, hi, rfl⟩ := List.getElem_of_mem hx
    exact ⟨i, hi, by rw [rg_lt hi]; exact h⟩
  · rintro ⟨i, hi, h⟩
    rw [rg_lt hi] at h
    exact ⟨_, List.getElem_mem hi, h⟩
theorem hasU_end {l : List (Int × Int)} (h : Good l) {u : Int} (he : fnd l u = l.length) : ¬ hasU l u := by
  rw [hasU_iff]
  rintro ⟨i, hi, h1, h2⟩
  have := (fnd_lt h u hi).1 (by omega)
  omega
theorem hasU_in {l : List (Int × Int)} (h : Good l) {u : Int} (he : fnd l u < l.length) : hasU l u ↔ (rg l (fnd l u)).1 ≤ u := by
  have h0 : ¬ (rg l (fnd l u)).2 < u := fun k => by have := (fnd_lt h u he).2 k; omega
  rw [hasU_iff]
  constructor
  · rintro ⟨i, hi, h1, h2⟩
    by_cases e : i = fnd l u
    · subst e; exact h1
    · by_cases k : i < fnd l u
      · have := (fnd_lt h u hi).1 k; omega
      · have := good_rise h (show fnd l u < i by omega) hi
        have := (good_at h he).1
        omega
  · intro h1
    exact ⟨_, he, h1, by omega⟩
set_option maxHeartbeats 1000000 in
theorem closure69 (sb ub g o c n : Nat) (u y : Int) (i : Nat) (W : World) (hi : i < n)
    (hs : W.cell? ⟨sb, 0, none⟩ = some (.slice (some ⟨g, o, none⟩) n c)) (hu : W.cell? ⟨ub, 0, none⟩ = some (.int .i64 u)) (hc : W.cell? ⟨g, o + i * 2 + 1, none⟩ = some (.int .i64 y)) :
    Calls Tryd.prog 90 (#[.int .i64 i] ++ #[.pointer (some ⟨ub, 0, none⟩), .pointer (some ⟨sb, 0, none⟩)]) W fun e w' => e = .returned (.bool (decide (u ≤ y))) ∧ ∃ q, w' = W.drewN q := by
  have hiz : (i : Int) < (n : Int) := by omega
  have hi0 : (0 : Int) ≤ (i : Int) := by omega
  go_enter Tryd.func90, Tryd.ntmps90
  go_wp2
  go_quiet (fail)
  go_wp2
  go_ret
  exact ⟨by first | rfl | simp, _, rfl⟩
theorem search_any (sb ub : Nat) (a : Option Addr) (c : Nat) (l : List (Int × Int)) (u : Int) (W : World) (hG : Good l) (hn : l.length ≤ 512)
    (hs : W.cell? ⟨sb, 0, none⟩ = some (.slice a l.length c)) (hu : W.cell? ⟨ub, 0, none⟩ = some (.int .i64 u)) (hr : l = [] ∨ ∃ g o, a = some ⟨g, o, none⟩ ∧ Reads W g o l) :
    Calls Tryd.prog 89 #[.int .i64 l.length, .func (.func 90) #[] #[.pointer (some ⟨ub, 0, none⟩), .pointer (some ⟨sb, 0, none⟩)]] W fun e w' => e = .returned (.int .i64 (fnd l u)) ∧ Grown W w' := by
  have eg : ∀ args w, (callFunc 90 args).run Tryd.prog w = .ok (.enter 90 args) w := enters_of Tryd.func90 (by kernel_rfl) rfl
  exact Any.sort_Search Tryd.search 90 #[.pointer (some ⟨ub, 0, none⟩), .pointer (some ⟨sb, 0, none⟩)] l.length (fun i => decide (u ≤ (rg l i).2)) W eg (by omega)
    (fun m os i hi => by
      obtain ⟨g, o, rfl, hr2⟩ := hr.resolve_left (fun e => by rw [e] at hi; simp at hi)
      have hg : Grown W (Go.Sort.grow (W.drewN m) os) := ⟨m, os, rfl⟩
      exact (closure69 sb ub g o c l.length u _ i _ hi (hg.cellv hs) (hg.cellv hu) (hg.cellv (hr2 i hi).2)).mono fun _ _ ⟨he, q, hq⟩ => ⟨he, q, #[], by rw [hq, Go.Sort.grow_empty]⟩)
    (fun x y hxy hy h => by
      by_cases e : x = y
      · subst e; exact h
      · have h1 := good_rise hG (show x < y by omega) hy
        have h2 := (good_at hG hy).1
        simp at h ⊢; omega)
set_option maxHeartbeats 1000000 in
theorem find_bad (v : Value) (l : List (Int × Int)) (u : Int) (w : World) (hT : Tab w) (h : Rs w v l) (hv : validB l = false) : Calls Tryd.prog 78 #[v, .int .i64 u] w fun e w' => e = .returned (.tuple #[.int .i64 0, .bool false]) ∧ Grown w w' := by
  have hg : Grown w ((w.alloc (.cells #[v] 59)).alloc (.cells #[.int .i64 u] 3)) := ((Grown.refl _).alloc _).alloc _
  have HC : Hid (Calls Tryd.prog 88 #[v] ((w.alloc (.cells #[v] 59)).alloc (.cells #[.int .i64 u] 3)) fun e w' => e = .returned (.bool false) ∧ Grown ((w.alloc (.cells #[v] 59)).alloc (.cells #[.int .i64 u] 3)) w') := by
    have := valid_any v l _ (hT.grown hg) (h.below hg.below (Nat.le_refl _))
    rw [hv] at this; exact this
  have hd : ∀ o, ((w.alloc (.cells #[v] 59)).alloc o).cell? ⟨w.heap.size, 0, none⟩ = some v := fun o => cell_up (by simp) o
  obtain ⟨a, cap, rfl, _, h⟩ := h
  clear h hv
  go_enter Tryd.func78, Tryd.ntmps78
  go_wp2_with (go_at_call 88; refine HC.out.mono ?_; rintro e w' ⟨rfl, hb⟩)
  go_ret2
  exact ⟨rfl, hg.trans hb⟩
set_option maxHeartbeats 1000000 in
theorem find_end (a : Option Addr) (c : Nat) (l : List (Int × Int)) (u : Int) (w : World) (hT : Tab w) (h : Rs w (.slice a l.length c) l) (hv : validB l = true) (he : fnd l u = l.length) : Calls Tryd.prog 78 #[.slice a l.length c, .int .i64 u] w fun e w' => e = .returned (.tuple #[.int .i64 l.length, .bool false]) ∧ Grown w w' := by
  obtain ⟨n, hn⟩ : ∃ n, l.length = n := ⟨_, rfl⟩
  obtain ⟨v, hvv⟩ : ∃ v, Value.slice a l.length c = v := ⟨_, rfl⟩
  have hg : Grown w ((w.alloc (.cells #[v] 59)).alloc (.cells #[.int .i64 u] 3)) := ((Grown.refl _).alloc _).alloc _
  have HC : Hid (Calls Tryd.prog 88 #[v] ((w.alloc (.cells #[v] 59)).alloc (.cells #[.int .i64 u] 3)) fun e w' => e = .returned (.bool true) ∧ Grown ((w.alloc (.cells #[v] 59)).alloc (.cells #[.int .i64 u] 3)) w') := by
    have := valid_any v l _ (hT.grown hg) ((show Rs w v l by rw [← hvv]; exact h).below hg.below (Nat.le_refl _))
    rw [hv] at this; exact this
  have hd : ((w.alloc (.cells #[v] 59)).alloc (.cells #[.int .i64 u] 3)).cell? ⟨w.heap.size, 0, none⟩ = some v := cell_up (by simp) _
  have hd2 : ((w.alloc (.cells #[v] 59)).alloc (.cells #[.int .i64 u] 3)).cell? ⟨w.heap.size + 1, 0, none⟩ = some (.int .i64 u) := by simp
  have HS : Hid (∀ W, Grown ((w.alloc (.cells #[v] 59)).alloc (.cells #[.int .i64 u] 3)) W → Calls Tryd.prog 89 #[.int .i64 n, .func (.func 90) #[] #[.pointer (some ⟨w.heap.size + 1, 0, none⟩), .pointer (some ⟨w.heap.size, 0, none⟩)]] W fun e w' => e = .returned (.int .i64 n) ∧ Grown W w') := fun W hW => by
    have hv' := (validB_iff l).1 hv
    obtain ⟨a', cap', hs', _, h'⟩ := h.below (hg.trans hW).below (Nat.le_refl _)
    cases hs'
    have := search_any w.heap.size (w.heap.size + 1) a c l u W hv'.2 hv'.1 (by rw [hvv]; exact hW.cellv hd) (hW.cellv hd2) h'
    rw [he, hn] at this; exact this
  have HV : Hid (Value.slice a n c = v) := by rw [hn] at hvv; exact hvv
  have hnn : n ≤ 512 := by rw [← hn]; exact ((validB_iff l).1 hv).1
  rw [hn]
  clear h hv he hvv hn
  obtain rfl := HV.out
  clear HV
  have hd3 : ∀ W, Grown ((w.alloc (.cells #[.slice a n c] 59)).alloc (.cells #[.int .i64 u] 3)) W → W.cell? ⟨w.heap.size, 0, none⟩ = some (.slice a n c) := fun W hW => hW.cellv hd
  have HD : Hid (∀ W, Grown ((w.alloc (.cells #[.slice a n c] 59)).alloc (.cells #[.int .i64 u] 3)) W → W.cell? ⟨w.heap.size, 0, none⟩ = some (.slice a n c)) := hd3
  clear hd3
  go_enter Tryd.func78, Tryd.ntmps78
  go_wp2_with fail
  refine HC.out.mono ?_
  rintro e w1 ⟨rfl, hb1⟩
  have k1 := HD.out w1 hb1
  go_wp2_with fail
  refine (HS.out w1 hb1).mono ?_
  rintro e w2 ⟨rfl, hb2⟩
  have k2 := HD.out w2 (hb1.trans hb2)
  clear hd k1
  go_wp2
  go_quiet (fail)
  go_wp2
  go_ret2
  exact ⟨rfl, ((hg.trans hb1).trans hb2).drewN _⟩
set_option maxHeartbeats 1000000 in
theorem find_in (g o c : Nat) (l : List (Int × Int)) (u : Int) (w : World) (hT : Tab w) (h : Rs w (.slice (some ⟨g, o, none⟩) l.length c) l) (hv : validB l = true) (he : fnd l u < l.length) : Calls Tryd.prog 78 #[.slice (some ⟨g, o, none⟩) l.length c, .int .i64 u] w fun e w' => e = .returned (.tuple #[.int .i64 (fnd l u), .bool (decide ((rg l (fnd l u)).1 ≤ u))]) ∧ Grown w w' := by
  obtain ⟨k, hk⟩ : ∃ k, fnd l u = k := ⟨_, rfl⟩
  obtain ⟨y, hy⟩ : ∃ y, (rg l k).1 = y := ⟨_, rfl⟩
  obtain ⟨n, hn⟩ : ∃ n, l.length = n := ⟨_, rfl⟩
  obtain ⟨v, hvv⟩ : ∃ v, Value.slice (some ⟨g, o, none⟩) l.length c = v := ⟨_, rfl⟩
  have hg : Grown w ((w.alloc (.cells #[v] 59)).alloc (.cells #[.int .i64 u] 3)) := ((Grown.refl _).alloc _).alloc _
  have HC : Hid (Calls Tryd.prog 88 #[v] ((w.alloc (.cells #[v] 59)).alloc (.cells #[.int .i64 u] 3)) fun e w' => e = .returned (.bool true) ∧ Grown ((w.alloc (.cells #[v] 59)).alloc (.cells #[.int .i64 u] 3)) w') := by
    have := valid_any v l _ (hT.grown hg) ((show Rs w v l by rw [← hvv]; exact h).below hg.below (Nat.le_refl _))
    rw [hv] at this; exact this
  have hd : ((w.alloc (.cells #[v] 59)).alloc (.cells #[.int .i64 u] 3)).cell? ⟨w.heap.size, 0, none⟩ = some v := cell_up (by simp) _
  have hd2 : ((w.alloc (.cells #[v] 59)).alloc (.cells #[.int .i64 u] 3)).cell? ⟨w.heap.size + 1, 0, none⟩ = some (.int .i64 u) := by simp
  have HS : Hid (∀ W, Grown ((w.alloc (.cells #[v] 59)).alloc (.cells #[.int .i64 u] 3)) W → Calls Tryd.prog 89 #[.int .i64 n, .func (.func 90) #[] #[.pointer (some ⟨w.heap.size + 1, 0, none⟩), .pointer (some ⟨w.heap.size, 0, none⟩)]] W fun e w' => e = .returned (.int .i64 k) ∧ Grown W w') := fun W hW => by
    have hv' := (validB_iff l).1 hv
    obtain ⟨a', cap', hs', _, h'⟩ := h.below (hg.trans hW).below (Nat.le_refl _)
    cases hs'
    have := search_any w.heap.size (w.heap.size + 1) (some ⟨g, o, none⟩) c l u W hv'.2 hv'.1 (by rw [hvv]; exact hW.cellv hd) (hW.cellv hd2) h'
    rw [hk, hn] at this; exact this
  have HV : Hid (Value.slice (some ⟨g, o, none⟩) n c = v) := by rw [hn] at hvv; exact hvv
  have hnn : n ≤ 512 := by rw [← hn]; exact ((validB_iff l).1 hv).1
  have HR : Hid (∀ W, Grown w W → W.cell? ⟨g, o + k * 2, none⟩ = some (.int .i64 y)) := fun W hW => by
    obtain ⟨a', cap', hs', _, h'⟩ := h
    cases hs'
    rcases h' with rfl | ⟨g', o', hgo, h'⟩
    · simp at he
    · cases hgo
      have := (h' k (by omega)).1
      rw [hy] at this
      exact hW.cellv this
  have hkn : (k : Int) < (n : Int) := by omega
  have hk0 : (0 : Int) ≤ (k : Int) := by omega
  rw [hn, hk, hy]
  clear h hv he hvv hn hk hy
  obtain rfl := HV.out
  clear HV
  have hd3 : ∀ W, Grown ((w.alloc (.cells #[.slice (some ⟨g, o, none⟩) n c] 59)).alloc (.cells #[.int .i64 u] 3)) W → W.cell? ⟨w.heap.size, 0, none⟩ = some (.slice (some ⟨g, o, none⟩) n c) := fun W hW => hW.cellv hd
  have HD : Hid (∀ W, Grown ((w.alloc (.cells #[.slice (some ⟨g, o, none⟩) n c] 59)).alloc (.cells #[.int .i64 u] 3)) W → W.cell? ⟨w.heap.size, 0, none⟩ = some (.slice (some ⟨g, o, none⟩) n c)) := hd3
  clear hd3
  go_enter Tryd.func78, Tryd.ntmps78
  go_wp2_with fail
  refine HC.out.mono ?_
  rintro e w1 ⟨rfl, hb1⟩
  have k1 := HD.out w1 hb1
  go_wp2_with fail
  refine (HS.out w1 hb1).mono ?_
  rintro e w2 ⟨rfl, hb2⟩
  have k2 := HD.out w2 (hb1.trans hb2)
  have k3 := HR.out w2 ((hg.trans hb1).trans hb2)
  have k4 := (hb1.trans hb2).cellv hd2
  clear hd hd2 k1
  go_wp2
  go_quiet (fail)
  go_wp2
  go_ret2
  exact ⟨rfl, ((hg.trans hb1).trans hb2).drewN _⟩
/-- what find tells -/
theorem find_any (v : Value) (l : List (Int × Int)) (u : Int) (w : World) (hT : Tab w) (h : Rs w v l) : Calls Tryd.prog 78 #[v, .int .i64 u] w fun e w' => e = .returned (.tuple #[.int .i64 (if validB l then (fnd l u : Int) else 0), .bool (validB l && decide (hasU l u))]) ∧ Grown w w' := by
  by_cases hv : validB l = true
  · have hG := ((validB_iff l).1 hv).2
    simp only [hv, if_true, Bool.true_and]
    have h0 := h
    obtain ⟨a, c, rfl, _, hr⟩ := h
    by_cases he : fnd l u = l.length
    · rw [decide_eq_false (hasU_end hG he), he]
      exact find_end a c l u w hT h0 hv he
    · have he' : fnd l u < l.length := by have := fnd_le l u; omega
      rcases hr with rfl | ⟨g, o, rfl, hr⟩
      · simp at he'
      · have hd : decide (hasU l u) = decide ((rg l (fnd l u)).1 ≤ u) := by simp only [hasU_in hG he']
        rw [hd]
        exact find_in g o c l u w hT h0 hv he'
  · have hv' : validB l = false := by simpa using hv
    simp only [hv']
    exact find_bad v l u w hT h hv'
end Go.Proofs
namespace Go.Proofs
open Go.RowKit Go.Shelf

set_option maxRecDepth 100000
attribute [local go_sem] Oper.semAt_some
set_option maxHeartbeats 1000000 in
theorem has_any (v : Value) (l : List (Int × Int)) (u : Int) (w : World) (hT : Tab w) (h : Rs w v l) : Calls Tryd.prog 58 #[v, .int .i64 u] w fun e w' => e = .returned (.bool (validB l && decide (hasU l u))) ∧ Grown w w' := by
  have HC : Hid (Calls Tryd.prog 78 #[v, .int .i64 u] w fun e w' => e = .returned (.tuple #[.int .i64 (if validB l then (fnd l u : Int) else 0), .bool (validB l && decide (hasU l u))]) ∧ Grown w w') := find_any v l u w hT h
  generalize (if validB l then (fnd l u : Int) else 0) = a at HC
  generalize (validB l && decide (hasU l u)) = b at HC ⊢
  clear h
  go_enter Tryd.func58, Tryd.ntmps58
  go_wp2_with (go_at_call 78; refine HC.out.mono ?_; rintro e w' ⟨rfl, hb⟩)
  go_ret
  exact ⟨rfl, hb⟩
/-! how many units -/
def tot (l : List (Int × Int)) : Int := (l.map fun x => x.2 - x.1 + 1).sum
theorem tot_nil : tot [] = 0 := rfl
theorem tot_cons (x : Int × Int) (l : List (Int × Int)) : tot (x :: l) = (x.2 - x.1 + 1) + tot l := by simp [tot]
theorem tot_snoc (l : List (Int × Int)) (x : Int × Int) : tot (l ++ [x]) = tot l + (x.2 - x.1 + 1) := by simp [tot]
theorem tot_succ {l : List (Int × Int)} {k : Nat} (hk : k < l.length) : tot (l.take (k + 1)) = tot (l.take k) + ((rg l k).2 - (rg l k).1 + 1) := by
  rw [List.take_succ_eq_append_getElem hk, tot_snoc, rg_lt hk]
theorem tot_bound {l : List (Int × Int)} (h : ∀ x ∈ l, Whole x) : 0 ≤ tot l ∧ tot l ≤ l.length * 1114368 := by
  induction l with
  | nil => simp [tot]
  | cons x l ih =>
    have h1 := ih (fun y hy => h y (by simp [hy]))
    have h2 := h x (by simp)
    obtain ⟨h3, h4⟩ := h2
    rw [tot_cons]
    simp only [List.length_cons, Int.natCast_add, Int.natCast_one]
    omega
set_option maxHeartbeats 1000000 in
theorem count_walk (g o c : Nat) (l : List (Int × Int)) (w : World) (hn : l.length ≤ 512) (hW : ∀ x ∈ l, Whole x) (h : Reads w g o l) :
    Calls Tryd.prog 97 #[.slice (some ⟨g, o, none⟩) l.length c] w fun e w' => e = .returned (.int .i64 (tot l)) ∧ Grown w w' := by
  obtain ⟨n, hnn⟩ : ∃ n, l.length = n := ⟨_, rfl⟩
  have HN : Hid (l.length = n) := hnn
  rw [hnn] at hn ⊢
  obtain ⟨r, hr⟩ : ∃ r : Int, tot l = r := ⟨_, rfl⟩
  have HR : Hid (tot l = r) := hr
  rw [hr]
  clear hr hnn
  have HH : Hid (Reads w g o l) := h
  have HW : Hid (∀ x ∈ l, Whole x) := hW
  clear h hW
  go_enter Tryd.func97, Tryd.ntmps97
  go_wp2
  go_loopw [3, 8] (fun vt vi wr => ∃ k : Nat, ∃ t : Int, vi = .int .i64 k ∧ vt = .int .i64 t ∧ k ≤ n ∧ Hid (tot (l.take k) = t) ∧ Grown w wr) (fun _ vi _ => n - (intOf vi).toNat)
  case atStart => exact ⟨0, 0, rfl, rfl, by omega, rfl, Grown.refl _⟩
  case round =>
    obtain ⟨k, t, rfl, rfl, hk, hTt, hB⟩ := hrel
    by_cases hlt : k < n
    · have hlt' : (k : Int) < (n : Int) := by omega
      have hpos : (0 : Int) ≤ (k : Int) := by omega
      have hkl : k < l.length := by rw [HN.out]; exact hlt
      obtain ⟨a, b, hab⟩ : ∃ a b : Int, rg l k = (a, b) := ⟨_, _, rfl⟩
      obtain ⟨ca, cb⟩ := HH.out k hkl
      rw [hab] at ca cb
      simp only at ca cb
      have ca := hB.cellv ca
      have cb := hB.cellv cb
      have hw : Whole (a, b) := by rw [← hab, rg_lt hkl]; exact HW.out _ (List.getElem_mem hkl)
      have hb0 : 0 ≤ t ∧ t ≤ 512 * 1114368 := by
        have := tot_bound (l := l.take k) (fun x hx => HW.out x (List.mem_of_mem_take hx))
        rw [hTt.out, List.length_take] at this
        omega
      obtain ⟨t1, t2⟩ := hb0
      have hab0 : a ≤ b ∧ 0 ≤ a ∧ b ≤ 1114367 := by rw [whole_iff] at hw; omega
      obtain ⟨a1, a2, a3⟩ := hab0
      have HS : Hid (tot (l.take (k + 1)) = t + (b - a + 1)) := by have := tot_succ hkl; rw [hTt.out, hab] at this; exact this
      clear hab hTt hw
      go_wp2
      exact ⟨⟨k + 1, t + (b - a + 1), by go_num, by go_num, by omega, HS, hB.alloc _⟩, by simp [intOf]; omega⟩
    · have hrf : t = r := by
        rw [← HR.out, ← hTt.out, List.take_of_length_le (by rw [HN.out]; omega)]
      have HF : Hid (t = r) := hrf
      clear hTt hrf
      go_wp2
      go_ret
      exact ⟨by rw [HF.out]; rfl, hB⟩
set_option maxHeartbeats 1000000 in
theorem count_nil (a : Option Addr) (c : Nat) (w : World) : Calls Tryd.prog 97 #[.slice a 0 c] w fun e w' => e = .returned (.int .i64 0) ∧ Grown w w' := by
  go_enter Tryd.func97, Tryd.ntmps97
  go_wp2
  go_loopw [3, 8] (fun vt vi wr => vi = .int .i64 0 ∧ vt = .int .i64 0 ∧ wr = w) (fun _ _ _ => 0)
  case atStart => exact ⟨rfl, rfl, rfl⟩
  case round =>
    obtain ⟨rfl, rfl, rfl⟩ := hrel
    go_wp2
    go_ret
    exact ⟨rfl, Grown.refl _⟩
theorem count_any (v : Value) (l : List (Int × Int)) (w : World) (hn : l.length ≤ 512) (hW : ∀ x ∈ l, Whole x) (h : Rs w v l) : Calls Tryd.prog 97 #[v] w fun e w' => e = .returned (.int .i64 (tot l)) ∧ Grown w w' := by
  obtain ⟨a, c, rfl, _, h⟩ := h
  rcases h with rfl | ⟨g, o, rfl, h⟩
  · exact count_nil a c w
  · exact count_walk g o c l w hn hW h
def lenU (l : List (Int × Int)) : Int := if validB l then tot l else 0
set_option maxHeartbeats 1000000 in
theorem len_any (v : Value) (l : List (Int × Int)) (w : World) (hT : Tab w) (h : Rs w v l) : Calls Tryd.prog 93 #[v] w fun e w' => e = .returned (.int .i64 (lenU l)) ∧ Grown w w' := by
  have HC : Hid (Calls Tryd.prog 88 #[v] w fun e w' => e = .returned (.bool (validB l)) ∧ Grown w w') := valid_any v l w hT h
  have HR : Hid (Rs w v l) := h
  clear h
  unfold lenU
  by_cases hv : validB l = true
  · have hv' := (validB_iff l).1 hv
    have HS : Hid (∀ W, Grown w W → Calls Tryd.prog 97 #[v] W fun e w' => e = .returned (.int .i64 (tot l)) ∧ Grown W w') := fun W hW => count_any v l W hv'.1 hv'.2.1 (HR.out.below hW.below (Nat.le_refl _))
    rw [hv] at HC
    rw [if_pos hv]
    generalize tot l = r at HS ⊢
    clear hv hv' HR
    go_enter Tryd.func93, Tryd.ntmps93
    go_wp2_with fail
    refine HC.out.mono ?_
    rintro e w1 ⟨rfl, hb1⟩
    go_wp2_with fail
    refine (HS.out _ hb1).mono ?_
    rintro e w2 ⟨rfl, hb2⟩
    go_wp2
    go_ret
    exact ⟨rfl, hb1.trans hb2⟩
  · have hv' : validB l = false := by simpa using hv
    rw [hv'] at HC
    rw [if_neg hv]
    clear hv hv' HR
    go_enter Tryd.func93, Tryd.ntmps93
    go_wp2_with fail
    refine HC.out.mono ?_
    rintro e w1 ⟨rfl, hb1⟩
    go_wp2
    go_ret
    exact ⟨rfl, hb1⟩
/-! Place -/
def placeU (l : List (Int × Int)) (u : Int) : Int := tot (l.take (fnd l u)) + u - (rg l (fnd l u)).1
theorem Reads.take {w : World} {g o : Nat} {l : List (Int × Int)} (h : Reads w g o l) (k : Nat) : Reads w g o (l.take k) := fun j hj => by
  rw [List.length_take] at hj
  have := h j (by omega)
  rwa [show rg (l.take k) j = rg l j by simp only [rg]; rw [List.getElem?_take_of_lt (by omega)]]
theorem Rs.take {w : World} {g o n c : Nat} {l : List (Int × Int)} (h : Rs w (.slice (some ⟨g, o, none⟩) n c) l) {k : Nat} (hk : k ≤ l.length) : Rs w (.slice (some ⟨g, o, none⟩) k k) (l.take k) := by
  obtain ⟨a, cap, hs, hcp, h⟩ := h
  refine ⟨some ⟨g, o, none⟩, k, by rw [List.length_take, Nat.min_eq_left hk], by rw [List.length_take]; omega, ?_⟩
  rcases h with rfl | ⟨g', o', rfl, h⟩
  · exact .inl (by simp)
  · cases hs; exact .inr ⟨g, o, rfl, h.take k⟩
/-! Nth -/
def nthL : List (Int × Int) → Int → Option Int
  | [], _ => none
  | x :: r, n => if n < x.2 - x.1 + 1 then some (x.1 + n) else nthL r (n - (x.2 - x.1 + 1))
theorem drop_rg {l : List (Int × Int)} {k : Nat} (hk : k < l.length) : l.drop k = rg l k :: l.drop (k + 1) := by
  rw [rg_lt hk, List.drop_eq_getElem_cons hk]
def nthU (l : List (Int × Int)) (n : Int) : Option Int := if n < 0 ∨ validB l = false then none else nthL l n
end Go.Proofs
namespace Go.Proofs
open Go.RowKit Go.Shelf

set_option maxRecDepth 100000
attribute [local go_sem] Oper.semAt_some
/-- the cells of ranges -/
def fl (l : List (Int × Int)) : List Value := l.flatMap fun x => [Value.int .i64 x.1, Value.int .i64 x.2]
theorem fl_append (l k : List (Int × Int)) : fl (l ++ k) = fl l ++ fl k := by simp [fl]
theorem fl_length (l : List (Int × Int)) : (fl l).length = l.length * 2 := by
  induction l with
  | nil => rfl
  | cons a l ih => simp [fl] at ih ⊢; omega
theorem fl_at (l : List (Int × Int)) {j : Nat} (hj : j < l.length) : (fl l)[j * 2]? = some (Value.int .i64 (rg l j).1) ∧ (fl l)[j * 2 + 1]? = some (Value.int .i64 (rg l j).2) := by
  induction l generalizing j with
  | nil => simp at hj
  | cons a l ih =>
    cases j with
    | zero => exact ⟨by simp [fl, rg], by simp [fl, rg]⟩
    | succ j =>
      have := ih (j := j) (by simpa using hj)
      rw [show (j + 1) * 2 = j * 2 + 1 + 1 by omega]
      simpa [fl, rg] using this
theorem fl_one (l : List (Int × Int)) : ∀ u ∈ fl l, u.oneCell' = true := by
  intro u hu
  simp only [fl, List.mem_flatMap] at hu
  obtain ⟨x, _, hx⟩ := hu
  simp only [List.mem_cons, List.not_mem_nil, or_false] at hx
  rcases hx with rfl | rfl <;> rfl
/-- a row of the call's own -/
def OwnR (w : World) (base : Nat) (v : Value) (l : List (Int × Int)) : Prop := w.ownsRow base 84 2 v l.length (fl l)
theorem OwnR.nil (w : World) (base : Nat) : OwnR w base (.slice none 0 0) [] := World.ownsRow_nil _ _ _ _
theorem add_zero_at (g j : Nat) : (⟨g, 0, none⟩ : Addr).add j = ⟨g, j, none⟩ := by
  unfold Addr.add
  by_cases h : j = 0
  · subst h; rfl
  · simp [h]
theorem OwnR.reads {w : World} {base g n cap : Nat} {l : List (Int × Int)} (h : OwnR w base (.slice (some ⟨g, 0, none⟩) n cap) l) : Reads w g 0 l := fun j hj => by
  have h1 := h.cells rfl
  have := fl_at l hj
  have a1 := h1 _ _ this.1
  have a2 := h1 _ _ this.2
  rw [add_zero_at] at a1 a2
  rw [Nat.zero_add]
  exact ⟨a1, a2⟩
theorem OwnR.rs {w : World} {base : Nat} {v : Value} {l : List (Int × Int)} (h : OwnR w base v l) : Rs w v l := by
  rcases h.2 with ⟨rfl, h0⟩ | ⟨g, cap, cur, rfl, _, _, hc, _⟩
  · have : l = [] := List.eq_nil_of_length_eq_zero h0
    subst this
    exact ⟨none, 0, rfl, Nat.le_refl _, .inl rfl⟩
  · exact ⟨_, cap, rfl, hc, .inr ⟨g, 0, rfl, OwnR.reads h⟩⟩
theorem OwnR.le {w : World} {base base' : Nat} {v : Value} {l : List (Int × Int)} (h : OwnR w base v l) (hb : base' ≤ base) : OwnR w base' v l := Joins.ownsRow_le h hb
theorem OwnR.alloc {w : World} {base : Nat} {v : Value} {l : List (Int × Int)} (h : OwnR w base v l) (o : Obj) : OwnR (w.alloc o) base v l := World.ownsRow.alloc h o
theorem OwnR.kept {w w' : World} {row : Option Nat} {base : Nat} {v : Value} {l : List (Int × Int)} (h : OwnR w base v l) (hg : w.grownBy w' row) (hne : v.ownBlock = none ∨ v.ownBlock ≠ row) : OwnR w' base v l := World.ownsRow.kept h hg hne
theorem OwnR.below {w w' : World} {base n : Nat} {v : Value} {l : List (Int × Int)} (h : OwnR w base v l) (hb : Below n w w') (hn : w.heap.size ≤ n) : OwnR w' base v l := by
  refine ⟨h.1, ?_⟩
  rcases h.2 with h | ⟨g, cap, cur, rfl, h1, h2, h3⟩
  · exact .inl h
  · have : g < w.heap.size := (Array.getElem?_eq_some_iff.1 h2).1
    exact .inr ⟨g, cap, cur, rfl, h1, (hb.block g (by omega)).trans h2, h3⟩
theorem info38 : (Tryd.prog.info? 84).map (fun i => (i.zero, i.size, i.bytes)) = some (some (.agg #[.int .i64 0, .int .i64 0]), 2, 16) := by kernel_rfl
theorem own_below {w w' : World} {base : Nat} {v : Value} {l : List (Int × Int)} (h : OwnR w base v l) (hb : base ≤ w.heap.size) (hg : w.grownBy w' v.ownBlock) : Below base w w' := (Below.refl _ w).grown hg hb (fun k hk => (World.ownsRow.lt h k hk).1)
/-- one range more behind a row of the call's own -/
theorem push_R {ops : Array Oper} {rest : List Oper} {o : Oper} {a : Act} {Q : Exit → Act → World → Prop} {w : World} (hgd : o.guard = none) (s x : Operand) (t : TypeId)
    (ho : o.op = .call { callee := .builtin .append, args := #[s, x], argTypes := #[t, t] }) (ht : Tryd.prog.underlying t = some (.slice 84))
    (base : Nat) (v : Value) (l : List (Int × Int)) (hs : a.eval s = v) (hown : OwnR w base v l) (g c : Nat) (p q : Int) (hx : a.eval x = .slice (some ⟨g, 0, none⟩) 1 c)
    (hp : w.cell? ⟨g, 0, none⟩ = some (.int .i64 p)) (hq : w.cell? ⟨g, 1, none⟩ = some (.int .i64 q)) (hl : l.length + 1 ≤ 8796093022208) (hbase : base ≤ w.heap.size)
    (h : ∀ v' w', OwnR w' base v' (l ++ [(p, q)]) → w.grownBy w' v.ownBlock → Below base w w' → wpList Tryd.prog ops Q rest (a.put o.dst v') w') : wpList Tryd.prog ops Q (o :: rest) a w := by
  obtain ⟨i0, hi, hz0, hz1, hz2⟩ := info_parts info38
  refine wpList_append_own w hgd s x t ho base 84 i0 (.agg #[.int .i64 0, .int .i64 0]) 2 16 ht hi hz0 hz1 hz2 rfl (by decide) v l.length (fl l) hs hown ⟨g, 0, none⟩ 1 c (fl [(p, q)]) hx rfl ?_ (fl_one _) (by unfold maxLen; omega) (by omega) hbase (fun v' w' h2 h3 _ => h v' w' ?_ h3 (own_below hown hbase h3))
  · intro j u hj
    match j, hj with
    | 0, hj => simp [fl] at hj; subst hj; exact hp
    | 1, hj => simp [fl] at hj; subst hj; exact hq
  · unfold OwnR
    rw [fl_append, List.length_append]
    exact h2
def allU : List (Int × Int) := [(0, 55295), (57344, 1114111), (1114240, 1114367)]
theorem allU_take (k : Nat) (hk : k < 3) : allU.take (k + 1) = allU.take k ++ [rg allU k] := by
  rw [List.take_succ_eq_append_getElem hk, rg_lt hk]
end Go.Proofs
