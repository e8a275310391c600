/-
  The example: shown.
-/
import Derived.RangeFuncNested
import Derived.RangeFuncBound
import Derived.RangeFuncCalls
import Derived.RangeFuncLeaves
import Derived.Shelf.Abstract
import Derived.Shelf.RegionOpen
import Derived.WalkKit
import Derived.WalkSpells
import Derived.WalkLawsBesides
import Derived.OwnWalkIn
import Derived.TacticsInMore
import Derived.LoopNIn
import Derived.LoopIn
import Derived.BigQuiet
import Derived.RegionIn
import Derived.Deep.QuietTactic
import Derived.Deep.RegionWith
import Derived.Lib.OthersKept
import Derived.Maps.AppendAt
import Derived.Lib.SmallJoins
import Derived.Shelf.SlSortCmp.QuietGrown
import Derived.Test.YtpppcfppabghhaaDoorNe
namespace Go.Proofs
open Go.RowKit Go.Shelf

set_option maxRecDepth 100000
attribute [local go_sem] Oper.semAt_some
attribute [local go_sem ↓] Go.wp_at_zero Go.wp_at_succ

theorem one_any (u : Int) (w : World) : Calls Tryd.prog 21 #[.int .i64 u] w fun e w' => e = .returned (.slice (some ⟨w.heap.size, 0, none⟩) 1 1) ∧ w' = w.alloc (.cells #[.int .i64 u, .int .i64 u] 59) := by
  go_enter Tryd.func21, Tryd.ntmps21
  go_wp2
  go_ret
  exact ⟨rfl, rfl⟩
def rlS (ls : List (List (Int × Int))) : Rl := { bg := false, ante := [], key := ls, post := [], en := false, res := [], cu := 0 }
/-- a > ; ab > -/
def rsS : List Rl := [rlS [[(97, 97)]], rlS [[(97, 97)], [(98, 98)]]]
theorem exS1 : fdF rsS [] [97, 98] = 1 := by decide +kernel
theorem exS2 : fdF rsS [] [97, 99] = 0 := by decide +kernel
theorem exS3 : fdF rsS [] [98] = -1 := by decide +kernel
theorem exS4 : fitsB (rlS [[(97, 97)]]) [] [97] = true := by decide +kernel
/-- the example's blocks -/
structure SH (W : World) (n : Nat) : Prop where
  b0 : W.heap[n]? = some (.cells #[.int .i64 97, .int .i64 97] 59 (0, 0))
  b1 : W.heap[n + 1]? = some (.cells #[.slice (some ⟨n, 0, none⟩) 1 1] 48 (0, 0))
  b2 : W.heap[n + 2]? = some (.cells #[.int .i64 97, .int .i64 97] 59 (0, 0))
  b3 : W.heap[n + 3]? = some (.cells #[.int .i64 98, .int .i64 98] 59 (0, 0))
  b4 : W.heap[n + 4]? = some (.cells #[.slice (some ⟨n + 2, 0, none⟩) 1 1, .slice (some ⟨n + 3, 0, none⟩) 1 1] 48 (0, 0))
  b5 : W.heap[n + 5]? = some (.cells #[.bool false, .slice none 0 0, .slice (some ⟨n + 1, 0, none⟩) 1 1, .slice none 0 0, .bool false, .slice none 0 0, .int .i64 0, .bool false, .slice none 0 0, .slice (some ⟨n + 4, 0, none⟩) 2 2, .slice none 0 0, .bool false, .slice none 0 0, .int .i64 0] 28 (0, 0))
  b6 : W.heap[n + 6]? = some (.cells #[.slice (some ⟨n + 5, 0, none⟩) 2 2] 24 (0, 0))
theorem SH.grown {W W' : World} {n : Nat} (h : SH W n) (hg : Grown W W') : SH W' n :=
  have hk : ∀ {k : Nat} {o : Obj}, W.heap[k]? = some o → W'.heap[k]? = some o := fun {k _} h1 => (hg.below.block k (Array.getElem?_eq_some_iff.1 h1).1).trans h1
  ⟨hk h.b0, hk h.b1, hk h.b2, hk h.b3, hk h.b4, hk h.b5, hk h.b6⟩
theorem sr_nil (W : World) : SR W (.slice none 0 0) [] := ⟨none, 0, rfl, Nat.le_refl _, .inl rfl⟩
theorem rs_nil (W : World) : Rs W (.slice none 0 0) [] := ⟨none, 0, rfl, Nat.le_refl _, .inl rfl⟩
theorem pr_nil (W : World) : PR W (.slice none 0 0) [] := ⟨none, 0, rfl, Nat.le_refl _, .inl rfl⟩
theorem ir_nil (W : World) : IR W (.slice none 0 0) [] := ⟨none, 0, rfl, Nat.le_refl _, .inl rfl⟩
theorem rs_one {W : World} {g : Nat} {a : Int} (h : W.heap[g]? = some (.cells #[.int .i64 a, .int .i64 a] 59 (0, 0))) : Rs W (.slice (some ⟨g, 0, none⟩) 1 1) [(a, a)] := by
  refine ⟨_, 1, rfl, Nat.le_refl _, .inr ⟨g, 0, rfl, fun j hj => ?_⟩⟩
  obtain rfl : j = 0 := by simp at hj; omega
  rw [cell_of h, cell_of h]
  exact ⟨rfl, rfl⟩
theorem SH.key1 {W : World} {n : Nat} (h : SH W n) : SR W (.slice (some ⟨n + 1, 0, none⟩) 1 1) [[(97, 97)]] := by
  refine ⟨_, 1, rfl, Nat.le_refl _, .inr ⟨n + 1, 0, rfl, fun j hj => ?_⟩⟩
  obtain rfl : j = 0 := by simp at hj; omega
  exact ⟨.slice (some ⟨n, 0, none⟩) 1 1, by rw [cell_of h.b1]; rfl, rs_one h.b0⟩
theorem SH.key2 {W : World} {n : Nat} (h : SH W n) : SR W (.slice (some ⟨n + 4, 0, none⟩) 2 2) [[(97, 97)], [(98, 98)]] := by
  refine ⟨_, 2, rfl, Nat.le_refl _, .inr ⟨n + 4, 0, rfl, fun j hj => ?_⟩⟩
  have hj2 : j = 0 ∨ j = 1 := by simp at hj; omega
  rcases hj2 with rfl | rfl
  · exact ⟨.slice (some ⟨n + 2, 0, none⟩) 1 1, by rw [cell_of h.b4]; rfl, rs_one h.b2⟩
  · exact ⟨.slice (some ⟨n + 3, 0, none⟩) 1 1, by rw [cell_of h.b4]; rfl, rs_one h.b3⟩
theorem SH.rr1 {W : World} {n : Nat} (h : SH W n) : RR W (.slice none 0 0) (.slice (some ⟨n + 1, 0, none⟩) 1 1) (.slice none 0 0) (.slice none 0 0) (rlS [[(97, 97)]]) := ⟨sr_nil W, h.key1, sr_nil W, pr_nil W⟩
theorem SH.psr {W : World} {n : Nat} (h : SH W n) : PsR W (.slice (some ⟨n + 5, 0, none⟩) 2 2) rsS := by
  refine ⟨_, 2, rfl, Nat.le_refl _, .inr ⟨n + 5, 0, rfl, fun j hj => ?_⟩⟩
  have hj2 : j = 0 ∨ j = 1 := by simp [rsS] at hj; omega
  have h5 := h.b5
  rcases hj2 with rfl | rfl
  · exact ⟨_, _, _, _, by rw [cell_of h5]; rfl, by rw [cell_of h5]; rfl, by rw [cell_of h5]; rfl, by rw [cell_of h5]; rfl, by rw [cell_of h5]; rfl, by rw [cell_of h5]; rfl, by rw [cell_of h5]; rfl, h.rr1⟩
  · exact ⟨_, _, _, _, by rw [cell_of h5]; rfl, by rw [cell_of h5]; rfl, by rw [cell_of h5]; rfl, by rw [cell_of h5]; rfl, by rw [cell_of h5]; rfl, by rw [cell_of h5]; rfl, by rw [cell_of h5]; rfl, ⟨sr_nil W, h.key2, sr_nil W, pr_nil W⟩⟩
theorem alloc_at {W : World} {o : Obj} {k : Nat} (h : k = W.heap.size) : (W.alloc o).heap[k]? = some o := by subst h; exact heap_alloc_new _ _
theorem alloc_up {W : World} {o ob : Obj} {k : Nat} (h : W.heap[k]? = some ob) : (W.alloc o).heap[k]? = some ob := (((Grown.refl W).alloc o).below.block k (Array.getElem?_eq_some_iff.1 h).1).trans h
/-- numbers in a block -/
theorem ir_two {W : World} {g : Nat} {a b : Int} (h : W.heap[g]? = some (.cells #[.int .i64 a, .int .i64 b] 3 (0, 0))) : IR W (.slice (some ⟨g, 0, none⟩) 2 2) [a, b] := by
  refine ⟨_, 2, rfl, Nat.le_refl _, .inr ⟨_, 0, rfl, fun j hj => ?_⟩⟩
  have hj2 : j = 0 ∨ j = 1 := by simp at hj; omega
  rcases hj2 with rfl | rfl
  · rw [cell_of h]; rfl
  · rw [cell_of h]; rfl
theorem ir_one {W : World} {g : Nat} {a : Int} (h : W.heap[g]? = some (.cells #[.int .i64 a] 3 (0, 0))) : IR W (.slice (some ⟨g, 0, none⟩) 1 1) [a] := by
  refine ⟨_, 1, rfl, Nat.le_refl _, .inr ⟨_, 0, rfl, fun j hj => ?_⟩⟩
  obtain rfl : j = 0 := by simp at hj; omega
  rw [cell_of h]; rfl
/-- the example in a world -/
structure SK (w W : World) (n : Nat) : Prop where
  t : Tab W
  g : Grown w W
  s : SH W n
theorem SK.next {w W W' : World} {n : Nat} (h : SK w W n) (hg : Grown W W') : SK w W' n := ⟨h.t.grown hg, h.g.trans hg, h.s.grown hg⟩
theorem SK.find {w W : World} {n : Nat} {lv : Value} {l : List Int} {x : Int} (h : SK w W n) (hl : IR W lv l) (hx : fdF rsS [] l = x) : Calls Tryd.prog 11 #[.agg #[.slice (some ⟨n + 5, 0, none⟩) 2 2], .slice none 0 0, lv] W fun e w' => e = .returned (.int .i64 x) ∧ SK w w' n := by
  have := find_any9 _ _ _ rsS [] l W h.t h.s.psr (ir_nil W) hl (by simp)
  rw [hx] at this
  exact this.mono fun _ _ ⟨h1, h2⟩ => ⟨h1, h.next h2⟩
theorem SK.fits {w W : World} {n : Nat} {lv : Value} (h : SK w W n) (hl : IR W lv [97]) : Calls Tryd.prog 13 #[.agg #[.bool false, .slice none 0 0, .slice (some ⟨n + 1, 0, none⟩) 1 1, .slice none 0 0, .bool false, .slice none 0 0, .int .i64 0], .slice none 0 0, lv] W fun e w' => e = .returned (.bool true) ∧ SK w w' n := by
  have := fits_any (rlS [[(97, 97)]]) _ _ _ _ _ _ [] [97] W h.t h.s.rr1 (ir_nil W) hl (by simp)
  rw [exS4] at this
  exact this.mono fun _ _ ⟨h1, h2⟩ => ⟨h1, h.next h2⟩
set_option maxHeartbeats 8000000 in
theorem shown_any (w : World) (hT : Tab w) : Calls Tryd.prog 7 #[] w fun e w' => e = .returned (.bool true) ∧ Grown w w' := by
  have HT : Hid (Tab w) := hT
  clear hT
  go_enter Tryd.func7, Tryd.ntmps7
  go_wp2_with (go_at_call 21; refine (one_any _ _).mono ?_; rintro e w' ⟨rfl, rfl⟩)
  refine (SK.find (w := w) (n := w.heap.size) ?hk (ir_two (alloc_at (by simp only [size_up]))) exS1).mono ?_
  case hk =>
    refine ⟨HT.out.grown ?_, ?_, ?_⟩
    · repeat (first | exact Grown.refl _ | refine Grown.alloc ?_ _)
    · repeat (first | exact Grown.refl _ | refine Grown.alloc ?_ _)
    · constructor
      all_goals (repeat (first | (refine alloc_at ?_; simp only [size_up]; done) | (refine alloc_at ?_; simp only [size_up]; rfl) | refine alloc_up ?_))
  rintro e w1 ⟨rfl, hk⟩
  have HK1 := Hid.mk' hk
  have e1 : w1.cell? ⟨w.heap.size + 1 + 1 + 1 + 1 + 1 + 1, 0, none⟩ = some (.slice (some ⟨w.heap.size + 5, 0, none⟩) 2 2) := by rw [cell_of hk.s.b6]; rfl
  clear hk
  go_wp2_with fail
  refine (SK.find (w := w) (n := w.heap.size) (HK1.out.next ((Grown.refl _).alloc _)) (ir_two (alloc_at rfl)) exS2).mono ?_
  rintro e w2 ⟨rfl, hk⟩
  have HK2 := Hid.mk' hk
  have e2 : w2.cell? ⟨w.heap.size + 1 + 1 + 1 + 1 + 1 + 1, 0, none⟩ = some (.slice (some ⟨w.heap.size + 5, 0, none⟩) 2 2) := by rw [cell_of hk.s.b6]; rfl
  clear hk HK1 e1
  go_wp2_with fail
  refine (SK.find (w := w) (n := w.heap.size) (HK2.out.next ((Grown.refl _).alloc _)) (ir_one (alloc_at rfl)) exS3).mono ?_
  rintro e w3 ⟨rfl, hk⟩
  have HK3 := Hid.mk' hk
  have e3 : w3.cell? ⟨w.heap.size + 1 + 1 + 1 + 1 + 1 + 1, 0, none⟩ = some (.slice (some ⟨w.heap.size + 5, 0, none⟩) 2 2) := by rw [cell_of hk.s.b6]; rfl
  have f0 : w3.cell? ⟨w.heap.size + 5, 0, none⟩ = some (.bool false) := by rw [cell_of hk.s.b5]; rfl
  have f1 : w3.cell? ⟨w.heap.size + 5, 1, none⟩ = some (.slice none 0 0) := by rw [cell_of hk.s.b5]; rfl
  have f2 : w3.cell? ⟨w.heap.size + 5, 2, none⟩ = some (.slice (some ⟨w.heap.size + 1, 0, none⟩) 1 1) := by rw [cell_of hk.s.b5]; rfl
  have f3 : w3.cell? ⟨w.heap.size + 5, 3, none⟩ = some (.slice none 0 0) := by rw [cell_of hk.s.b5]; rfl
  have f4 : w3.cell? ⟨w.heap.size + 5, 4, none⟩ = some (.bool false) := by rw [cell_of hk.s.b5]; rfl
  have f5 : w3.cell? ⟨w.heap.size + 5, 5, none⟩ = some (.slice none 0 0) := by rw [cell_of hk.s.b5]; rfl
  have f6 : w3.cell? ⟨w.heap.size + 5, 6, none⟩ = some (.int .i64 0) := by rw [cell_of hk.s.b5]; rfl
  clear hk HK2 e2
  go_wp2_with fail
  refine (SK.fits (w := w) (n := w.heap.size) (HK3.out.next ((Grown.refl _).alloc _)) (ir_one (alloc_at rfl))).mono ?_
  rintro e w4 ⟨rfl, hk⟩
  have HK4 := Hid.mk' hk
  clear hk HK3 e3
  go_wp2
  go_ret
  exact ⟨rfl, HK4.out.g⟩
end Go.Proofs
