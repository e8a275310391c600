/-
  The table of great letters (block 0) and Lower, Upper: what each answers, as a search through the rows.
-/
import Derived.RangeFuncNested
import Derived.RangeFuncBound
import Derived.RangeFuncCalls
import Derived.RangeFuncLeaves
import Derived.Shelf.SlSorted.Search
import Derived.Deep.MidRow
import Derived.Maps.OwnSet
import Derived.Maps.OwnOps
import Derived.Shelf.Abstract
import Derived.Shelf.RegionOpen
import Derived.WalkKit
import Derived.WalkSpells
import Derived.WalkLawsBesides
import Derived.OwnWalkIn
import Derived.TacticsInMore
import Derived.LoopNIn
import Derived.LoopIn
import Derived.BigQuiet
import Derived.RegionIn
import Derived.Deep.QuietTactic
import Derived.Deep.RegionWith
import Derived.Lib.OthersKept
import Derived.Maps.AppendAt
import Derived.Lib.SmallJoins
import Derived.Shelf.SlSortCmp.QuietGrown
import Derived.Deep.DrawnRows
import Derived.Test.YtaekagipnolhiaaDoorProg
namespace Go.Proofs
open Go.RowKit Go.Shelf

set_option maxRecDepth 100000
attribute [local go_sem] Oper.semAt_some
def gRow : List (Int × Int × Int) := [(65, 90, 32), (192, 214, 32), (216, 222, 32), (913, 929, 32), (931, 937, 32), (1024, 1039, 80), (1040, 1071, 32)]
def gV : Array Value := #[.int .i64 65, .int .i64 90, .int .i64 32, .int .i64 192, .int .i64 214, .int .i64 32, .int .i64 216, .int .i64 222, .int .i64 32, .int .i64 913, .int .i64 929, .int .i64 32, .int .i64 931, .int .i64 937, .int .i64 32, .int .i64 1024, .int .i64 1039, .int .i64 80, .int .i64 1040, .int .i64 1071, .int .i64 32]
/-- the table of great letters lies in block 0 -/
def Tab (w : World) : Prop := ∀ (j : Nat) (v : Value), gV[j]? = some v → w.cell? ⟨0, j, none⟩ = some v
theorem Tab.cell {w : World} (h : Tab w) (j : Nat) (v : Value) (hv : gV[j]? = some v) : w.cell? ⟨0, j, none⟩ = some v := h j v hv
theorem Tab.pos {w : World} (h : Tab w) : 0 < w.heap.size := by
  obtain ⟨o, ho, _⟩ := cells_of_cell (h.cell 0 _ rfl)
  exact (Array.getElem?_eq_some_iff.1 ho).1
theorem Tab.below {w w' : World} {n : Nat} (h : Tab w) (hb : Below n w w') (hn : 0 < n) : Tab w' := fun j v hv => (hb.cell (p := ⟨0, j, none⟩) hn).trans (h j v hv)
theorem cell_up {W : World} {a : Addr} {v : Value} (h : W.cell? a = some v) (o : Obj) : (W.alloc o).cell? a = some v := cell_kept h (World.grownBy_alloc W o none) (fun r e => by cases e)
theorem Tab.up {w : World} (h : Tab w) (o : Obj) : Tab (w.alloc o) := fun j v hv => cell_up (h j v hv) o
theorem grow_more {w W : World} {os : Array Obj} (h : w = Go.Sort.grow W os) (o : Obj) : w.alloc o = Go.Sort.grow W (os ++ #[o]) := by rw [h, Go.Sort.alloc_eq_grow, Go.Sort.grow_grow]
theorem grow_same0 {w W : World} {ob : Obj} {os : Array Obj} (h : w = Go.Sort.grow (W.alloc ob) os) : w = Go.Sort.grow (W.drewN 0) (#[ob] ++ os) := by rw [h, Go.Sort.alloc_eq_grow, Go.Sort.grow_grow]; rfl
theorem grow_more0 {w W : World} {ob : Obj} {os : Array Obj} (h : w = Go.Sort.grow (W.alloc ob) os) (o : Obj) : w.alloc o = Go.Sort.grow (W.drewN 0) (#[ob] ++ os ++ #[o]) := by rw [grow_same0 h, Go.Sort.alloc_eq_grow, Go.Sort.grow_grow]
/-- a world after some draws, with some blocks laid behind it -/
def Grown (w w' : World) : Prop := ∃ q os, w' = Go.Sort.grow (w.drewN q) os
theorem Grown.refl (w : World) : Grown w w := ⟨0, #[], (Go.Sort.grow_empty _).symm⟩
theorem Grown.trans {w w1 w2 : World} (h : Grown w w1) (k : Grown w1 w2) : Grown w w2 := by
  obtain ⟨q, os, rfl⟩ := h
  obtain ⟨q', os', rfl⟩ := k
  refine ⟨q + q', os ++ os', ?_⟩
  show Go.Sort.grow (Go.Sort.grow ((w.drewN q).drewN q') os) os' = _
  rw [Go.Sort.grow_grow, World.drewN_drewN]
theorem Grown.alloc {w w1 : World} (h : Grown w w1) (o : Obj) : Grown w (w1.alloc o) := h.trans ⟨0, #[o], by rw [Go.Sort.alloc_eq_grow]; rfl⟩
theorem Grown.drewN {w w1 : World} (h : Grown w w1) (n : Nat) : Grown w (w1.drewN n) := h.trans ⟨n, #[], (Go.Sort.grow_empty _).symm⟩
theorem Grown.drew {w w1 : World} (h : Grown w w1) : Grown w w1.drew := h.trans ⟨1, #[], (Go.Sort.grow_empty _).symm⟩
theorem Grown.quiet {w w1 : World} (h : Grown w w1) (n : Nat) (os : Array Obj) : Grown w (Go.Sort.grow (w1.drewN n) os) := h.trans ⟨n, os, rfl⟩
theorem Grown.below {w w' : World} (h : Grown w w') : Below w.heap.size w w' := by
  obtain ⟨q, os, rfl⟩ := h
  exact below_grown_sl _ w q os (Nat.le_refl _)
theorem Grown.size {w w' : World} (h : Grown w w') : w.heap.size ≤ w'.heap.size := h.below.size
theorem Grown.cell {w w' : World} (h : Grown w w') {a : Addr} (ha : a.block < w.heap.size) : w'.cell? a = w.cell? a := h.below.cell ha
theorem Grown.cellv {w w' : World} (h : Grown w w') {a : Addr} {v : Value} (hv : w.cell? a = some v) : w'.cell? a = some v := by
  obtain ⟨o, ho, _⟩ := cells_of_cell hv
  rw [h.cell (Array.getElem?_eq_some_iff.1 ho).1]; exact hv
theorem Tab.grown {w w' : World} (h : Tab w) (k : Grown w w') : Tab w' := fun j v hv => k.cellv (h j v hv)
theorem mixed : Tryd.prog.follows .mixedOrders = true := by kernel_rfl
/-- a callee in a quiet region -/
theorem grown_of {P : Program} {f : FuncId} {args : Array Value} {w : World} {n : Nat} {os : Array Obj} {v : Value}
    (h : Calls P f args (Go.Sort.grow (w.drewN n) os) fun e w' => e = .returned v ∧ Grown (Go.Sort.grow (w.drewN n) os) w') : Calls P f args (Go.Sort.grow (w.drewN n) os) fun e w'' => e = .returned v ∧ ∃ p : GrownBy, w'' = Go.Sort.grow (w.drewN p.n) p.os :=
  Calls.grown_of h

def lowFrom : List (Int × Int × Int) → Int → Int
  | [], u => u
  | r :: l, u => if r.1 ≤ u ∧ u ≤ r.2.1 then u + r.2.2 else lowFrom l u
def upFrom : List (Int × Int × Int) → Int → Int
  | [], u => u
  | r :: l, u => if r.1 + r.2.2 ≤ u ∧ u ≤ r.2.1 + r.2.2 then u - r.2.2 else upFrom l u
/-- the small letter of a great one -/
def lowU (u : Int) : Int := lowFrom gRow u
/-- the great letter of a small one -/
def upU (u : Int) : Int := upFrom gRow u
theorem rowAt (k : Nat) (hk : k < 7) : ∃ f l b : Int, gRow.drop k = (f, l, b) :: gRow.drop (k + 1) ∧ 0 ≤ f ∧ f ≤ l ∧ l ≤ 2000 ∧ 0 ≤ b ∧ b ≤ 100
    ∧ gV[3 * k]? = some (.int .i64 f) ∧ gV[3 * k + 1]? = some (.int .i64 l) ∧ gV[3 * k + 2]? = some (.int .i64 b)
    ∧ ∀ w : World, (Instr.index 55 (.agg gV) (.int .i64 k)).run Tryd.prog w = .ok (.agg #[.int .i64 f, .int .i64 l, .int .i64 b]) w := by
  have h7 : k = 0 ∨ k = 1 ∨ k = 2 ∨ k = 3 ∨ k = 4 ∨ k = 5 ∨ k = 6 := by omega
  rcases h7 with rfl | rfl | rfl | rfl | rfl | rfl | rfl
  · exact ⟨65, 90, 32, rfl, by decide, by decide, by decide, by decide, by decide, rfl, rfl, rfl, fun w => by kernel_rfl⟩
  · exact ⟨192, 214, 32, rfl, by decide, by decide, by decide, by decide, by decide, rfl, rfl, rfl, fun w => by kernel_rfl⟩
  · exact ⟨216, 222, 32, rfl, by decide, by decide, by decide, by decide, by decide, rfl, rfl, rfl, fun w => by kernel_rfl⟩
  · exact ⟨913, 929, 32, rfl, by decide, by decide, by decide, by decide, by decide, rfl, rfl, rfl, fun w => by kernel_rfl⟩
  · exact ⟨931, 937, 32, rfl, by decide, by decide, by decide, by decide, by decide, rfl, rfl, rfl, fun w => by kernel_rfl⟩
  · exact ⟨1024, 1039, 80, rfl, by decide, by decide, by decide, by decide, by decide, rfl, rfl, rfl, fun w => by kernel_rfl⟩
  · exact ⟨1040, 1071, 32, rfl, by decide, by decide, by decide, by decide, by decide, rfl, rfl, rfl, fun w => by kernel_rfl⟩


theorem size55 : (Tryd.prog.info? 55).map (·.size) = some gV.toList.length := by kernel_rfl

set_option maxHeartbeats 2000000 in
theorem lower_any (u : Int) (w : World) (hT : Tab w) (h1 : -9223372036854775808 ≤ u) (h2 : u ≤ 9223372036854775807) : Calls Tryd.prog 14 #[.int .i64 u] w fun e w' => e = .returned (.int .i64 (lowU u)) ∧ Grown w w' := by
  obtain ⟨r, hr⟩ : ∃ r : Int, lowFrom gRow u = r := ⟨_, rfl⟩
  have HR : Hid (lowFrom gRow u = r) := hr
  unfold lowU
  rw [hr]
  clear hr
  go_enter Tryd.func14, Tryd.ntmps14
  go_wp2_with (first | (refine wpList_load_mid rfl 55 _ rfl 0 0 rfl gV.toList _ (fun j v hv => by rw [Nat.zero_add]; exact hT j v (by simpa using hv)) Tryd.underlying55 rfl size55 ?_) | go_in)
  clear hT
  go_loopw [6] (fun vi wr => ∃ k : Nat, vi = .int .i64 k ∧ k ≤ 7 ∧ Hid (lowFrom (gRow.drop k) u = r) ∧ Grown w wr) (fun vi _ => 7 - (intOf vi).toNat)
  case atStart => exact ⟨0, rfl, by omega, HR.out, Grown.refl _⟩
  case round =>
    obtain ⟨k, rfl, hk, HK, HG⟩ := hrel
    have HG : Hid (Grown w wr) := HG
    by_cases hk7 : k = 7
    · subst hk7
      have e : r = u := HK.out.symm
      subst e
      go_wp2
      go_ret
      exact ⟨rfl, HG.out⟩
    · obtain ⟨f, l, b, hd, b1, b2, b3, b4, b5, -, -, -, hix⟩ := rowAt k (by omega)
      have HD : Hid (gRow.drop k = (f, l, b) :: gRow.drop (k + 1)) := hd
      clear hd
      by_cases c1 : f ≤ u
      · by_cases c2 : u ≤ l
        · have e : r = u + b := by rw [← HK.out, HD.out]; simp only [lowFrom]; rw [if_pos ⟨c1, c2⟩]
          subst e
          go_wp2
          go_ret
          exact ⟨rfl, HG.out.alloc _⟩
        · have d2 : decide (u ≤ l) = false := by simp; omega
          have HN : Hid (lowFrom (gRow.drop (k + 1)) u = r) := by show _ = _; rw [← HK.out, HD.out]; simp only [lowFrom]; rw [if_neg (fun h => c2 h.2)]
          go_wp2
          exact ⟨⟨k + 1, by go_num, by omega, HN, HG.out.alloc _⟩, by simp [intOf]; omega⟩
      · have d1 : decide (f ≤ u) = false := by simp; omega
        have HN : Hid (lowFrom (gRow.drop (k + 1)) u = r) := by show _ = _; rw [← HK.out, HD.out]; simp only [lowFrom]; rw [if_neg (fun h => c1 h.1)]
        go_wp2
        exact ⟨⟨k + 1, by go_num, by omega, HN, HG.out.alloc _⟩, by simp [intOf]; omega⟩

set_option maxHeartbeats 2000000 in
theorem upper_any (u : Int) (w : World) (hT : Tab w) (h1 : -9223372036854775808 ≤ u) (h2 : u ≤ 9223372036854775807) : Calls Tryd.prog 16 #[.int .i64 u] w fun e w' => e = .returned (.int .i64 (upU u)) ∧ Grown w w' := by
  obtain ⟨r, hr⟩ : ∃ r : Int, upFrom gRow u = r := ⟨_, rfl⟩
  have HR : Hid (upFrom gRow u = r) := hr
  unfold upU
  rw [hr]
  clear hr
  go_enter Tryd.func16, Tryd.ntmps16
  go_wp2_with (first | (refine wpList_load_mid rfl 55 _ rfl 0 0 rfl gV.toList _ (fun j v hv => by rw [Nat.zero_add]; exact hT j v (by simpa using hv)) Tryd.underlying55 rfl size55 ?_) | go_in)
  clear hT
  go_loopw [6] (fun vi wr => ∃ k : Nat, vi = .int .i64 k ∧ k ≤ 7 ∧ Hid (upFrom (gRow.drop k) u = r) ∧ Grown w wr) (fun vi _ => 7 - (intOf vi).toNat)
  case atStart => exact ⟨0, rfl, by omega, HR.out, Grown.refl _⟩
  case round =>
    obtain ⟨k, rfl, hk, HK, HG⟩ := hrel
    have HG : Hid (Grown w wr) := HG
    by_cases hk7 : k = 7
    · subst hk7
      have e : r = u := HK.out.symm
      subst e
      go_wp2
      go_ret
      exact ⟨rfl, HG.out⟩
    · obtain ⟨f, l, b, hd, b1, b2, b3, b4, b5, -, -, -, hix⟩ := rowAt k (by omega)
      have HD : Hid (gRow.drop k = (f, l, b) :: gRow.drop (k + 1)) := hd
      clear hd
      by_cases c1 : f + b ≤ u
      · by_cases c2 : u ≤ l + b
        · have e : r = u - b := by rw [← HK.out, HD.out]; simp only [upFrom]; rw [if_pos ⟨c1, c2⟩]
          subst e
          go_wp2
          go_ret
          exact ⟨rfl, HG.out.alloc _⟩
        · have d2 : decide (u ≤ l + b) = false := by simp; omega
          have HN : Hid (upFrom (gRow.drop (k + 1)) u = r) := by show _ = _; rw [← HK.out, HD.out]; simp only [upFrom]; rw [if_neg (fun h => c2 h.2)]
          go_wp2
          exact ⟨⟨k + 1, by go_num, by omega, HN, HG.out.alloc _⟩, by simp [intOf]; omega⟩
      · have d1 : decide (f + b ≤ u) = false := by simp; omega
        have HN : Hid (upFrom (gRow.drop (k + 1)) u = r) := by show _ = _; rw [← HK.out, HD.out]; simp only [upFrom]; rw [if_neg (fun h => c1 h.1)]
        go_wp2
        exact ⟨⟨k + 1, by go_num, by omega, HN, HG.out.alloc _⟩, by simp [intOf]; omega⟩
end Go.Proofs
