/-
  Runes that stand for themselves; which bytes are reserved.
-/
import Derived.Shelf.Abstract
import Derived.Shelf.RegionOpen
import Derived.WalkKit
import Derived.WalkSpells
import Derived.WalkLawsBesides
import Derived.BigQuiet
import Derived.Deep.QuietTactic
import Derived.Deep.LoopGhost
import Derived.Lib.OthersKept
import Derived.ScopeJumps
import Derived.WalkMore
import Derived.Test.YthjjkenmlkekbaaDoorXc
namespace Go.Proofs
open Go.RowKit Go.Shelf

set_option maxRecDepth 100000
attribute [local go_sem] Oper.semAt_some


def rsvL : List UInt8 := [62, 59, 123, 125, 124, 94, 36, 46, 91, 93, 45, 61, 58, 64, 35, 92, 44]
def sgnL : List UInt8 := [62, 59, 123, 125, 124, 94, 36, 46, 91, 93, 45, 61, 58]
def rsv (u : Nat) : Bool := decide (u < 128) && decide (0 ≤ Lib.indexByte rsvL u.toUInt8)
set_option maxHeartbeats 1000000 in
theorem reserved_any (u : Nat) (w : World) : Calls Tryd.prog 19 #[.int .i64 u] w fun e w' => e = .returned (.bool (rsv u)) ∧ w' = w := by
  by_cases h : u < 128
  · have hd : decide ((u : Int) < 128) = true := by simp; omega
    have h0 : decide (u < 128) = true := by simp; omega
    obtain ⟨i, hi⟩ : ∃ i, Lib.indexByte rsvL u.toUInt8 = i := ⟨_, rfl⟩
    unfold rsv
    rw [h0, hi, Bool.true_and]
    go_enter Tryd.func19, Tryd.ntmps19
    go_wp2_with (go_at_call 36; refine (Tryd.strings_IndexByte _ _ _).mono ?_; rintro e w' ⟨rfl, rfl⟩)
    go_ret
    exact ⟨by rw [← hi]; rfl, rfl⟩
  · have hd : decide ((u : Int) < 128) = false := by simp; omega
    have h0 : decide (u < 128) = false := by simp; omega
    unfold rsv
    rw [h0, Bool.false_and]
    go_enter Tryd.func19, Tryd.ntmps19
    go_wp2_with fail
    go_ret
    exact ⟨rfl, rfl⟩
set_option maxHeartbeats 1000000 in
theorem unit_any (u n : Int) (w : World) : Calls Tryd.prog 61 #[.int .i64 u, .int .i64 n] w fun e w' => e = .returned (tk 1 0 n u ⟨#[]⟩ 0) ∧ Below w.heap.size w w' := by
  go_enter Tryd.func61, Tryd.ntmps61
  go_wp2
  exact bodyPost_ret (v := tk 1 0 n u ⟨#[]⟩ 0) (by simp [results, Tryd.f61, go_sem]) rfl ⟨rfl, (Below.refl _ _).alloc (Nat.le_refl _) _⟩

/-! a token in a block of its own -/
def TB (W : World) (B : Nat) (k a l u : Int) (t : ByteArray) (n : Int) : Prop := W.heap[B]? = some (.cells #[.int .i64 k, .int .i64 a, .int .i64 l, .int .i64 u, .string t, .int .i64 n] 34 (0, 0))
theorem TB.new (W : World) (k a l u : Int) (t : ByteArray) (n : Int) : TB (W.alloc (.cells #[.int .i64 k, .int .i64 a, .int .i64 l, .int .i64 u, .string t, .int .i64 n] 34)) W.heap.size k a l u t n := World.alloc_heap_new _ _
theorem TB.lt {W : World} {B : Nat} {k a l u : Int} {t : ByteArray} {n : Int} (h : TB W B k a l u t n) : B < W.heap.size := (Array.getElem?_eq_some_iff.1 h).1
theorem TB.below {W W' : World} {B m : Nat} {k a l u : Int} {t : ByteArray} {n : Int} (h : TB W B k a l u t n) (hb : Below m W W') (hm : B < m) : TB W' B k a l u t n := (hb.block B hm).trans h
theorem TB.cells {W : World} {B : Nat} {k a l u : Int} {t : ByteArray} {n : Int} (h : TB W B k a l u t n) :
    W.cell? ⟨B, 0, none⟩ = some (.int .i64 k) ∧ W.cell? ⟨B, 1, none⟩ = some (.int .i64 a) ∧ W.cell? ⟨B, 2, none⟩ = some (.int .i64 l) ∧ W.cell? ⟨B, 3, none⟩ = some (.int .i64 u) ∧ W.cell? ⟨B, 4, none⟩ = some (.string t) ∧ W.cell? ⟨B, 5, none⟩ = some (.int .i64 n) := by
  simp [World.cell?, show W.heap[B]? = _ from h]
theorem TB.frozen {W : World} {B : Nat} {k a l u : Int} {t : ByteArray} {n : Int} (h : TB W B k a l u t n) :
    W.frozen? ⟨B, 0, none⟩ = false ∧ W.frozen? ⟨B, 1, none⟩ = false ∧ W.frozen? ⟨B, 2, none⟩ = false ∧ W.frozen? ⟨B, 3, none⟩ = false ∧ W.frozen? ⟨B, 4, none⟩ = false ∧ W.frozen? ⟨B, 5, none⟩ = false := by
  simp [World.frozen?, show W.heap[B]? = _ from h]
theorem cells_setS {w : World} {g : Nat} {cur : Array Value} {t : TypeId} {j : Nat} {u : Value} (h : w.heap[g]? = some (.cells cur t (0, 0))) : (w.setCell ⟨g, j, none⟩ u).heap[g]? = some (.cells (cur.setIfInBounds j u) t (0, 0)) := by
  show (w.heap.modify g _)[g]? = _
  rw [Array.getElem?_modify, if_pos rfl, h]
  rfl
abbrev set6 (W : World) (B : Nat) (k a l u : Int) (t : ByteArray) (n : Int) : World := (((((W.setCell ⟨B, 0, none⟩ (.int .i64 k)).setCell ⟨B, 1, none⟩ (.int .i64 a)).setCell ⟨B, 2, none⟩ (.int .i64 l)).setCell ⟨B, 3, none⟩ (.int .i64 u)).setCell ⟨B, 4, none⟩ (.string t)).setCell ⟨B, 5, none⟩ (.int .i64 n)
theorem TB.set {W : World} {B : Nat} {k a l u : Int} {t : ByteArray} {n : Int} (h : TB W B k a l u t n) (k' a' l' u' : Int) (t' : ByteArray) (n' : Int) : TB (set6 W B k' a' l' u' t' n') B k' a' l' u' t' n' := by
  have := cells_setS (j := 5) (u := .int .i64 n') (cells_setS (j := 4) (u := .string t') (cells_setS (j := 3) (u := .int .i64 u') (cells_setS (j := 2) (u := .int .i64 l') (cells_setS (j := 1) (u := .int .i64 a') (cells_setS (j := 0) (u := .int .i64 k') h)))))
  simpa [TB, set6] using this
theorem below_set6 {m : Nat} {w W : World} {B : Nat} (h : Below m w W) (hm : m ≤ B) (k a l u : Int) (t : ByteArray) (n : Int) : Below m w (set6 W B k a l u t n) :=
  (((((h.setCell (p := ⟨B, 0, none⟩) hm _).setCell (p := ⟨B, 1, none⟩) hm _).setCell (p := ⟨B, 2, none⟩) hm _).setCell (p := ⟨B, 3, none⟩) hm _).setCell (p := ⟨B, 4, none⟩) hm _).setCell (p := ⟨B, 5, none⟩) hm _
theorem load_tk {W : World} {B : Nat} {k a l u : Int} {t : ByteArray} {n : Int} (h : TB W B k a l u t n) : (loadVar 34 ⟨B, 0, none⟩).run Tryd.prog W = .ok (tk k a l u t n) W := by
  obtain ⟨c0, c1, c2, c3, c4, c5⟩ := h.cells
  simp [go_sem, c0, c1, c2, c3, c4, c5]
theorem ret_tk {fn : Func} {p q : Tmp} {W : World} {B : Nat} {tmps : Array Value} {k a l u : Int} {t : ByteArray} {n e : Int} {R : Ending → World → Prop} (hr : fn.results = #[.cell p 34, .tmp q]) (hp : tmps.getD p undef = .pointer (some ⟨B, 0, none⟩)) (hq : tmps.getD q undef = .int .i64 e) (h : TB W B k a l u t n)
    (K : R (.returned (.tuple #[tk k a l u t n, .int .i64 e])) W) : bodyPost Tryd.prog fn R Exit.ret { tmps := tmps, defers := [] } W := by
  refine bodyPost_ret (v := .tuple #[tk k a l u t n, .int .i64 e]) ?_ rfl K
  rw [results_cell_tmp hr]
  simp only [hp, hq]
  obtain ⟨c0, c1, c2, c3, c4, c5⟩ := h.cells
  simp [go_sem, Result.andThen, c0, c1, c2, c3, c4, c5]
/-! bare -/
set_option maxHeartbeats 1000000 in
theorem bare_ok (s : ByteArray) (u : Nat) (n : Int) (w : World) (hs : s.size ≤ maxLen) (hu : firstU s = ((u : Int), n)) (h1 : 32 ≤ u) (h2 : u ≠ 127) (h3 : u ≤ 1114111) (hr : rsv u = false) : Calls Tryd.prog 45 #[.string s] w fun e w' => e = .returned (.tuple #[tk 1 0 n u ⟨#[]⟩ 0, .int .i64 0]) ∧ Below w.heap.size w w' := by
  have d1 : decide ((u : Int) < 32) = false := by simp; omega
  have d2 : ((u : Int) == 127) = false := by simp; omega
  have d3 : decide ((1114111 : Int) < (u : Int)) = false := by simp; omega
  go_enter Tryd.func45, Tryd.ntmps45
  go_wp2_with fail
  refine (firstU_any s _ hs).mono ?_
  rintro e w1 ⟨rfl, hb1⟩
  rw [hu]
  have HB : Hid (Below w.heap.size w w1) := ((Below.refl _ w).alloc (Nat.le_refl _) _).trans (hb1.mono (by simp))
  have HT : Hid (TB w1 w.heap.size 0 0 0 0 ⟨#[]⟩ 0) := (TB.new w 0 0 0 0 ⟨#[]⟩ 0).below hb1 (by simp)
  clear hb1
  go_wp2_with (first | (go_at_call 19; refine (reserved_any _ _).mono ?_; rintro e w' ⟨rfl, rfl⟩; rw [hr]) | fail)
  refine (unit_any _ _ _).mono ?_
  rintro e w2 ⟨rfl, hb2⟩
  have HT2 := HT.out.below hb2 HT.out.lt
  have HB2 := HB.out.trans (hb2.mono HB.out.size)
  obtain ⟨c0, c1, c2, c3, c4, c5⟩ := HT2.cells
  obtain ⟨f0, f1, f2, f3, f4, f5⟩ := HT2.frozen
  clear hb2 HT HB
  go_wp2
  exact ret_tk rfl rfl rfl (HT2.set 1 0 n u ⟨#[]⟩ 0) ⟨rfl, below_set6 HB2 (Nat.le_refl _) _ _ _ _ _ _⟩
set_option maxHeartbeats 1000000 in
theorem bare_low (s : ByteArray) (u : Nat) (n : Int) (w : World) (hs : s.size ≤ maxLen) (hu : firstU s = ((u : Int), n)) {b : Bool} (_hr : rsv u = b) (h1 : u < 32) : Calls Tryd.prog 45 #[.string s] w fun e w' => e = .returned (.tuple #[tk0, .int .i64 40]) ∧ Below w.heap.size w w' := by
  have d1 : decide ((u : Int) < 32) = true := by simp; omega
  go_enter Tryd.func45, Tryd.ntmps45
  go_wp2_with fail
  refine (firstU_any s _ hs).mono ?_
  rintro e w1 ⟨rfl, hb1⟩
  rw [hu]
  have HB : Hid (Below w.heap.size w w1) := ((Below.refl _ w).alloc (Nat.le_refl _) _).trans (hb1.mono (by simp))
  have HT : Hid (TB w1 w.heap.size 0 0 0 0 ⟨#[]⟩ 0) := (TB.new w 0 0 0 0 ⟨#[]⟩ 0).below hb1 (by simp)
  obtain ⟨c0, c1, c2, c3, c4, c5⟩ := HT.out.cells
  obtain ⟨f0, f1, f2, f3, f4, f5⟩ := HT.out.frozen
  clear hb1
  go_wp2_with (first | (go_at_call 19; refine (reserved_any _ _).mono ?_; rintro e w' ⟨rfl, rfl⟩; rw [hr]) | fail)
  exact ret_tk rfl rfl rfl (HT.out.set 0 0 0 0 ⟨#[]⟩ 0) ⟨rfl, below_set6 HB.out (Nat.le_refl _) _ _ _ _ _ _⟩
set_option maxHeartbeats 1000000 in
theorem bare_127 (s : ByteArray) (n : Int) (w : World) (hs : s.size ≤ maxLen) (hu : firstU s = (127, n)) {b : Bool} (_hr : rsv 127 = b) : Calls Tryd.prog 45 #[.string s] w fun e w' => e = .returned (.tuple #[tk0, .int .i64 40]) ∧ Below w.heap.size w w' := by
  go_enter Tryd.func45, Tryd.ntmps45
  go_wp2_with fail
  refine (firstU_any s _ hs).mono ?_
  rintro e w1 ⟨rfl, hb1⟩
  rw [hu]
  have HB : Hid (Below w.heap.size w w1) := ((Below.refl _ w).alloc (Nat.le_refl _) _).trans (hb1.mono (by simp))
  have HT : Hid (TB w1 w.heap.size 0 0 0 0 ⟨#[]⟩ 0) := (TB.new w 0 0 0 0 ⟨#[]⟩ 0).below hb1 (by simp)
  obtain ⟨c0, c1, c2, c3, c4, c5⟩ := HT.out.cells
  obtain ⟨f0, f1, f2, f3, f4, f5⟩ := HT.out.frozen
  clear hb1
  go_wp2_with (first | (go_at_call 19; refine (reserved_any _ _).mono ?_; rintro e w' ⟨rfl, rfl⟩; rw [hr]) | fail)
  exact ret_tk rfl rfl rfl (HT.out.set 0 0 0 0 ⟨#[]⟩ 0) ⟨rfl, below_set6 HB.out (Nat.le_refl _) _ _ _ _ _ _⟩
set_option maxHeartbeats 1000000 in
theorem bare_high (s : ByteArray) (u : Nat) (n : Int) (w : World) (hs : s.size ≤ maxLen) (hu : firstU s = ((u : Int), n)) {b : Bool} (_hr : rsv u = b) (h1 : 1114111 < u) : Calls Tryd.prog 45 #[.string s] w fun e w' => e = .returned (.tuple #[tk0, .int .i64 40]) ∧ Below w.heap.size w w' := by
  have d1 : decide ((u : Int) < 32) = false := by simp; omega
  have d2 : ((u : Int) == 127) = false := by simp; omega
  have d3 : decide ((1114111 : Int) < (u : Int)) = true := by simp; omega
  go_enter Tryd.func45, Tryd.ntmps45
  go_wp2_with fail
  refine (firstU_any s _ hs).mono ?_
  rintro e w1 ⟨rfl, hb1⟩
  rw [hu]
  have HB : Hid (Below w.heap.size w w1) := ((Below.refl _ w).alloc (Nat.le_refl _) _).trans (hb1.mono (by simp))
  have HT : Hid (TB w1 w.heap.size 0 0 0 0 ⟨#[]⟩ 0) := (TB.new w 0 0 0 0 ⟨#[]⟩ 0).below hb1 (by simp)
  obtain ⟨c0, c1, c2, c3, c4, c5⟩ := HT.out.cells
  obtain ⟨f0, f1, f2, f3, f4, f5⟩ := HT.out.frozen
  clear hb1
  go_wp2_with (first | (go_at_call 19; refine (reserved_any _ _).mono ?_; rintro e w' ⟨rfl, rfl⟩; rw [hr]) | fail)
  exact ret_tk rfl rfl rfl (HT.out.set 0 0 0 0 ⟨#[]⟩ 0) ⟨rfl, below_set6 HB.out (Nat.le_refl _) _ _ _ _ _ _⟩
set_option maxHeartbeats 1000000 in
theorem bare_rsv (s : ByteArray) (u : Nat) (n : Int) (w : World) (hs : s.size ≤ maxLen) (hu : firstU s = ((u : Int), n)) (hr : rsv u = true) (h1 : 32 ≤ u) (h2 : u ≠ 127) (h3 : u ≤ 1114111) : Calls Tryd.prog 45 #[.string s] w fun e w' => e = .returned (.tuple #[tk0, .int .i64 40]) ∧ Below w.heap.size w w' := by
  have d1 : decide ((u : Int) < 32) = false := by simp; omega
  have d2 : ((u : Int) == 127) = false := by simp; omega
  have d3 : decide ((1114111 : Int) < (u : Int)) = false := by simp; omega
  go_enter Tryd.func45, Tryd.ntmps45
  go_wp2_with fail
  refine (firstU_any s _ hs).mono ?_
  rintro e w1 ⟨rfl, hb1⟩
  rw [hu]
  have HB : Hid (Below w.heap.size w w1) := ((Below.refl _ w).alloc (Nat.le_refl _) _).trans (hb1.mono (by simp))
  have HT : Hid (TB w1 w.heap.size 0 0 0 0 ⟨#[]⟩ 0) := (TB.new w 0 0 0 0 ⟨#[]⟩ 0).below hb1 (by simp)
  obtain ⟨c0, c1, c2, c3, c4, c5⟩ := HT.out.cells
  obtain ⟨f0, f1, f2, f3, f4, f5⟩ := HT.out.frozen
  clear hb1
  go_wp2_with (first | (go_at_call 19; refine (reserved_any _ _).mono ?_; rintro e w' ⟨rfl, rfl⟩; rw [hr]) | fail)
  exact ret_tk rfl rfl rfl (HT.out.set 0 0 0 0 ⟨#[]⟩ 0) ⟨rfl, below_set6 HB.out (Nat.le_refl _) _ _ _ _ _ _⟩
theorem firstU_nat (s : ByteArray) : ∃ u : Nat, (firstU s).1 = (u : Int) := by
  unfold firstU
  split
  · exact ⟨0, rfl⟩
  · exact ⟨_, rfl⟩
end Go.Proofs
