/-
  How a thing is written.
-/
import Derived.Shelf.Abstract
import Derived.Shelf.RegionOpen
import Derived.WalkKit
import Derived.WalkSpells
import Derived.WalkLawsBesides
import Derived.BigQuiet
import Derived.Deep.QuietTactic
import Derived.Deep.LoopGhost
import Derived.Lib.OthersKept
import Derived.ScopeJumps
import Derived.WalkMore
import Derived.Maps.AppendAt
import Derived.Lib.SmallJoins
import Derived.Test.YthjjkenmlkekbaaDoorRc
namespace Go.Proofs
open Go.RowKit Go.Shelf

set_option maxRecDepth 100000
attribute [local go_sem] Oper.semAt_some

abbrev thing (kd nn : Int) (s : ByteArray) : Value := .agg #[.int .i64 kd, .int .i64 nn, .string s]
theorem results_tmp_cell {fn : Func} {p u : Tmp} {ty : TypeId} (h : fn.results = #[.tmp u, .cell p ty]) (tmps : Array Value) (P : Program) (w : World) :
    (results fn tmps).run P w = ((asAddr (tmps.getD p undef)).run P w).andThen fun a w₁ => ((loadVar ty a).run P w₁).andThen fun v w₂ => .ok (.tuple #[tmps.getD u undef, v]) w₂ := by
  simp only [results, h]
  simp [Sem.run_bind, Result.andThen]
theorem ret_st {fn : Func} {p q : Tmp} {W : World} {B : Nat} {tmps : Array Value} {k a l u : Int} {t s : ByteArray} {n : Int} {R : Ending → World → Prop} (hr : fn.results = #[.tmp q, .cell p 34]) (hp : tmps.getD p undef = .pointer (some ⟨B, 0, none⟩)) (hq : tmps.getD q undef = .string s) (h : TB W B k a l u t n)
    (K : R (.returned (.tuple #[.string s, tk k a l u t n])) W) : bodyPost Tryd.prog fn R Exit.ret { tmps := tmps, defers := [] } W := by
  refine bodyPost_ret (v := .tuple #[.string s, tk k a l u t n]) ?_ rfl K
  rw [results_tmp_cell hr]
  simp only [hp, hq]
  obtain ⟨c0, c1, c2, c3, c4, c5⟩ := h.cells
  simp [go_sem, Result.andThen, c0, c1, c2, c3, c4, c5]
theorem TB.new2 (w : World) (o : Obj) (k a l u : Int) (t : ByteArray) (n : Int) : TB ((w.alloc o).alloc (.cells #[.int .i64 k, .int .i64 a, .int .i64 l, .int .i64 u, .string t, .int .i64 n] 34)) (w.heap.size + 1) k a l u t n := by
  have := TB.new (w.alloc o) k a l u t n
  rwa [World.size_alloc] at this
theorem below2 (w : World) (o o' : Obj) : Below w.heap.size w ((w.alloc o).alloc o') := ((Below.refl _ w).alloc (Nat.le_refl _) o).alloc (by simp) o'
/-- how a thing is written, and its token -/
def Writes15 (x : Value) (s : ByteArray) (k u : Int) (t : ByteArray) (n : Int) : Prop := ∀ w : World, Tab w → Calls Tryd.prog 15 #[x] w fun e w' => e = .returned (.tuple #[.string s, tk k 0 0 u t n]) ∧ Below w.heap.size w w'
set_option maxHeartbeats 1000000 in
theorem written_unit (kd nn : Int) (s r : ByteArray) (u e0 : Int) (hk : kd % 6 = 0 ∨ kd % 6 = 1) (hu : Hid (∀ w : World, Calls Tryd.prog 28 #[.int .i64 nn] w fun e w' => e = .returned (.int .i64 u) ∧ w' = w))
    (hw : Hid (∀ w, Tab w → Calls Tryd.prog 8 #[.int .i64 u] w fun x w' => x = .returned (.tuple #[.string r, .int .i64 e0]) ∧ Below w.heap.size w w')) : Writes15 (thing kd nn s) r 1 u ⟨#[]⟩ 0 := by
  intro w hT
  have h2 : ∃ j : Int, kd % 6 = j ∧ (j = 0 ∨ j = 1) := ⟨_, rfl, hk⟩
  obtain ⟨j, hj, hj2⟩ := h2
  have HA : Hid (∀ W : World, Calls Tryd.prog 27 #[.int .i64 kd, .int .i64 6] W fun e w' => e = .returned (.int .i64 j) ∧ w' = W) := fun W => by
    have := among_any kd 6 W (by decide) (by decide)
    rwa [hj] at this
  have HT : Hid (Tab w) := hT
  clear hT hk hj
  rcases hj2 with rfl | rfl
  all_goals
    go_enter Tryd.func15, Tryd.ntmps15
    go_wp2_with fail
    refine (HA.out _).mono ?_
    rintro e w' ⟨rfl, rfl⟩
    go_wp2_with (go_at_call 28; refine (hu.out _).mono ?_; rintro e w' ⟨rfl, rfl⟩)
    go_wp2_with fail
    refine (hw.out _ (HT.out.below (((Below.refl _ w).alloc (Nat.le_refl _) _).alloc (by simp) _) HT.out.pos)).mono ?_
    rintro e w1 ⟨rfl, hb⟩
    have hTB := (TB.new2 w (.cells #[.int .i64 kd, .int .i64 nn, .string s] 41) 0 0 0 0 ⟨#[]⟩ 0).below hb (by simp)
    have hb2 : Below w.heap.size w w1 := (below2 w _ _).trans (hb.mono (by rw [World.size_alloc, World.size_alloc]; omega))
    obtain ⟨c0, c1, c2, c3, c4, c5⟩ := hTB.cells
    obtain ⟨f0, f1, f2, f3, f4, f5⟩ := hTB.frozen
    go_wp2_with fail
    exact ret_st (B := w.heap.size + 1) rfl rfl rfl (hTB.set 1 0 0 u ⟨#[]⟩ 0) ⟨rfl, below_set6 hb2 (by omega) _ _ _ _ _ _⟩
set_option maxHeartbeats 1000000 in
theorem written_sign (kd nn : Int) (s : ByteArray) (hk : kd % 6 = 2) : Writes15 (thing kd nn s) (signB (10 + nn % 13)) (10 + nn % 13) 0 ⟨#[]⟩ 0 := by
  intro w hT
  have h0 := Int.emod_nonneg nn (show (13 : Int) ≠ 0 by decide)
  have h13 := Int.emod_lt_of_pos nn (show (0 : Int) < 13 by decide)
  have HA : Hid (∀ W : World, Calls Tryd.prog 27 #[.int .i64 kd, .int .i64 6] W fun e w' => e = .returned (.int .i64 2) ∧ w' = W) := fun W => by
    have := among_any kd 6 W (by decide) (by decide)
    rwa [hk] at this
  have HB : Hid (∀ W : World, Calls Tryd.prog 27 #[.int .i64 nn, .int .i64 13] W fun e w' => e = .returned (.int .i64 (nn % 13)) ∧ w' = W) := fun W => among_any nn 13 W (by decide) (by decide)
  have HS : Hid (∀ W : World, Calls Tryd.prog 10 #[.int .i64 (10 + nn % 13)] W fun e w' => e = .returned (.string (signB (10 + nn % 13))) ∧ w' = W) := fun W => sign_any _ W
  generalize signB (10 + nn % 13) = r at HS ⊢
  generalize nn % 13 = j at HB HS h0 h13 ⊢
  go_enter Tryd.func15, Tryd.ntmps15
  go_wp2_with fail
  refine (HA.out _).mono ?_
  rintro e w' ⟨rfl, rfl⟩
  go_wp2_with fail
  refine (HB.out _).mono ?_
  rintro e w' ⟨rfl, rfl⟩
  go_wp2_with (go_at_call 10; refine (HS.out _).mono ?_; rintro e w' ⟨rfl, rfl⟩)
  refine ret_st (B := w.heap.size + 1) rfl rfl rfl (TB.new2 w _ _ _ _ _ _ _) ⟨rfl, below2 w _ _⟩
set_option maxHeartbeats 1000000 in
theorem written_copy (kd nn : Int) (s : ByteArray) (m : Nat) (hk : kd % 6 = 5) (hm : nn % 999999999 = (m : Int)) : Writes15 (thing kd nn s) ⟨(64 :: decF 9 (m + 1)).toArray⟩ 3 0 ⟨#[]⟩ ((m : Int) + 1) := by
  intro w hT
  have h13 := Int.emod_lt_of_pos nn (show (0 : Int) < 999999999 by decide)
  have HA : Hid (∀ W : World, Calls Tryd.prog 27 #[.int .i64 kd, .int .i64 6] W fun e w' => e = .returned (.int .i64 5) ∧ w' = W) := fun W => by
    have := among_any kd 6 W (by decide) (by decide)
    rwa [hk] at this
  have HB : Hid (∀ W : World, Calls Tryd.prog 27 #[.int .i64 nn, .int .i64 999999999] W fun e w' => e = .returned (.int .i64 m) ∧ w' = W) := fun W => by
    have := among_any nn 999999999 W (by decide) (by decide)
    rwa [hm] at this
  have hml : m < 999999999 := by omega
  have HD : Hid (∀ W : World, Calls Tryd.prog 30 #[.int .i64 (1 + (m : Int))] W fun e w' => e = .returned (.string ⟨(decF 9 (m + 1)).toArray⟩) ∧ Below W.heap.size W w') := fun W => by
    have := digitsR_any 8 (m + 1) W (by omega) (by omega)
    rwa [show ((m + 1 : Nat) : Int) = 1 + (m : Int) by omega] at this
  have hz := decF_len 9 (m + 1)
  generalize decF 9 (m + 1) = L at HD hz ⊢
  clear hm h13 hT
  rw [show (m : Int) + 1 = 1 + (m : Int) by omega]
  go_enter Tryd.func15, Tryd.ntmps15
  go_wp2_with fail
  refine (HA.out _).mono ?_
  rintro e w' ⟨rfl, rfl⟩
  go_wp2_with fail
  refine (HB.out _).mono ?_
  rintro e w' ⟨rfl, rfl⟩
  go_wp2_with fail
  refine (HD.out _).mono ?_
  rintro e w1 ⟨rfl, hb⟩
  have hTB := (TB.new2 w (.cells #[.int .i64 kd, .int .i64 nn, .string s] 41) 0 0 0 0 ⟨#[]⟩ 0).below hb (by simp)
  have hb2 : Below w.heap.size w w1 := (below2 w _ _).trans (hb.mono (by rw [World.size_alloc, World.size_alloc]; omega))
  obtain ⟨c0, c1, c2, c3, c4, c5⟩ := hTB.cells
  obtain ⟨f0, f1, f2, f3, f4, f5⟩ := hTB.frozen
  go_wp2_with fail
  refine ret_st (B := w.heap.size + 1) rfl rfl rfl (hTB.set 3 0 0 0 ⟨#[]⟩ (1 + (m : Int))) ⟨?_, below_set6 hb2 (by omega) _ _ _ _ _ _⟩
  rw [app_mk]
  simp
/-- where written stands when it asks for names -/
def Gd (s : ByteArray) (w W : World) : Prop := w.heap.size + 2 ≤ W.heap.size ∧ W.cell? ⟨w.heap.size, 2, none⟩ = some (.string s) ∧ TB W (w.heap.size + 1) 0 0 0 0 ⟨#[]⟩ 0 ∧ Below w.heap.size w W
theorem Gd.below {s : ByteArray} {w W W' : World} (h : Gd s w W) (hb : Below W.heap.size W W') : Gd s w W' := by
  have h1 := h.1
  have h2 := hb.size
  exact ⟨by omega, (hb.cell (p := ⟨w.heap.size, 2, none⟩) (by show w.heap.size < _; omega)).trans h.2.1, h.2.2.1.below hb (by omega), h.2.2.2.trans (hb.mono (by omega))⟩
theorem Gd.start (s : ByteArray) (w : World) (kd nn : Int) : Gd s w (((w.alloc (.cells #[.int .i64 kd, .int .i64 nn, .string s] 41)).alloc (.cells #[.int .i64 0, .int .i64 0, .int .i64 0, .int .i64 0, .string ⟨#[]⟩, .int .i64 0] 34)).drew) :=
  ⟨by simp, by simp, TB.new2 w _ 0 0 0 0 ⟨#[]⟩ 0, (below2 w _ _).drew⟩
end Go.Proofs
