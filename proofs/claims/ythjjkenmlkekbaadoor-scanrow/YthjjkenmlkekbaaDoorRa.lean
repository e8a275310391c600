/-
  What the statement of rows makes its texts of: places among many, units, gaps.
-/
import Derived.Shelf.Abstract
import Derived.Shelf.RegionOpen
import Derived.WalkKit
import Derived.WalkSpells
import Derived.WalkLawsBesides
import Derived.BigQuiet
import Derived.Deep.QuietTactic
import Derived.Deep.LoopGhost
import Derived.Lib.OthersKept
import Derived.ScopeJumps
import Derived.WalkMore
import Derived.Maps.AppendAt
import Derived.Lib.SmallJoins
import Derived.Test.YthjjkenmlkekbaaDoorRu
import Derived.Test.YthjjkenmlkekbaaDoorPo
namespace Go.Proofs
open Go.RowKit Go.Shelf

set_option maxRecDepth 100000
attribute [local go_sem] Oper.semAt_some


theorem tmod_facts (i n : Int) (hn : 0 < n) : (i.tmod n < 0 → i % n = i.tmod n + n) ∧ (0 ≤ i.tmod n → i % n = i.tmod n) ∧ -n < i.tmod n ∧ i.tmod n < n := by
  have h := Int.tmod_eq_emod (a := i) (b := n)
  have h1 := Int.emod_nonneg i (show n ≠ 0 by omega)
  have h2 := Int.emod_lt_of_pos i hn
  split at h
  · omega
  · rename_i hh
    have h3 : i % n ≠ 0 := fun e => hh (.inr (Int.dvd_of_emod_eq_zero e))
    omega
set_option maxHeartbeats 1000000 in
theorem among_any (i n : Int) (w : World) (hn : 0 < n) (hb : n ≤ 4611686018427387904) : Calls Tryd.prog 27 #[.int .i64 i, .int .i64 n] w fun e w' => e = .returned (.int .i64 (i % n)) ∧ w' = w := by
  obtain ⟨f1, f2, h1, h2⟩ := tmod_facts i n hn
  have hn0 : (n == 0) = false := by simp; omega
  by_cases hd : i.tmod n < 0
  · rw [f1 hd]
    have hw : wrap64 (i.tmod n + n) = i.tmod n + n := by
      unfold wrap64
      omega
    clear f1 f2
    go_enter Tryd.func27, Tryd.ntmps27
    go_wp2
    go_ret
    exact ⟨rfl, rfl⟩
  · rw [f2 (by omega)]
    clear f1 f2
    go_enter Tryd.func27, Tryd.ntmps27
    go_wp2
    go_ret
    exact ⟨rfl, rfl⟩
/-- one of all units, by a number -/
def unitOf (m : Nat) : Nat := if m < 55296 then m else if m < 1112064 then m + 2048 else m + 2176
theorem unitOf_wd (m : Nat) (h : m < 1112192) : wd (unitOf m) ≠ 0 := by
  unfold unitOf
  split
  · by_cases h1 : m < 128
    · rw [wd_1 (by omega)]; decide
    · by_cases h2 : m < 2048
      · rw [wd_2 (by omega)]; decide
      · rw [wd_3 (by omega)]; decide
  · split
    · by_cases h1 : m + 2048 < 65536
      · rw [wd_3 (by omega)]; decide
      · rw [wd_4 (by omega)]; decide
    · rw [wd_1 (by omega)]; decide
set_option maxHeartbeats 1000000 in
theorem unitR_any (n : Int) : ∃ m : Nat, m < 1112192 ∧ ∀ w : World, Calls Tryd.prog 28 #[.int .i64 n] w fun e w' => e = .returned (.int .i64 (unitOf m)) ∧ w' = w := by
  have h1 := Int.emod_nonneg n (show (1112192 : Int) ≠ 0 by decide)
  have h2 := Int.emod_lt_of_pos n (show (0 : Int) < 1112192 by decide)
  obtain ⟨m, hm⟩ : ∃ m : Nat, n % 1112192 = (m : Int) := ⟨(n % 1112192).toNat, by omega⟩
  have hA : Hid (∀ W : World, Calls Tryd.prog 27 #[.int .i64 n, .int .i64 1112192] W fun e w' => e = .returned (.int .i64 m) ∧ w' = W) := fun W => by
    have := among_any n 1112192 W (by decide) (by decide)
    rwa [hm] at this
  have hlt : m < 1112192 := by omega
  refine ⟨m, hlt, fun w => ?_⟩
  clear h1 h2 hm
  unfold unitOf
  by_cases c1 : m < 55296
  · rw [if_pos c1]
    have d1 : decide ((m : Int) < 55296) = true := by simp; omega
    go_enter Tryd.func28, Tryd.ntmps28
    go_wp2_with (go_at_call 27; refine (hA.out _).mono ?_; rintro e w' ⟨rfl, rfl⟩)
    go_ret
    exact ⟨rfl, rfl⟩
  · rw [if_neg c1]
    have d1 : decide ((m : Int) < 55296) = false := by simp; omega
    by_cases c2 : m < 1112064
    · rw [if_pos c2]
      have d2 : decide ((m : Int) < 1112064) = true := by simp; omega
      go_enter Tryd.func28, Tryd.ntmps28
      go_wp2_with (go_at_call 27; refine (hA.out _).mono ?_; rintro e w' ⟨rfl, rfl⟩)
      go_ret
      exact ⟨by simp, rfl⟩
    · rw [if_neg c2]
      have d2 : decide ((m : Int) < 1112064) = false := by simp; omega
      go_enter Tryd.func28, Tryd.ntmps28
      go_wp2_with (go_at_call 27; refine (hA.out _).mono ?_; rintro e w' ⟨rfl, rfl⟩)
      go_ret
      refine ⟨?_, rfl⟩
      simp
      omega
/-! gaps -/
def gaps6 : List ByteArray := [⟨#[32]⟩, ⟨#[10]⟩, ⟨#[9, 32, 13, 10]⟩, ⟨#[35, 32, 93, 59, 255, 32, 64, 48, 32, 92, 10]⟩, ⟨#[32, 32]⟩, ⟨#[35, 10]⟩]
theorem gap_at (j : Nat) (hj : j < 6) (n : Int) (w : World) (hA : Hid (∀ W : World, Calls Tryd.prog 27 #[.int .i64 n, .int .i64 6] W fun e w' => e = .returned (.int .i64 j) ∧ w' = W)) : Calls Tryd.prog 26 #[.int .i64 n] w fun e w' => e = .returned (.string (gaps6[j]'hj)) ∧ Below w.heap.size w w' := by
  match j, hj with
  | 0, _ =>
    go_enter Tryd.func26, Tryd.ntmps26
    go_wp2_with (go_at_call 27; refine (hA.out _).mono ?_; rintro e w' ⟨rfl, rfl⟩)
    go_ret
    exact ⟨rfl, (Below.refl _ _).alloc (Nat.le_refl _) _⟩
  | 1, _ =>
    go_enter Tryd.func26, Tryd.ntmps26
    go_wp2_with (go_at_call 27; refine (hA.out _).mono ?_; rintro e w' ⟨rfl, rfl⟩)
    go_ret
    exact ⟨rfl, (Below.refl _ _).alloc (Nat.le_refl _) _⟩
  | 2, _ =>
    go_enter Tryd.func26, Tryd.ntmps26
    go_wp2_with (go_at_call 27; refine (hA.out _).mono ?_; rintro e w' ⟨rfl, rfl⟩)
    go_ret
    exact ⟨rfl, (Below.refl _ _).alloc (Nat.le_refl _) _⟩
  | 3, _ =>
    go_enter Tryd.func26, Tryd.ntmps26
    go_wp2_with (go_at_call 27; refine (hA.out _).mono ?_; rintro e w' ⟨rfl, rfl⟩)
    go_ret
    exact ⟨rfl, (Below.refl _ _).alloc (Nat.le_refl _) _⟩
  | 4, _ =>
    go_enter Tryd.func26, Tryd.ntmps26
    go_wp2_with (go_at_call 27; refine (hA.out _).mono ?_; rintro e w' ⟨rfl, rfl⟩)
    go_ret
    exact ⟨rfl, (Below.refl _ _).alloc (Nat.le_refl _) _⟩
  | 5, _ =>
    go_enter Tryd.func26, Tryd.ntmps26
    go_wp2_with (go_at_call 27; refine (hA.out _).mono ?_; rintro e w' ⟨rfl, rfl⟩)
    go_ret
    exact ⟨rfl, (Below.refl _ _).alloc (Nat.le_refl _) _⟩
theorem gap_any (n : Int) : ∃ j : Nat, ∃ hj : j < 6, ∀ w : World, Calls Tryd.prog 26 #[.int .i64 n] w fun e w' => e = .returned (.string (gaps6[j]'hj)) ∧ Below w.heap.size w w' := by
  have h1 := Int.emod_nonneg n (show (6 : Int) ≠ 0 by decide)
  have h2 := Int.emod_lt_of_pos n (show (0 : Int) < 6 by decide)
  refine ⟨(n % 6).toNat, by omega, fun w => gap_at _ _ n w (fun W => ?_)⟩
  have := among_any n 6 W (by decide) (by decide)
  rw [show (((n % 6).toNat : Nat) : Int) = n % 6 by omega]
  exact this
end Go.Proofs
