/-
  The reference's rows of partners and its Lower, Upper: the same answers.
-/
import Derived.RangeFuncNested
import Derived.RangeFuncBound
import Derived.RangeFuncCalls
import Derived.RangeFuncLeaves
import Derived.Shelf.SlSorted.Search
import Derived.Deep.MidRow
import Derived.Maps.OwnSet
import Derived.Maps.OwnOps
import Derived.Shelf.Abstract
import Derived.Shelf.RegionOpen
import Derived.WalkKit
import Derived.WalkSpells
import Derived.WalkLawsBesides
import Derived.OwnWalkIn
import Derived.TacticsInMore
import Derived.LoopNIn
import Derived.LoopIn
import Derived.BigQuiet
import Derived.RegionIn
import Derived.Deep.QuietTactic
import Derived.Deep.RegionWith
import Derived.Lib.OthersKept
import Derived.Maps.AppendAt
import Derived.Lib.SmallJoins
import Derived.Shelf.SlSortCmp.QuietGrown
import Derived.Deep.DrawnRows
import Derived.Test.YtaekagipnolhiaaDoorCa
namespace Go.Proofs
open Go.RowKit Go.Shelf

set_option maxRecDepth 100000
attribute [local go_sem] Oper.semAt_some

theorem new_cell (W : World) (cs : Array Value) (t : TypeId) (j : Nat) {v : Value} (hv : cs[j]? = some v) : (W.alloc (.cells cs t)).cell? ⟨W.heap.size, j, none⟩ = some v := by
  simp [hv]
set_option maxHeartbeats 1000000 in
theorem partners_any (w : World) : Calls Tryd.prog 23 #[] w fun e w' => e = .returned (.slice (some ⟨w.heap.size, 0, none⟩) 7 7) ∧ w' = w.alloc (.cells gV 58) := by
  go_enter Tryd.func23, Tryd.ntmps23
  go_wp2
  go_ret
  exact ⟨rfl, rfl⟩

set_option maxHeartbeats 2000000 in
theorem rlower_any (u : Int) (w : World) (h1 : -9223372036854775808 ≤ u) (h2 : u ≤ 9223372036854775807) : Calls Tryd.prog 15 #[.int .i64 u] w fun e w' => e = .returned (.int .i64 (lowU u)) ∧ Grown w w' := by
  obtain ⟨r, hr⟩ : ∃ r : Int, lowFrom gRow u = r := ⟨_, rfl⟩
  have HR : Hid (lowFrom gRow u = r) := hr
  unfold lowU
  rw [hr]
  clear hr
  go_enter Tryd.func15, Tryd.ntmps15
  go_wp2_with fail
  refine (partners_any _).mono ?_
  rintro e w1 ⟨rfl, hb1⟩
  have hc : ∀ j v, gV[j]? = some v → w1.cell? ⟨w.heap.size, j, none⟩ = some v := fun j v hv => by rw [hb1]; exact new_cell _ _ _ _ hv
  have HG1 : Hid (Grown w w1) := by rw [hb1]; exact (Grown.refl w).alloc _
  obtain ⟨B, hB⟩ : ∃ B, w.heap.size = B := ⟨_, rfl⟩
  rw [hB] at hc
  rw [hB]
  clear hb1 hB
  go_wp2
  go_loopw [4] (fun vi wr => ∃ k : Nat, vi = .int .i64 k ∧ k ≤ 7 ∧ Hid (lowFrom (gRow.drop k) u = r) ∧ wr = w1) (fun vi _ => 7 - (intOf vi).toNat)
  case atStart => exact ⟨0, rfl, by omega, HR.out, rfl⟩
  case round =>
    obtain ⟨k, rfl, hk, HK, rfl⟩ := hrel
    by_cases hk7 : k = 7
    · subst hk7
      have e : r = u := HK.out.symm
      subst e
      clear hc
      go_wp2
      go_ret
      exact ⟨rfl, HG1.out⟩
    · obtain ⟨f, l, b, hd, b1, b2, b3, b4, b5, v0, v1, v2, -⟩ := rowAt k (by omega)
      have c0 := hc _ _ v0
      have c1 := hc _ _ v1
      have c2 := hc _ _ v2
      rw [Nat.mul_comm 3 k] at c0 c1 c2
      clear hc v0 v1 v2
      have HD : Hid (gRow.drop k = (f, l, b) :: gRow.drop (k + 1)) := hd
      clear hd
      by_cases d1 : f ≤ u
      · by_cases d2 : u ≤ l
        · have e : r = u + b := by rw [← HK.out, HD.out]; simp only [lowFrom]; rw [if_pos ⟨d1, d2⟩]
          subst e
          go_wp2
          go_ret
          exact ⟨rfl, HG1.out⟩
        · have dd : decide (u ≤ l) = false := by simp; omega
          have HN : Hid (lowFrom (gRow.drop (k + 1)) u = r) := by show _ = _; rw [← HK.out, HD.out]; simp only [lowFrom]; rw [if_neg (fun h => d2 h.2)]
          go_wp2
          exact ⟨⟨k + 1, by go_num, by omega, HN, by trivial⟩, by simp [intOf]; omega⟩
      · have dd : decide (f ≤ u) = false := by simp; omega
        have HN : Hid (lowFrom (gRow.drop (k + 1)) u = r) := by show _ = _; rw [← HK.out, HD.out]; simp only [lowFrom]; rw [if_neg (fun h => d1 h.1)]
        go_wp2
        exact ⟨⟨k + 1, by go_num, by omega, HN, by trivial⟩, by simp [intOf]; omega⟩

set_option maxHeartbeats 2000000 in
theorem rupper_any (u : Int) (w : World) (h1 : -9223372036854775808 ≤ u) (h2 : u ≤ 9223372036854775807) : Calls Tryd.prog 17 #[.int .i64 u] w fun e w' => e = .returned (.int .i64 (upU u)) ∧ Grown w w' := by
  obtain ⟨r, hr⟩ : ∃ r : Int, upFrom gRow u = r := ⟨_, rfl⟩
  have HR : Hid (upFrom gRow u = r) := hr
  unfold upU
  rw [hr]
  clear hr
  go_enter Tryd.func17, Tryd.ntmps17
  go_wp2_with fail
  refine (partners_any _).mono ?_
  rintro e w1 ⟨rfl, hb1⟩
  have hc : ∀ j v, gV[j]? = some v → w1.cell? ⟨w.heap.size, j, none⟩ = some v := fun j v hv => by rw [hb1]; exact new_cell _ _ _ _ hv
  have HG1 : Hid (Grown w w1) := by rw [hb1]; exact (Grown.refl w).alloc _
  obtain ⟨B, hB⟩ : ∃ B, w.heap.size = B := ⟨_, rfl⟩
  rw [hB] at hc
  rw [hB]
  clear hb1 hB
  go_wp2
  go_loopw [4] (fun vi wr => ∃ k : Nat, vi = .int .i64 k ∧ k ≤ 7 ∧ Hid (upFrom (gRow.drop k) u = r) ∧ Grown w1 wr) (fun vi _ => 7 - (intOf vi).toNat)
  case atStart => exact ⟨0, rfl, by omega, HR.out, Grown.refl _⟩
  case round =>
    obtain ⟨k, rfl, hk, HK, hGr⟩ := hrel
    have HG : Hid (Grown w1 wr) := hGr
    replace hc : ∀ j v, gV[j]? = some v → wr.cell? ⟨B, j, none⟩ = some v := fun j v hv => hGr.cellv (hc j v hv)
    clear hGr
    by_cases hk7 : k = 7
    · subst hk7
      have e : r = u := HK.out.symm
      subst e
      clear hc
      go_wp2
      go_ret
      exact ⟨rfl, HG1.out.trans HG.out⟩
    · obtain ⟨f, l, b, hd, b1, b2, b3, b4, b5, v0, v1, v2, -⟩ := rowAt k (by omega)
      have c0 := hc _ _ v0
      have c1 := hc _ _ v1
      have c2 := hc _ _ v2
      rw [Nat.mul_comm 3 k] at c0 c1 c2
      clear hc v0 v1 v2
      have HD : Hid (gRow.drop k = (f, l, b) :: gRow.drop (k + 1)) := hd
      clear hd
      by_cases d1 : f + b ≤ u
      · by_cases d2 : u ≤ l + b
        · have e : r = u - b := by rw [← HK.out, HD.out]; simp only [upFrom]; rw [if_pos ⟨d1, d2⟩]
          subst e
          go_wp2
          go_quiet (fail)
          go_wp2
          go_ret
          exact ⟨rfl, HG1.out.trans (HG.out.drewN _)⟩
        · have dd : decide (u ≤ l + b) = false := by simp; omega
          have HN : Hid (upFrom (gRow.drop (k + 1)) u = r) := by show _ = _; rw [← HK.out, HD.out]; simp only [upFrom]; rw [if_neg (fun h => d2 h.2)]
          go_wp2
          go_quiet (fail)
          go_wp2
          exact ⟨⟨k + 1, by go_num, by omega, HN, HG.out.drewN _⟩, by simp [intOf]; omega⟩
      · have dd : decide (f + b ≤ u) = false := by simp; omega
        have HN : Hid (upFrom (gRow.drop (k + 1)) u = r) := by show _ = _; rw [← HK.out, HD.out]; simp only [upFrom]; rw [if_neg (fun h => d1 h.1)]
        go_wp2
        go_quiet (fail)
        go_wp2
        exact ⟨⟨k + 1, by go_num, by omega, HN, HG.out.drewN _⟩, by simp [intOf]; omega⟩
end Go.Proofs
