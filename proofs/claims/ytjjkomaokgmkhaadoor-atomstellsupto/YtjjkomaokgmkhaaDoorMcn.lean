/-
  Whether an atom is in a set.
-/
import Derived.RangeFuncNested
import Derived.RangeFuncBound
import Derived.RangeFuncCalls
import Derived.RangeFuncLeaves
import Derived.Shelf.Abstract
import Derived.Shelf.RegionOpen
import Derived.WalkKit
import Derived.WalkSpells
import Derived.WalkLawsBesides
import Derived.OwnWalkIn
import Derived.TacticsInMore
import Derived.LoopNIn
import Derived.LoopIn
import Derived.BigQuiet
import Derived.RegionIn
import Derived.Deep.QuietTactic
import Derived.Deep.RegionWith
import Derived.Lib.OthersKept
import Derived.Maps.AppendAt
import Derived.Lib.SmallJoins
import Derived.Shelf.SlSortCmp.QuietGrown
import Derived.Test.YtjjkomaokgmkhaaDoorMbn
namespace Go.Proofs
open Go.RowKit Go.Shelf

set_option maxRecDepth 100000
attribute [local go_sem] Oper.semAt_some
attribute [local go_sem ↓] Go.wp_at_zero Go.wp_at_succ

theorem in_out {w : World} {base B n : Nat} {s : FS} {hi : Nat} (h : Tbl w base B n s hi) (hs : s.sp.length ≤ 10000) (a m : Int) (ha : ¬ (0 ≤ a ∧ a < (s.sp.length : Int))) : Calls Tryd.prog 17 #[.pointer (some ⟨B, 0, none⟩), .int .i64 a, .int .i64 m] w fun e w' => e = .returned (.bool false) ∧ Grown w w' := by
  obtain ⟨sv, bv, pv, wv, mv, sps, h1, h2, h3⟩ := h
  have hl : sps.length = s.sp.length := by rw [← h2]; simp
  have HC : Hid (∀ q os, Calls Tryd.prog 29 #[.pointer (some ⟨B, 0, none⟩), .int .i64 a] (Go.Sort.grow (w.drewN q) os) fun e w' => e = .returned (.bool false) ∧ Grown (Go.Sort.grow (w.drewN q) os) w') := fun q os => by
    have H := has29 (h1.grown ((Grown.refl w).quiet q os)) (by omega) a
    rw [hl, show decide (0 ≤ a ∧ a < (s.sp.length : Int)) = false by simpa using ha] at H
    exact H.mono (by rintro e w' ⟨rfl, rfl⟩; exact ⟨rfl, Grown.refl _⟩)
  clear h1 h2 h3 ha hs hl
  go_enter Tryd.func17, Tryd.ntmps17
  go_wp2
  refine wp_region_quiet_grown mixed (by kernel_rfl) ?_
  repeat (go_big_quiet_step ((go_at_call 29; exact grown_of (HC.out _ _))))
  refine wpQuiet_nil ?_
  intro _ hw'
  obtain ⟨⟨nq, osq⟩, hw''⟩ := hw'
  subst hw''
  go_wp2
  go_ret
  exact ⟨rfl, (Grown.refl _).quiet _ _⟩

theorem in_not {w : World} {base B n : Nat} {s : FS} {hi : Nat} (h : Tbl w base B n s hi) (hs : s.sp.length ≤ 10000) (a m : Int) (ha : 0 ≤ a ∧ a < (s.sp.length : Int)) (hm : ¬ (0 ≤ m ∧ m < (n : Int))) : Calls Tryd.prog 17 #[.pointer (some ⟨B, 0, none⟩), .int .i64 a, .int .i64 m] w fun e w' => e = .returned (.bool false) ∧ Grown w w' := by
  obtain ⟨sv, bv, pv, wv, mv, sps, h1, h2, h3⟩ := h
  have hl : sps.length = s.sp.length := by rw [← h2]; simp
  have HC : Hid (∀ q os, Calls Tryd.prog 29 #[.pointer (some ⟨B, 0, none⟩), .int .i64 a] (Go.Sort.grow (w.drewN q) os) fun e w' => e = .returned (.bool true) ∧ Grown (Go.Sort.grow (w.drewN q) os) w') := fun q os => by
    have H := has29 (h1.grown ((Grown.refl w).quiet q os)) (by omega) a
    rw [hl, show decide (0 ≤ a ∧ a < (s.sp.length : Int)) = true by simpa using ha] at H
    exact H.mono (by rintro e w' ⟨rfl, rfl⟩; exact ⟨rfl, Grown.refl _⟩)
  have c0 : ∀ q os, (Go.Sort.grow (w.drewN q) os).cell? ⟨B, 0, none⟩ = some (.int .i64 (n : Int)) := fun q os => ((Grown.refl w).quiet q os).cellv (heap_cellv h1.blk rfl)
  clear h1 h2 h3 ha hs hl
  by_cases h0 : 0 ≤ m
  · have h0' : decide (0 ≤ m) = true := by simpa using h0
    have h1 : ¬ m < (n : Int) := fun e => hm ⟨h0, e⟩
    have h1' : decide (m < (n : Int)) = false := by simpa using h1
    clear hm
    go_enter Tryd.func17, Tryd.ntmps17
    go_wp2
    refine wp_region_quiet_grown mixed (by kernel_rfl) ?_
    repeat (go_big_quiet_step ((go_at_call 29; exact grown_of (HC.out _ _))))
    refine wpQuiet_nil ?_
    intro _ hw'
    obtain ⟨⟨nq, osq⟩, hw''⟩ := hw'
    subst hw''
    go_wp2
    go_ret
    exact ⟨rfl, (Grown.refl _).quiet _ _⟩
  · have h0' : decide (0 ≤ m) = false := by simpa using h0
    clear hm
    go_enter Tryd.func17, Tryd.ntmps17
    go_wp2
    refine wp_region_quiet_grown mixed (by kernel_rfl) ?_
    repeat (go_big_quiet_step ((go_at_call 29; exact grown_of (HC.out _ _))))
    refine wpQuiet_nil ?_
    intro _ hw'
    obtain ⟨⟨nq, osq⟩, hw''⟩ := hw'
    subst hw''
    go_wp2
    go_ret
    exact ⟨rfl, (Grown.refl _).quiet _ _⟩
set_option maxHeartbeats 4000000 in
theorem in_yes {w : World} {base B n : Nat} {s : FS} {hi : Nat} (h : Tbl w base B n s hi) (hs : s.sp.length ≤ 10000) (hwl : s.sp.length = s.wh.length) (hh : hi ≤ 10002) (hpl : s.ps.length ≤ 1000000000) (hnb : n ≤ 10000) {k m w0 : Nat} (hk : s.wh[k]? = some w0) (hm : m < n) (hok : hasOk s.ps hi w0 (m / 64)) (hv : hasP s.ps hi w0 (m / 64) < 18446744073709551616) : Calls Tryd.prog 17 #[.pointer (some ⟨B, 0, none⟩), .int .i64 (k : Int), .int .i64 (m : Int)] w fun e w' => e = .returned (.bool (inP s.ps hi w0 m)) ∧ Grown w w' := by
  obtain ⟨sv, bv, pv, wv, mv, sps, h1, h2, h3⟩ := h
  have hl : sps.length = s.sp.length := by rw [← h2]; simp
  have hkl := (List.getElem?_eq_some_iff.1 hk).1
  have HC : Hid (∀ q os, Calls Tryd.prog 29 #[.pointer (some ⟨B, 0, none⟩), .int .i64 (k : Int)] (Go.Sort.grow (w.drewN q) os) fun e w' => e = .returned (.bool true) ∧ Grown (Go.Sort.grow (w.drewN q) os) w') := fun q os => by
    have H := has29 (h1.grown ((Grown.refl w).quiet q os)) (by omega) (k : Int)
    rw [hl, show decide (0 ≤ (k : Int) ∧ (k : Int) < (s.sp.length : Int)) = true by simp; omega] at H
    exact H.mono (by rintro e w' ⟨rfl, rfl⟩; exact ⟨rfl, Grown.refl _⟩)
  have HM : Hid (∀ q os, Calls Tryd.prog 31 #[.pointer (some ⟨B, 5, none⟩), .int .u64 (w0 : Int), .int .i64 (m : Int)] (Go.Sort.grow (w.drewN q) os) fun e w' => e = .returned (.bool (inP s.ps hi w0 m)) ∧ Grown (Go.Sort.grow (w.drewN q) os) w') := fun q os => by
    have hg := (Grown.refl w).quiet q os
    exact has31 (hg.cellv (heap_cellv h1.blk rfl)) (hg.cellv (heap_cellv h1.blk rfl)) (own_fr h3 (fr_grown hg fun _ => False) fun _ _ e => e) hh hpl w0 m (by omega) hok hv
  have c0 : ∀ q os, (Go.Sort.grow (w.drewN q) os).cell? ⟨B, 0, none⟩ = some (.int .i64 (n : Int)) := fun q os => ((Grown.refl w).quiet q os).cellv (heap_cellv h1.blk rfl)
  obtain ⟨wb, wc, hwe, hcell⟩ : ∃ wb wc, wv = .slice (some ⟨wb, 0, none⟩) s.wh.length wc ∧ w.cell? ⟨wb, k, none⟩ = some (.int .u64 (w0 : Int)) := by
    rcases h1.wo.2 with ⟨_, e⟩ | ⟨g, cap, cur, e, _, hg, hc, _, hsz, ht⟩
    · omega
    · refine ⟨g, cap, e, heap_cellv hg ?_⟩
      have h5 : (uwv s.wh)[k]? = some (.int .u64 (w0 : Int)) := by unfold uwv; rw [List.getElem?_map, hk]; rfl
      rw [← ht, List.getElem?_take, if_pos (by omega), Array.getElem?_toList] at h5
      exact h5
  obtain ⟨wn, hwn⟩ : ∃ wn, s.wh.length = wn := ⟨_, rfl⟩
  rw [hwn] at hwe
  subst hwe
  have c4 : ∀ q os, (Go.Sort.grow (w.drewN q) os).cell? ⟨B, 4, none⟩ = some (.slice (some ⟨wb, 0, none⟩) wn wc) := fun q os => ((Grown.refl w).quiet q os).cellv (heap_cellv h1.blk rfl)
  have cw : ∀ q os, (Go.Sort.grow (w.drewN q) os).cell? ⟨wb, k, none⟩ = some (.int .u64 (w0 : Int)) := fun q os => ((Grown.refl w).quiet q os).cellv hcell
  have hkI : (k : Int) < (wn : Int) := by omega
  have hmI : (m : Int) < (n : Int) := by omega
  have hmI' : decide ((m : Int) < (n : Int)) = true := by simpa using hm
  obtain ⟨r, hr⟩ : ∃ r, inP s.ps hi w0 m = r := ⟨_, rfl⟩
  rw [hr] at HM ⊢
  clear h1 h2 h3 hs hl hk hkl hok hv hcell hwn hr hwl
  go_enter Tryd.func17, Tryd.ntmps17
  go_wp2
  refine wp_region_quiet_grown mixed (by kernel_rfl) ?_
  repeat (go_big_quiet_step (first | (go_at_call 29; exact grown_of (HC.out _ _)) | (go_at_call 31; exact grown_of (HM.out _ _))))
  refine wpQuiet_nil ?_
  intro _ hw'
  obtain ⟨⟨nq, osq⟩, hw''⟩ := hw'
  subst hw''
  go_wp2
  go_ret
  exact ⟨rfl, (Grown.refl _).quiet _ _⟩
end Go.Proofs
