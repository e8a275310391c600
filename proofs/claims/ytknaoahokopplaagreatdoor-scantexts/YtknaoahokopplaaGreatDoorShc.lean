/-
  The examples at the head of each statement hold: shown answers true.
-/
import Derived.Shelf.Abstract
import Derived.Shelf.RegionOpen
import Derived.WalkKit
import Derived.WalkSpells
import Derived.WalkLawsBesides
import Derived.BigQuiet
import Derived.Deep.QuietTactic
import Derived.Deep.LoopGhost
import Derived.Lib.OthersKept
import Derived.ScopeJumps
import Derived.WalkMore
import Derived.Maps.AppendAt
import Derived.Lib.SmallJoins
import Derived.Test.YtknaoahokopplaaGreatDoorSmc
import Derived.Test.YtknaoahokopplaaGreatDoorXhc
import Derived.Test.YtknaoahokopplaaGreatDoorWac
namespace Go.Proofs
open Go.RowKit Go.Shelf

set_option maxRecDepth 100000
attribute [local go_sem] Oper.semAt_some


theorem lit_T (W : World) (l : List Tok) (c : Nat) : RT (W.alloc (.cells (ft l).toArray 52)) (.slice (some ⟨W.heap.size, 0, none⟩) l.length c) l := by
  refine ⟨_, c, rfl, .inr ⟨_, rfl, fun j x hj => ?_⟩⟩
  have hb : (W.alloc (.cells (ft l).toArray 52)).heap[W.heap.size]? = some (.cells (ft l).toArray 52 (0, 0)) := World.alloc_heap_new _ _
  obtain ⟨a0, a1, a2, a3, a4, a5⟩ := ft_at l hj
  have key : ∀ i v, (ft l)[i]? = some v → (W.alloc (.cells (ft l).toArray 52)).cell? ⟨W.heap.size, i, none⟩ = some v := fun i v h => by
    simp only [World.cell?, hb]; simpa using h
  exact ⟨key _ _ a0, key _ _ a1, key _ _ a2, key _ _ a3, key _ _ a4, key _ _ a5⟩
def T1 : ByteArray := ⟨#[36, 118, 61, 91, 58, 120, 58, 93]⟩
def T1b : ByteArray := ⟨#[61, 91, 58, 120, 58, 93]⟩
def T1c : ByteArray := ⟨#[91, 58, 120, 58, 93]⟩
def T2 : ByteArray := ⟨#[97, 44]⟩
def T2b : ByteArray := ⟨#[44]⟩
theorem small (n : Nat) (h : n ≤ 100) : n ≤ maxLen := by unfold maxLen; omega
theorem tells1 : Tells 47 #[.string T1, .bool true] 2 0 (2 : Nat) 0 ⟨#[36, 118]⟩ 0 0 :=
  first_var T1 true 2 0 2 0 ⟨#[36, 118]⟩ 0 0 (small _ (by decide)) (by decide) 1 (by decide) (by decide +kernel) (by decide) (fun w => variable_ok T1 1 w (small _ (by decide)) (by decide) (by decide +kernel) (by decide))
theorem tells2 : Tells 47 #[.string T1b, .bool false] 21 0 (1 : Nat) 0 ⟨#[]⟩ 0 0 :=
  first_sign T1b false 11 (small _ (by decide)) (by decide) (by decide) (by decide +kernel) (by decide +kernel)
theorem tells3 : Tells 47 #[.string T1c, .bool false] 2 0 (5 : Nat) 0 ⟨#[58, 120, 58]⟩ 0 0 :=
  first_class T1c false 2 0 5 0 ⟨#[58, 120, 58]⟩ 0 0 (small _ (by decide)) (by decide) (by decide) (by decide +kernel) (fun w => class_ok T1c ⟨#[58, 93]⟩ 1 w (small _ (by decide)) (by decide) (by decide +kernel) (by decide +kernel) (by decide) (by decide +kernel) (by decide) (by decide +kernel) (by decide +kernel) (by decide))
theorem run1 : Run T1 0 true [⟨2, 0, 2, 0, ⟨#[36, 118]⟩, 0⟩, ⟨21, 2, 1, 0, ⟨#[]⟩, 0⟩, ⟨2, 3, 5, 0, ⟨#[58, 120, 58]⟩, 0⟩] 0 0 :=
  Run.step (q := 0) (l := 2) (by decide +kernel) (by decide) tells1 (by decide) (by decide)
    (Run.step (q := 2) (l := 1) (by decide +kernel) (by decide) tells2 (by decide) (by decide)
      (Run.step (q := 3) (l := 5) (by decide +kernel) (by decide) tells3 (by decide) (by decide) (Run.fin (by decide +kernel))))
theorem tells4 : Tells 47 #[.string T2, .bool true] 1 0 (1 : Nat) 97 ⟨#[]⟩ 0 0 :=
  first_bare2 T2 1 0 1 97 ⟨#[]⟩ 0 0 (small _ (by decide)) (by decide) (by decide) (by decide +kernel) (by decide +kernel) (by decide) (by decide) (by decide +kernel) (fun w => bare_ok T2 97 1 w (small _ (by decide)) (by decide +kernel) (by decide) (by decide) (by decide) (by decide +kernel))
theorem tells5 : Tells 47 #[.string T2b, .bool false] 0 0 0 0 ⟨#[]⟩ 0 40 :=
  first_bare T2b false 0 0 0 0 ⟨#[]⟩ 0 40 (small _ (by decide)) (by decide) (by decide) (by decide +kernel) (by decide +kernel) (by decide) (by decide) rfl (fun w => bare_rsv T2b 44 1 w (small _ (by decide)) (by decide +kernel) (by decide +kernel) (by decide) (by decide) (by decide))
theorem run2 : Run T2 0 true [⟨1, 0, 1, 97, ⟨#[]⟩, 0⟩] 1 40 :=
  Run.step (q := 0) (l := 1) (by decide +kernel) (by decide) tells4 (by decide) (by decide) (Run.bad (q := 1) (by decide +kernel) (by decide) tells5 (by decide))

theorem scan1 (w : World) : Calls Tryz.prog 23 #[.string ⟨#[36, 118, 61, 91, 58, 120, 58, 93]⟩] w fun e w' => ∃ v, e = .returned (.tuple #[v, .agg #[.int .i64 0, .int .i64 0]]) ∧ OwnT w' w.heap.size v [⟨2, 0, 2, 0, ⟨#[36, 118]⟩, 0⟩, ⟨21, 2, 1, 0, ⟨#[]⟩, 0⟩, ⟨2, 3, 5, 0, ⟨#[58, 120, 58]⟩, 0⟩] ∧ Below w.heap.size w w' := by
  refine (scan_run T1 _ 0 0 (by decide) run1 w).mono ?_
  rintro e w' ⟨v, h1, h2, h3⟩
  rw [if_pos rfl] at h2
  exact ⟨v, h1, h2, h3⟩
theorem scan2 (w : World) : Calls Tryz.prog 23 #[.string ⟨#[97, 44]⟩] w fun e w' => e = .returned (.tuple #[.slice none 0 0, .agg #[.int .i64 1, .int .i64 40]]) ∧ Below w.heap.size w w' := by
  refine (scan_run T2 _ 1 40 (by decide) run2 w).mono ?_
  rintro e w' ⟨v, h1, h2, h3⟩
  rw [if_neg (by decide)] at h2
  subst h2
  exact ⟨h1, h3⟩
theorem write1 (w : World) (hT : TabB w) : Calls Tryz.prog 24 #[.int .i64 233] w fun e w' => e = .returned (.tuple #[.string ⟨#[92, 120, 123, 69, 57, 125]⟩, .int .i64 0]) ∧ Below w.heap.size w w' :=
  write_hex 233 2 w hT (by decide +kernel) (by decide) (by decide) (by decide +kernel) (.inr (by decide))
set_option maxHeartbeats 2000000 in
theorem shown_any (w : World) (hT : TabB w) : Calls Tryz.prog 9 #[] w fun e w' => e = .returned (.bool true) ∧ Below w.heap.size w w' := by
  have HT : Hid (TabB w) := hT
  clear hT
  go_enter Tryz.func9, Tryz.ntmps9
  go_wp2_with fail
  refine (scan1 _).mono ?_
  rintro e w1 ⟨v1, rfl, hO1, hb1⟩
  have HO : Hid (RT w1 v1 [⟨2, 0, 2, 0, ⟨#[36, 118]⟩, 0⟩, ⟨21, 2, 1, 0, ⟨#[]⟩, 0⟩, ⟨2, 3, 5, 0, ⟨#[58, 120, 58]⟩, 0⟩]) := hO1.rt
  have HB : Hid (Below w.heap.size w w1) := hb1
  clear hO1 hb1
  go_wp2_with fail
  refine (scan2 _).mono ?_
  rintro e w2 ⟨rfl, hb2⟩
  have HF1 : Hid (FB w2 w1.heap.size 0 0) := (FB.new w1 0 0).below hb2 (by simp)
  replace HO : Hid (RT w2 v1 [⟨2, 0, 2, 0, ⟨#[36, 118]⟩, 0⟩, ⟨21, 2, 1, 0, ⟨#[]⟩, 0⟩, ⟨2, 3, 5, 0, ⟨#[58, 120, 58]⟩, 0⟩]) := (HO.out.below ((Below.refl _ w1).alloc (Nat.le_refl _) _) (Nat.le_refl _)).below hb2 (by simp)
  replace HB : Hid (Below w.heap.size w w2) := (HB.out.alloc HB.out.size _).trans (hb2.mono (by have := HB.out.size; simp; omega))
  clear hb2
  go_wp2_with fail
  refine (write1 _ (HT.out.below (HB.out.alloc HB.out.size _) HT.out.pos)).mono ?_
  rintro e w3 ⟨rfl, hb3⟩
  have HF2 : Hid (FB w3 w2.heap.size 1 40) := (FB.new w2 1 40).below hb3 (by simp)
  replace HF1 : Hid (FB w3 w1.heap.size 0 0) := (HF1.out.allocs _).below hb3 (by have := HF1.out.lt; simp; omega)
  replace HO : Hid (RT w3 v1 [⟨2, 0, 2, 0, ⟨#[36, 118]⟩, 0⟩, ⟨21, 2, 1, 0, ⟨#[]⟩, 0⟩, ⟨2, 3, 5, 0, ⟨#[58, 120, 58]⟩, 0⟩]) := (HO.out.below ((Below.refl _ w2).alloc (Nat.le_refl _) _) (Nat.le_refl _)).below hb3 (by simp)
  replace HB : Hid (Below w.heap.size w w3) := (HB.out.alloc HB.out.size _).trans (hb3.mono (by have := HB.out.size; simp; omega))
  clear hb3
  go_wp2_with fail
  refine (same_any _ _ [⟨2, 0, 2, 0, ⟨#[36, 118]⟩, 0⟩, ⟨21, 2, 1, 0, ⟨#[]⟩, 0⟩, ⟨2, 3, 5, 0, ⟨#[58, 120, 58]⟩, 0⟩] _ (by decide) (HO.out.below ((Below.refl _ w3).alloc (Nat.le_refl _) _) (Nat.le_refl _)) (lit_T w3 [⟨2, 0, 2, 0, ⟨#[36, 118]⟩, 0⟩, ⟨21, 2, 1, 0, ⟨#[]⟩, 0⟩, ⟨2, 3, 5, 0, ⟨#[58, 120, 58]⟩, 0⟩] 3)).mono ?_
  rintro e w4 ⟨rfl, hg4⟩
  have hb4 := hg4.below
  have F1 := (HF1.out.allocs _).below hb4 (by have := HF1.out.lt; simp; omega)
  have F2 := (HF2.out.allocs _).below hb4 (by have := HF2.out.lt; simp; omega)
  replace HB : Hid (Below w.heap.size w w4) := (HB.out.alloc HB.out.size _).trans (hb4.mono (by have := HB.out.size; simp; omega))
  obtain ⟨c0, c1, _, _⟩ := F1.cells
  obtain ⟨d0, d1, _, _⟩ := F2.cells
  clear hb4 hg4 F1 F2
  go_wp2
  go_ret
  exact ⟨rfl, HB.out⟩
end Go.Proofs
