/-
  The examples, walked.
-/
import Derived.RangeFuncNested
import Derived.RangeFuncBound
import Derived.RangeFuncCalls
import Derived.RangeFuncLeaves
import Derived.Shelf.Abstract
import Derived.Shelf.RegionOpen
import Derived.WalkKit
import Derived.WalkSpells
import Derived.WalkLawsBesides
import Derived.OwnWalkIn
import Derived.TacticsInMore
import Derived.LoopNIn
import Derived.LoopIn
import Derived.BigQuiet
import Derived.RegionIn
import Derived.Deep.QuietTactic
import Derived.Deep.RegionWith
import Derived.Lib.OthersKept
import Derived.Maps.AppendAt
import Derived.Lib.SmallJoins
import Derived.Shelf.SlSortCmp.QuietGrown
import Derived.Test.YtkijbaofhodplaaDoorEr
namespace Go.Proofs
open Go.RowKit Go.Shelf

set_option maxRecDepth 100000
attribute [local go_sem] Oper.semAt_some
attribute [local go_sem ↓] Go.wp_at_zero Go.wp_at_succ
/-- what is known of a world in which the pass p lies -/
structure PK (w W : World) (n b : Nat) (c u : Int) : Prop where
  t : Tab W
  bl : Below w.heap.size w W
  ch : CH W n c u
  bx : W.heap[b]? = some (.cells #[.slice (some ⟨n + 15, 0, none⟩) 3 3] 24 (0, 0))
  nb : n + 15 < b
theorem PK.next {w W W' : World} {n b : Nat} {c u : Int} (h : PK w W n b c u) (hb : Below W.heap.size W W') (hw : 0 < w.heap.size) : PK w W' n b c u :=
  ⟨h.t.below hb (Nat.lt_of_lt_of_le hw h.bl.size), h.bl.trans (hb.mono h.bl.size), h.ch.below hb h.ch.lt, (hb.block b (Array.getElem?_eq_some_iff.1 h.bx).1).trans h.bx, h.nb⟩
theorem check1 {w W : World} {n b : Nat} (h : PK w W n b 1 100) (hw : 0 < w.heap.size) : Calls Tryd.prog 13 #[.agg #[.slice (some ⟨n + 15, 0, none⟩) 3 3]] W fun e w' => e = .returned (.tuple #[.int .i64 0, .int .i64 0]) ∧ PK w w' n b 1 100 := by
  have := wcheck_any _ (rsC 1 100) W h.t h.ch.psr
  rw [ex1] at this
  exact this.mono fun _ _ ⟨h1, h2⟩ => ⟨h1, h.next h2 hw⟩
theorem check2 {w W : World} {n b : Nat} (h : PK w W n b 0 97) (hw : 0 < w.heap.size) : Calls Tryd.prog 13 #[.agg #[.slice (some ⟨n + 15, 0, none⟩) 3 3]] W fun e w' => e = .returned (.tuple #[.int .i64 2, .int .i64 81]) ∧ PK w w' n b 0 97 := by
  have := wcheck_any _ (rsC 0 97) W h.t h.ch.psr
  rw [ex2] at this
  exact this.mono fun _ _ ⟨h1, h2⟩ => ⟨h1, h.next h2 hw⟩
theorem weight6 {w W : World} {n b : Nat} (h : PK w W n b 0 97) (hw : 0 < w.heap.size) : Calls Tryd.prog 14 #[.agg #[.slice (some ⟨n + 15, 0, none⟩) 3 3], .int .i64 97] W fun e w' => e = .returned (.int .i64 0) ∧ PK w w' n b 0 97 := by
  have := wweight_any _ (rsC 0 97) 97 W h.t h.ch.psr
  rw [ex6] at this
  exact this.mono fun _ _ ⟨h1, h2⟩ => ⟨h1, h.next h2 hw⟩
/-- another chain, ahead of a call -/
theorem chain2 {w W : World} {n b : Nat} (h : PK w W n b 0 97) (hw : 0 < w.heap.size) : Calls Tryd.prog 27 #[] W fun e w' => ∃ m, e = .returned (.agg #[.slice (some ⟨m + 15, 0, none⟩) 3 3]) ∧ CH w' m 1 100 ∧ PK w w' n b 0 97 :=
  (chain_any W).mono fun _ _ ⟨h1, h2, h3⟩ => ⟨_, h1, h2, h.next h3.below hw⟩
theorem weightC {w W : World} {n b m : Nat} (h : PK w W n b 0 97) (hw : 0 < w.heap.size) (hm : CH W m 1 100) (u x : Int) (hx : wgtP (rsC 1 100) u = x) : Calls Tryd.prog 14 #[.agg #[.slice (some ⟨m + 15, 0, none⟩) 3 3], .int .i64 u] W fun e w' => e = .returned (.int .i64 x) ∧ PK w w' n b 0 97 := by
  have := wweight_any _ (rsC 1 100) u W h.t hm.psr
  rw [hx] at this
  exact this.mono fun _ _ ⟨h1, h2⟩ => ⟨h1, h.next h2 hw⟩
theorem boundC {w W : World} {n b m : Nat} (h : PK w W n b 0 97) (hw : 0 < w.heap.size) (hm : CH W m 1 100) : Calls Tryd.prog 15 #[.agg #[.slice (some ⟨m + 15, 0, none⟩) 3 3], .string ⟨#[97, 98, 99]⟩] W fun e w' => e = .returned (.int .i64 11) ∧ PK w w' n b 0 97 := by
  have := bound_any _ (rsC 1 100) ⟨#[97, 98, 99]⟩ W h.t hm.psr (by decide)
  rw [ex7] at this
  exact this.mono fun _ _ ⟨h1, h2⟩ => ⟨h1, h.next h2 hw⟩
set_option maxHeartbeats 8000000 in
theorem shown_any (w : World) (hT : Tab w) : Calls Tryd.prog 8 #[] w fun e w' => e = .returned (.bool true) ∧ Below w.heap.size w w' := by
  have HT : Hid (Tab w) := hT
  have HP0 : Hid (0 < w.heap.size) := hT.pos
  clear hT
  go_enter Tryd.func8, Tryd.ntmps8
  go_wp2_with fail
  refine (chain_any w).mono ?_
  rintro e w1 ⟨rfl, hC, hG⟩
  obtain ⟨n, hn⟩ : ∃ n, w.heap.size = n := ⟨_, rfl⟩
  have HN : Hid (w.heap.size = n) := hn
  rw [hn] at hC ⊢
  have HK1 : Hid (PK w (w1.alloc (.cells #[.slice (some ⟨n + 15, 0, none⟩) 3 3] 24)) n w1.heap.size 1 100) := by
    have hg : Grown w1 (w1.alloc (.cells #[.slice (some ⟨n + 15, 0, none⟩) 3 3] 24)) := (Grown.refl _).alloc _
    exact ⟨(HT.out.grown hG).grown hg, (hG.trans hg).below, hC.below hg.below hC.lt, heap_alloc_new _ _, hC.lt⟩
  clear hC hG hn
  go_wp2_with fail
  refine (check1 HK1.out HP0.out).mono ?_
  rintro e w3 ⟨rfl, hk3⟩
  have HK3 : Hid (PK w w3 n w1.heap.size 1 100) := hk3
  obtain ⟨b, hb⟩ : ∃ b, w1.heap.size = b := ⟨_, rfl⟩
  rw [hb] at HK3 ⊢
  clear hk3 HK1 hb
  have hk := HK3.out
  have d0 : w3.cell? ⟨b, 0, none⟩ = some (.slice (some ⟨n + 15, 0, none⟩) 3 3) := by rw [cell_of hk.bx]; rfl
  have d1 : w3.cell? ⟨n + 15, 20, none⟩ = some (.int .i64 1) := by rw [cell_of hk.ch.b15]; rfl
  have f1 : w3.frozen? ⟨n + 15, 20, none⟩ = false := free_of hk.ch.b15
  obtain ⟨w4, hw4⟩ : ∃ w4, w4 = w3.setCell ⟨n + 15, 20, none⟩ (.int .i64 0) := ⟨_, rfl⟩
  have t4 : Turns (n + 15) w3 w4 := by rw [hw4]; exact turns_set _ _ _ _
  have b4 := set_heap (j := 20) (u := .int .i64 0) hk.ch.b15
  rw [← hw4] at b4
  have e0 : w4.cell? ⟨b, 0, none⟩ = some (.slice (some ⟨n + 15, 0, none⟩) 3 3) := (cell_same (t4 b (by have := hk.nb; omega))).trans d0
  have e1 : w4.cell? ⟨n + 15, 19, none⟩ = some (.slice (some ⟨n + 14, 0, none⟩) 1 1) := by rw [cell_of b4]; rfl
  have e2 : w4.cell? ⟨n + 14, 1, none⟩ = some (.int .i64 100) := (cell_same (t4 (n + 14) (by omega))).trans (by rw [cell_of hk.ch.b14]; rfl)
  have f2 : w4.frozen? ⟨n + 14, 1, none⟩ = false := free_of ((t4 (n + 14) (by omega)).trans hk.ch.b14)
  have HK5 : Hid (PK w (w4.setCell ⟨n + 14, 1, none⟩ (.int .i64 97)) n b 0 97) := by
    have t5 := turns_set w4 (n + 14) 1 (.int .i64 97)
    have hk' : ∀ {k : Nat} {o : Obj}, k ≠ n + 14 → k ≠ n + 15 → w3.heap[k]? = some o → (w4.setCell ⟨n + 14, 1, none⟩ (.int .i64 97)).heap[k]? = some o := fun {k o} h1 h2 h3 => (t5 k h1).trans ((t4 k h2).trans h3)
    have hN := HN.out
    have hbl : Below w.heap.size w (w4.setCell ⟨n + 14, 1, none⟩ (.int .i64 97)) := by
      rw [hw4]
      exact (hk.bl.setCell (p := ⟨n + 15, 20, none⟩) (by simp only; omega) _).setCell (p := ⟨n + 14, 1, none⟩) (by simp only; omega) _
    refine ⟨HT.out.below hbl HP0.out, hbl, ⟨hk' (by omega) (by omega) hk.ch.b1, hk' (by omega) (by omega) hk.ch.b2, hk' (by omega) (by omega) hk.ch.b5, hk' (by omega) (by omega) hk.ch.b6, hk' (by omega) (by omega) hk.ch.b7, hk' (by omega) (by omega) hk.ch.b10, hk' (by omega) (by omega) hk.ch.b11, hk' (by omega) (by omega) hk.ch.b12, ?_, ?_⟩, hk' (by have := hk.nb; omega) (by have := hk.nb; omega) hk.bx, hk.nb⟩
    · rw [set_heap ((t4 (n + 14) (by omega)).trans hk.ch.b14)]; rfl
    · rw [t5 (n + 15) (by omega), b4]; rfl
  clear hk t4 b4 HK3
  rw [hw4] at e0 e1 e2 f2 HK5
  clear hw4
  go_wp2_with fail
  refine (check2 HK5.out HP0.out).mono ?_
  rintro e w6 ⟨rfl, hk6⟩
  clear d0 d1 f1 e0 e1 e2 f2 HK5
  have HK6 : Hid (PK w w6 n b 0 97) := hk6
  clear hk6
  go_wp2_with fail
  refine (chain2 HK6.out HP0.out).mono ?_
  rintro e w7 ⟨m7, rfl, hm7, hk7⟩
  have HK7 : Hid (PK w w7 n b 0 97 ∧ CH w7 m7 1 100) := ⟨hk7, hm7⟩
  clear hk7 hm7 HK6
  go_wp2_with fail
  refine (weightC HK7.out.1 HP0.out HK7.out.2 97 7 ex3).mono ?_
  rintro e w8 ⟨rfl, hk8⟩
  have HK8 : Hid (PK w w8 n b 0 97) := hk8
  clear hk8 HK7
  go_wp2_with fail
  refine (chain2 HK8.out HP0.out).mono ?_
  rintro e w9 ⟨m9, rfl, hm9, hk9⟩
  have HK9 : Hid (PK w w9 n b 0 97 ∧ CH w9 m9 1 100) := ⟨hk9, hm9⟩
  clear hk9 hm9 HK8
  go_wp2_with fail
  refine (weightC HK9.out.1 HP0.out HK9.out.2 98 3 ex4).mono ?_
  rintro e w10 ⟨rfl, hk10⟩
  have HK10 : Hid (PK w w10 n b 0 97) := hk10
  clear hk10 HK9
  go_wp2_with fail
  refine (chain2 HK10.out HP0.out).mono ?_
  rintro e w11 ⟨m11, rfl, hm11, hk11⟩
  have HK11 : Hid (PK w w11 n b 0 97 ∧ CH w11 m11 1 100) := ⟨hk11, hm11⟩
  clear hk11 hm11 HK10
  go_wp2_with fail
  refine (weightC HK11.out.1 HP0.out HK11.out.2 100 1 ex5).mono ?_
  rintro e w12 ⟨rfl, hk12⟩
  have HK12 : Hid (PK w w12 n b 0 97) := hk12
  have d12 : w12.cell? ⟨b, 0, none⟩ = some (.slice (some ⟨n + 15, 0, none⟩) 3 3) := by rw [cell_of hk12.bx]; rfl
  clear hk12 HK11
  go_wp2_with fail
  refine (weight6 HK12.out HP0.out).mono ?_
  rintro e w13 ⟨rfl, hk13⟩
  have HK13 : Hid (PK w w13 n b 0 97) := hk13
  clear hk13 HK12 d12
  go_wp2_with fail
  refine (chain2 HK13.out HP0.out).mono ?_
  rintro e w14 ⟨m14, rfl, hm14, hk14⟩
  have HK14 : Hid (PK w w14 n b 0 97 ∧ CH w14 m14 1 100) := ⟨hk14, hm14⟩
  clear hk14 hm14 HK13
  go_wp2_with fail
  refine (boundC HK14.out.1 HP0.out HK14.out.2).mono ?_
  rintro e w15 ⟨rfl, hk15⟩
  have HK15 : Hid (PK w w15 n b 0 97) := hk15
  clear hk15 HK14
  go_wp2
  go_ret
  exact ⟨rfl, HK15.out.bl⟩
set_option maxHeartbeats 2000000 in
theorem wnames_any (w : World) (hT : Tab w) : Calls Tryd.prog 6 #[] w fun e w' => e = .returned (.bool true) ∧ Below w.heap.size w w' := by
  have HS : Hid (Calls Tryd.prog 8 #[] w fun e w' => e = .returned (.bool true) ∧ Below w.heap.size w w') := shown_any w hT
  go_enter Tryd.func6, Tryd.ntmps6
  go_wp2_with (go_at_call 8; refine HS.out.mono ?_; rintro e w' ⟨rfl, hb⟩)
  go_ret
  exact ⟨rfl, hb⟩
end Go.Proofs
