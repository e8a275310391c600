/-
  ScanWrites, walked.
-/
import Derived.Shelf.Abstract
import Derived.Shelf.RegionOpen
import Derived.WalkKit
import Derived.WalkSpells
import Derived.WalkLawsBesides
import Derived.BigQuiet
import Derived.Deep.QuietTactic
import Derived.Deep.LoopGhost
import Derived.Lib.OthersKept
import Derived.ScopeJumps
import Derived.WalkMore
import Derived.Maps.AppendAt
import Derived.Lib.SmallJoins
import Derived.Test.YthjjkenmlkekbaaDoorRu
namespace Go.Proofs
open Go.RowKit Go.Shelf

set_option maxRecDepth 100000
attribute [local go_sem] Oper.semAt_some


set_option maxHeartbeats 1000000 in
theorem writesLaw_any (u kind : Int) (w : World) (hT : Tab w) : Calls Tryd.prog 3 #[.int .i64 u, .int .i64 kind] w fun e w' => e = .returned (.bool true) ∧ Below w.heap.size w w' := by
  have HT : Hid (Tab w) := hT
  obtain ⟨s, e, HW, HRW, hrun⟩ := write_both u
  obtain ⟨g, HS1, HS2⟩ : ∃ g, Hid (∀ W : World, Calls Tryd.prog 10 #[.int .i64 kind] W fun e w' => e = .returned (.string g) ∧ w' = W) ∧ Hid (∀ W : World, Calls Tryd.prog 11 #[.int .i64 kind] W fun e w' => e = .returned (.string g) ∧ w' = W) := ⟨_, fun W => sign_any kind W, fun W => rsign_any kind W⟩
  clear hT
  rcases hrun with rfl | ⟨rfl, hsz, hR⟩
  · go_enter Tryd.func3, Tryd.ntmps3
    go_wp2_with fail
    refine (shown_any _ HT.out).mono ?_
    rintro e w1 ⟨rfl, hb⟩
    have HB : Hid (Below w.heap.size w w1) := hb
    clear hb
    go_wp2_with fail
    refine (HW.out _ (HT.out.below HB.out HT.out.pos)).mono ?_
    rintro e w2 ⟨rfl, hb⟩
    replace HB : Hid (Below w.heap.size w w2) := HB.out.trans (hb.mono HB.out.size)
    clear hb
    go_wp2_with fail
    refine (HRW.out _).mono ?_
    rintro e w3 ⟨rfl, hb⟩
    replace HB : Hid (Below w.heap.size w w3) := HB.out.trans (hb.mono HB.out.size)
    clear hb
    go_wp2_with (first | (go_at_call 10; refine (HS1.out _).mono ?_; rintro e w' ⟨rfl, rfl⟩) | (go_at_call 11; refine (HS2.out _).mono ?_; rintro e w' ⟨rfl, rfl⟩))
    go_ret
    exact ⟨rfl, HB.out⟩
  · have HR : Hid (s.size ≤ 100 ∧ Run s 0 true [⟨1, 0, s.size, u, ⟨#[]⟩, 0⟩] 0 0) := ⟨hsz, hR⟩
    clear hR
    go_enter Tryd.func3, Tryd.ntmps3
    go_wp2_with fail
    refine (shown_any _ HT.out).mono ?_
    rintro e w1 ⟨rfl, hb⟩
    have HB : Hid (Below w.heap.size w w1) := hb
    clear hb
    go_wp2_with fail
    refine (HW.out _ (HT.out.below HB.out HT.out.pos)).mono ?_
    rintro e w2 ⟨rfl, hb⟩
    replace HB : Hid (Below w.heap.size w w2) := HB.out.trans (hb.mono HB.out.size)
    clear hb
    go_wp2_with fail
    refine (HRW.out _).mono ?_
    rintro e w3 ⟨rfl, hb⟩
    replace HB : Hid (Below w.heap.size w w3) := HB.out.trans (hb.mono HB.out.size)
    clear hb
    go_wp2_with (first | (go_at_call 10; refine (HS1.out _).mono ?_; rintro e w' ⟨rfl, rfl⟩) | (go_at_call 11; refine (HS2.out _).mono ?_; rintro e w' ⟨rfl, rfl⟩) | fail)
    have HB3 := HB.out
    refine (scan_run s _ 0 0 (by omega) HR.out.2 _).mono ?_
    rintro e w4 ⟨v, rfl, hO, hb⟩
    rw [if_pos rfl] at hO
    have HO : Hid (RT w4 v [⟨1, 0, s.size, u, ⟨#[]⟩, 0⟩]) := hO.rt
    replace HB : Hid (Below w.heap.size w w4) := HB3.trans (hb.mono HB3.size)
    clear hO hb HB3
    go_wp2_with fail
    have HL := lit_T (w4.alloc (.cells #[.int .i64 0, .int .i64 0] 29)) [⟨1, 0, s.size, u, ⟨#[]⟩, 0⟩] 1
    rw [World.size_alloc] at HL
    have HO2 := (HO.out.below ((Below.refl _ w4).alloc (Nat.le_refl _) (.cells #[.int .i64 0, .int .i64 0] 29)) (Nat.le_refl _)).below ((Below.refl _ _).alloc (Nat.le_refl _) (.cells #[.int .i64 1, .int .i64 0, .int .i64 s.size, .int .i64 u, .string ⟨#[]⟩, .int .i64 0] 34)) (Nat.le_refl _)
    have HB2 : Hid (Below w.heap.size w ((w4.alloc (.cells #[.int .i64 0, .int .i64 0] 29)).alloc (.cells #[.int .i64 1, .int .i64 0, .int .i64 s.size, .int .i64 u, .string ⟨#[]⟩, .int .i64 0] 34))) := (HB.out.alloc HB.out.size _).alloc (by have := HB.out.size; simp; omega) _
    refine (same_any v _ [⟨1, 0, s.size, u, ⟨#[]⟩, 0⟩] _ (by simp) HO2 HL).mono ?_
    rintro e w5 ⟨rfl, hg⟩
    have HB5 : Hid (Below w.heap.size w w5) := HB2.out.trans (hg.below.mono HB2.out.size)
    clear hg HL HO2 HB2
    go_wp2
    go_ret
    exact ⟨rfl, HB5.out⟩
end Go.Proofs
