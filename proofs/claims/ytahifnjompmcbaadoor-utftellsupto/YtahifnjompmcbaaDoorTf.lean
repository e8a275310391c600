/-
  The reference's may, walked: by how many bytes there are, and how many there would be.
-/
import Derived.RangeFuncNested
import Derived.RangeFuncBound
import Derived.RangeFuncCalls
import Derived.RangeFuncLeaves
import Derived.Shelf.Abstract
import Derived.Shelf.RegionOpen
import Derived.WalkKit
import Derived.WalkSpells
import Derived.WalkLawsBesides
import Derived.OwnWalkIn
import Derived.TacticsInMore
import Derived.LoopNIn
import Derived.LoopIn
import Derived.BigQuiet
import Derived.RegionIn
import Derived.Deep.QuietTactic
import Derived.Lib.OthersKept
import Derived.Maps.AppendAt
import Derived.Lib.IndexBytes
import Derived.Lib.SmallJoins
import Derived.Deep.RegionWith
import Derived.ArgAppend
import Derived.Laws.CopyOwn
import Derived.Laws.MakeOwn
import Derived.Test.YtahifnjompmcbaaDoorTd
namespace Go.Proofs
open Go.RowKit Go.Shelf

set_option maxRecDepth 100000
attribute [local go_sem] Oper.semAt_some

set_option maxHeartbeats 4000000 in
theorem may_2_1 (h : ByteArray) (w : World) (hz : h.size = 1) (hc1 : 194 ≤ bt h 0) (hc2 : bt h 0 ≤ 223) : Calls Tryd.prog 38 #[.string h] w fun e w' => MayIs h e ∧ Below w.heap.size w w' := by
  have hzi : (h.size : Int) = 1 := by omega
  have hg0 := bt_get h 0 (by omega)
  obtain ⟨c, hc⟩ : ∃ c, bt h 0 = c := ⟨_, rfl⟩
  rw [hc] at hg0 hc1 hc2
  have HC : Hid (bt h 0 = c) := hc
  have HZ : Hid (h.size = 1) := hz
  have hb0 : (h[0].toNat : Int) = c := hg0.symm
  have hbw : wrap64 (h[0].toNat : Int) = c := by rw [w64b]; exact hb0
  clear hc hg0
  go_enter Tryd.func38, Tryd.ntmps38
  go_wp2_with fail
  obtain ⟨W0, hW0⟩ : ∃ W0, w.alloc (.cells #[.int .i64 0, .int .i64 0, .int .i64 32, .int .i64 16, .int .i64 8] 3) = W0 := ⟨_, rfl⟩
  have HB0 : Hid (Below w.heap.size w W0) := by show Below w.heap.size w W0; rw [← hW0]; exact (Below.refl _ w).alloc (Nat.le_refl _) _
  rw [hW0]
  clear hW0
  go_loopw [7, 8] (fun vlo vi wr => ∃ (k : Nat) (x : Int), vlo = .int .i64 x ∧ vi = .int .i64 ((k : Int) + 1) ∧ k + 1 ≤ 1 ∧ 0 ≤ x ∧ (k = 0 → x ≤ 31) ∧ (k ≤ 1 → x ≤ 2047) ∧ x ≤ 131071 ∧ Hid (x = accI h 32 k) ∧ Hid (∀ j, 1 ≤ j → j ≤ k → bt h j / 64 = 2) ∧ wr = W0) (fun _ vi _ => 1 - (intOf vi).toNat)
  case atStart => exact ⟨0, c % 32, rfl, rfl, by omega, by omega, by omega, by omega, by omega, by show _ = bt h 0 % 32; rw [HC.out], fun j h1 h2 => by omega, rfl⟩
  case round =>
    obtain ⟨k, x, rfl, rfl, hk, hx0, hx1, hx2, hx3, hX, hJ, hwr⟩ := hrel
    have hwr' := hwr.symm
    subst hwr'
    by_cases hlt : k + 1 < 1
    · omega
    · have hk1 : k = 0 := by omega
      subst hk1
      have HX : Hid (x = accI h 32 0) := hX
      have HJ : Hid (∀ j, 1 ≤ j → j ≤ 0 → bt h j / 64 = 2) := hJ
      clear hX hJ hlt hk hx1 hx2
      have hkl : decide (((0 : Nat) : Int) + 1 < 1) = false := rfl
      go_wp2
      go_loopw [7, 9, 10] (fun vlo vhi vi wr => ∃ (t : Nat) (lo hi : Int), vlo = .int .i64 lo ∧ vhi = .int .i64 hi ∧ vi = .int .i64 ((t : Int) + 1) ∧ t + 1 ≤ 2 ∧ 0 ≤ lo ∧ lo ≤ hi ∧ (t = 0 → hi ≤ 131071) ∧ (t ≤ 1 → hi ≤ 8388607) ∧ (t ≤ 2 → hi ≤ 536870911) ∧ hi ≤ 34359738367 ∧ Hid (lo = x * 64 ^ t ∧ hi = (x + 1) * 64 ^ t - 1) ∧ wr = W0) (fun _ _ vi _ => 2 - (intOf vi).toNat)
      case atStart => exact ⟨0, x, x, rfl, rfl, rfl, by omega, hx0, by omega, by omega, by omega, by omega, by omega, ⟨by simp, by simp⟩, rfl⟩
      case round =>
        obtain ⟨t, lo, hi, rfl, rfl, rfl, htn, hlo, hle, hb1, hb2, hb3, hb4, hE, hwr⟩ := hrel
        have hwr' := hwr.symm
        subst hwr'
        by_cases hlt : t + 1 < 2
        · as_aux_lemma =>
            have hlt' : (t : Int) + 1 < 2 := by omega
            go_wp2
            refine ⟨⟨t + 1, lo * 64, hi * 64 + 63, by go_num, by go_num, by go_num, by omega, by omega, by omega, by omega, by omega, by omega, by omega, ?_, by trivial⟩, by simp [intOf]; omega⟩
            obtain ⟨e1, e2⟩ := hE.out
            refine ⟨by rw [e1, Int.pow_succ, Int.mul_assoc], ?_⟩
            rw [e2, Int.pow_succ, ← Int.mul_assoc]
            generalize (x + 1) * 64 ^ t = z
            omega
        · have htt : t = 1 := by omega
          subst htt
          have hE2 := hE.out
          rw [show (64 : Int) ^ 1 = 64 from rfl] at hE2
          have HE : Hid (lo = x * 64 ∧ hi = (x + 1) * 64 - 1) := hE2
          have hnl : decide (((1 : Nat) : Int) + 1 < 2) = false := rfl
          clear hE hE2 hlt htn hb1 hb2 hb3
          go_wp2
          all_goals
            go_ret3
            refine ⟨⟨_, _, _, rfl, may_res h (by have := HZ.out; omega) _ _ _ (by first | rfl | (symm; rw [decide_eq_true_iff]; omega) | (symm; rw [decide_eq_false_iff_not]; omega)) (fun r => ?_)⟩, HB0.out.alloc HB0.out.size _⟩
            have e1 := HE.out
            have e2 := HX.out
            have e3 := HC.out
            have e4 := HZ.out
            have e5 := HJ.out 1
            have e6 := HJ.out 2
            have b1 := bt_lt h 1
            have b2 := bt_lt h 2
            rw [accI_0] at e2
            unfold Pre P1 P2 P3 P4
            omega

set_option maxHeartbeats 4000000 in
theorem may_3_1 (h : ByteArray) (w : World) (hz : h.size = 1) (hc1 : 224 ≤ bt h 0) (hc2 : bt h 0 ≤ 239) : Calls Tryd.prog 38 #[.string h] w fun e w' => MayIs h e ∧ Below w.heap.size w w' := by
  have hzi : (h.size : Int) = 1 := by omega
  have hg0 := bt_get h 0 (by omega)
  obtain ⟨c, hc⟩ : ∃ c, bt h 0 = c := ⟨_, rfl⟩
  rw [hc] at hg0 hc1 hc2
  have HC : Hid (bt h 0 = c) := hc
  have HZ : Hid (h.size = 1) := hz
  have hb0 : (h[0].toNat : Int) = c := hg0.symm
  have hbw : wrap64 (h[0].toNat : Int) = c := by rw [w64b]; exact hb0
  clear hc hg0
  go_enter Tryd.func38, Tryd.ntmps38
  go_wp2_with fail
  obtain ⟨W0, hW0⟩ : ∃ W0, w.alloc (.cells #[.int .i64 0, .int .i64 0, .int .i64 32, .int .i64 16, .int .i64 8] 3) = W0 := ⟨_, rfl⟩
  have HB0 : Hid (Below w.heap.size w W0) := by show Below w.heap.size w W0; rw [← hW0]; exact (Below.refl _ w).alloc (Nat.le_refl _) _
  rw [hW0]
  clear hW0
  go_loopw [7, 8] (fun vlo vi wr => ∃ (k : Nat) (x : Int), vlo = .int .i64 x ∧ vi = .int .i64 ((k : Int) + 1) ∧ k + 1 ≤ 1 ∧ 0 ≤ x ∧ (k = 0 → x ≤ 31) ∧ (k ≤ 1 → x ≤ 2047) ∧ x ≤ 131071 ∧ Hid (x = accI h 16 k) ∧ Hid (∀ j, 1 ≤ j → j ≤ k → bt h j / 64 = 2) ∧ wr = W0) (fun _ vi _ => 1 - (intOf vi).toNat)
  case atStart => exact ⟨0, c % 16, rfl, rfl, by omega, by omega, by omega, by omega, by omega, by show _ = bt h 0 % 16; rw [HC.out], fun j h1 h2 => by omega, rfl⟩
  case round =>
    obtain ⟨k, x, rfl, rfl, hk, hx0, hx1, hx2, hx3, hX, hJ, hwr⟩ := hrel
    have hwr' := hwr.symm
    subst hwr'
    by_cases hlt : k + 1 < 1
    · omega
    · have hk1 : k = 0 := by omega
      subst hk1
      have HX : Hid (x = accI h 16 0) := hX
      have HJ : Hid (∀ j, 1 ≤ j → j ≤ 0 → bt h j / 64 = 2) := hJ
      clear hX hJ hlt hk hx1 hx2
      have hkl : decide (((0 : Nat) : Int) + 1 < 1) = false := rfl
      go_wp2
      go_loopw [7, 9, 10] (fun vlo vhi vi wr => ∃ (t : Nat) (lo hi : Int), vlo = .int .i64 lo ∧ vhi = .int .i64 hi ∧ vi = .int .i64 ((t : Int) + 1) ∧ t + 1 ≤ 3 ∧ 0 ≤ lo ∧ lo ≤ hi ∧ (t = 0 → hi ≤ 131071) ∧ (t ≤ 1 → hi ≤ 8388607) ∧ (t ≤ 2 → hi ≤ 536870911) ∧ hi ≤ 34359738367 ∧ Hid (lo = x * 64 ^ t ∧ hi = (x + 1) * 64 ^ t - 1) ∧ wr = W0) (fun _ _ vi _ => 3 - (intOf vi).toNat)
      case atStart => exact ⟨0, x, x, rfl, rfl, rfl, by omega, hx0, by omega, by omega, by omega, by omega, by omega, ⟨by simp, by simp⟩, rfl⟩
      case round =>
        obtain ⟨t, lo, hi, rfl, rfl, rfl, htn, hlo, hle, hb1, hb2, hb3, hb4, hE, hwr⟩ := hrel
        have hwr' := hwr.symm
        subst hwr'
        by_cases hlt : t + 1 < 3
        · as_aux_lemma =>
            have hlt' : (t : Int) + 1 < 3 := by omega
            go_wp2
            refine ⟨⟨t + 1, lo * 64, hi * 64 + 63, by go_num, by go_num, by go_num, by omega, by omega, by omega, by omega, by omega, by omega, by omega, ?_, by trivial⟩, by simp [intOf]; omega⟩
            obtain ⟨e1, e2⟩ := hE.out
            refine ⟨by rw [e1, Int.pow_succ, Int.mul_assoc], ?_⟩
            rw [e2, Int.pow_succ, ← Int.mul_assoc]
            generalize (x + 1) * 64 ^ t = z
            omega
        · have htt : t = 2 := by omega
          subst htt
          have hE2 := hE.out
          rw [show (64 : Int) ^ 2 = 4096 from rfl] at hE2
          have HE : Hid (lo = x * 4096 ∧ hi = (x + 1) * 4096 - 1) := hE2
          have hnl : decide (((2 : Nat) : Int) + 1 < 3) = false := rfl
          clear hE hE2 hlt htn hb1 hb2 hb3
          go_wp2
          all_goals
            go_ret3
            refine ⟨⟨_, _, _, rfl, may_res h (by have := HZ.out; omega) _ _ _ (by first | rfl | (symm; rw [decide_eq_true_iff]; omega) | (symm; rw [decide_eq_false_iff_not]; omega)) (fun r => ?_)⟩, HB0.out.alloc HB0.out.size _⟩
            have e1 := HE.out
            have e2 := HX.out
            have e3 := HC.out
            have e4 := HZ.out
            have e5 := HJ.out 1
            have e6 := HJ.out 2
            have b1 := bt_lt h 1
            have b2 := bt_lt h 2
            rw [accI_0] at e2
            unfold Pre P1 P2 P3 P4
            omega
end Go.Proofs
