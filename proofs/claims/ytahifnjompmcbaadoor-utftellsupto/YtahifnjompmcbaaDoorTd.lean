/-
  The reference's may, walked: which runes some bytes begin.
-/
import Derived.RangeFuncNested
import Derived.RangeFuncBound
import Derived.RangeFuncCalls
import Derived.RangeFuncLeaves
import Derived.Shelf.Abstract
import Derived.Shelf.RegionOpen
import Derived.WalkKit
import Derived.WalkSpells
import Derived.WalkLawsBesides
import Derived.OwnWalkIn
import Derived.TacticsInMore
import Derived.LoopNIn
import Derived.LoopIn
import Derived.BigQuiet
import Derived.RegionIn
import Derived.Deep.QuietTactic
import Derived.Lib.OthersKept
import Derived.Maps.AppendAt
import Derived.Lib.IndexBytes
import Derived.Lib.SmallJoins
import Derived.Deep.RegionWith
import Derived.ArgAppend
import Derived.Laws.CopyOwn
import Derived.Laws.MakeOwn
import Derived.Test.YtahifnjompmcbaaDoorTc
namespace Go.Proofs
open Go.RowKit Go.Shelf

set_option maxRecDepth 100000
attribute [local go_sem] Oper.semAt_some

theorem may_res (h : ByteArray) (hn : 1 ≤ h.size ∧ h.size ≤ 3) (lo hi : Int) (b : Bool) (hb : b = decide (lo ≤ hi)) (hiff : ∀ r, (lo ≤ r ∧ r ≤ hi) ↔ Pre h r) : (b = true → hitW h spell = some (lo, hi)) ∧ (b = false → hitW h spell = none) := by
  rw [hb, decide_eq_true_iff, decide_eq_false_iff_not]
  clear hb
  cases hh : hitW h spell with
  | none =>
    have := hit_none h hn hh
    exact ⟨fun e => absurd ((hiff lo).1 ⟨Int.le_refl _, e⟩) (this lo), fun _ => rfl⟩
  | some x =>
    obtain ⟨a, b⟩ := x
    obtain ⟨h1, h2⟩ := hit_some h hn hh
    have ha := (hiff a).2 ((h2 a).1 ⟨Int.le_refl _, h1⟩)
    have hb := (hiff b).2 ((h2 b).1 ⟨h1, Int.le_refl _⟩)
    have hl := (h2 lo).2 ((hiff lo).1 ⟨Int.le_refl _, by omega⟩)
    have hh' := (h2 hi).2 ((hiff hi).1 ⟨by omega, Int.le_refl _⟩)
    refine ⟨fun _ => ?_, fun e => absurd (by omega) e⟩
    have e1 : a = lo := by omega
    have e2 : b = hi := by omega
    rw [e1, e2]
theorem may_none (h : ByteArray) (hn : 1 ≤ h.size ∧ h.size ≤ 3) (hno : ∀ r, ¬ Pre h r) : hitW h spell = none := by
  cases hh : hitW h spell with
  | none => rfl
  | some x =>
    obtain ⟨a, b⟩ := x
    obtain ⟨h1, h2⟩ := hit_some h hn hh
    exact absurd ((h2 a).1 ⟨Int.le_refl _, h1⟩) (hno a)
def accI (h : ByteArray) (m : Int) : Nat → Int
  | 0 => bt h 0 % m
  | k + 1 => accI h m k * 64 + bt h (k + 1) % 64
theorem accI_0 (h : ByteArray) (m : Int) : accI h m 0 = bt h 0 % m := rfl
theorem accI_1 (h : ByteArray) (m : Int) : accI h m 1 = bt h 0 % m * 64 + bt h 1 % 64 := rfl
theorem accI_2 (h : ByteArray) (m : Int) : accI h m 2 = (bt h 0 % m * 64 + bt h 1 % 64) * 64 + bt h 2 % 64 := rfl
theorem bt_get (h : ByteArray) (k : Nat) (hk : k < h.size) : bt h k = (h[k].toNat : Int) := by unfold bt; rw [get_bang h k hk]
/-- what may answers -/
def MayIs (h : ByteArray) (e : Ending) : Prop := ∃ (lo hi : Int) (b : Bool), e = .returned (.tuple #[.int .i64 lo, .int .i64 hi, .bool b]) ∧ (b = true → hitW h spell = some (lo, hi)) ∧ (b = false → hitW h spell = none)

set_option maxHeartbeats 4000000 in
theorem may_no_0 (h : ByteArray) (w : World) (hz : 1 ≤ h.size ∧ h.size ≤ 3) (hc1 : bt h 0 < 194 ∨ 244 < bt h 0) : Calls Tryd.prog 38 #[.string h] w fun e w' => MayIs h e ∧ Below w.heap.size w w' := by
  have HN : Hid (hitW h spell = none) := may_none h hz (fun r hp => by unfold Pre P1 P2 P3 P4 at hp; omega)
  have hzi : (0 : Int) < (h.size : Int) := by omega
  have hzj : 0 ≤ (h.size : Int) := by omega
  have hg0 := bt_get h 0 (by omega)
  have hbl := bt_lt h 0
  obtain ⟨c, hc⟩ : ∃ c, bt h 0 = c := ⟨_, rfl⟩
  rw [hc] at hg0 hbl hc1
  have hb0 : (h[0].toNat : Int) = c := hg0.symm
  have hbw : wrap64 (h[0].toNat : Int) = c := by rw [w64b]; exact hb0
  clear hc hg0
  rcases hc1 with hc1 | hc1
  all_goals
    go_enter Tryd.func38, Tryd.ntmps38
    go_wp2
    go_ret3
    exact ⟨⟨0, 0, false, rfl, fun e => (by cases e), fun _ => HN.out⟩, Below.refl _ _⟩

set_option maxHeartbeats 4000000 in
theorem may_no_2 (h : ByteArray) (w : World) (hz : 1 ≤ h.size ∧ h.size ≤ 3) (hc1 : 194 ≤ bt h 0) (hc2 : bt h 0 ≤ 223) (hs : 2 ≤ h.size) : Calls Tryd.prog 38 #[.string h] w fun e w' => MayIs h e ∧ Below w.heap.size w w' := by
  have HN : Hid (hitW h spell = none) := may_none h hz (fun r hp => by unfold Pre P1 P2 P3 P4 at hp; omega)
  have hzi : (0 : Int) < (h.size : Int) := by omega
  have hzj : 2 ≤ (h.size : Int) := by omega
  have hg0 := bt_get h 0 (by omega)
  have hbl := bt_lt h 0
  obtain ⟨c, hc⟩ : ∃ c, bt h 0 = c := ⟨_, rfl⟩
  rw [hc] at hg0 hbl hc1 hc2
  have hb0 : (h[0].toNat : Int) = c := hg0.symm
  have hbw : wrap64 (h[0].toNat : Int) = c := by rw [w64b]; exact hb0
  clear hc hg0
  go_enter Tryd.func38, Tryd.ntmps38
  go_wp2
  go_ret3
  exact ⟨⟨0, 0, false, rfl, fun e => (by cases e), fun _ => HN.out⟩, Below.refl _ _⟩

set_option maxHeartbeats 4000000 in
theorem may_no_3 (h : ByteArray) (w : World) (hz : 1 ≤ h.size ∧ h.size ≤ 3) (hc1 : 224 ≤ bt h 0) (hc2 : bt h 0 ≤ 239) (hs : 3 ≤ h.size) : Calls Tryd.prog 38 #[.string h] w fun e w' => MayIs h e ∧ Below w.heap.size w w' := by
  have HN : Hid (hitW h spell = none) := may_none h hz (fun r hp => by unfold Pre P1 P2 P3 P4 at hp; omega)
  have hzi : (0 : Int) < (h.size : Int) := by omega
  have hzj : 3 ≤ (h.size : Int) := by omega
  have hg0 := bt_get h 0 (by omega)
  have hbl := bt_lt h 0
  obtain ⟨c, hc⟩ : ∃ c, bt h 0 = c := ⟨_, rfl⟩
  rw [hc] at hg0 hbl hc1 hc2
  have hb0 : (h[0].toNat : Int) = c := hg0.symm
  have hbw : wrap64 (h[0].toNat : Int) = c := by rw [w64b]; exact hb0
  clear hc hg0
  go_enter Tryd.func38, Tryd.ntmps38
  go_wp2
  go_ret3
  exact ⟨⟨0, 0, false, rfl, fun e => (by cases e), fun _ => HN.out⟩, Below.refl _ _⟩
end Go.Proofs
