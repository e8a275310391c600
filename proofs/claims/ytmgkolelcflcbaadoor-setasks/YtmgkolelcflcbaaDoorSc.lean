/-
  The numbers of a range, one after another: numbers.
-/
import Derived.RangeFuncNested
import Derived.RangeFuncBound
import Derived.RangeFuncCalls
import Derived.RangeFuncLeaves
import Derived.Shelf.Abstract
import Derived.Shelf.RegionOpen
import Derived.WalkKit
import Derived.WalkSpells
import Derived.WalkLawsBesides
import Derived.OwnWalkIn
import Derived.TacticsInMore
import Derived.LoopNIn
import Derived.LoopIn
import Derived.BigQuiet
import Derived.RegionIn
import Derived.Deep.QuietTactic
import Derived.Deep.RegionWith
import Derived.Lib.OthersKept
import Derived.Maps.AppendAt
import Derived.Lib.SmallJoins
import Derived.Test.YtmgkolelcflcbaaDoorSb
namespace Go.Proofs
open Go.RowKit Go.Shelf

set_option maxRecDepth 100000
attribute [local go_sem] Oper.semAt_some

def upTo (a : Int) (k : Nat) : List Int := (List.range k).map fun i : Nat => a + (i : Int)
theorem upTo_succ (a : Int) (k : Nat) : upTo a (k + 1) = upTo a k ++ [a + (k : Int)] := by simp [upTo, List.range_succ]
theorem upTo_len (a : Int) (k : Nat) : (upTo a k).length = k := by simp [upTo]
theorem upTo_pre (a : Int) {k m : Nat} (h : k ≤ m) : upTo a k <+: upTo a m := by
  obtain ⟨d, rfl⟩ := Nat.exists_eq_add_of_le h
  induction d with
  | zero => exact List.prefix_refl _
  | succ d ih => exact (ih (by omega)).trans (by rw [← Nat.add_assoc, upTo_succ]; exact ⟨_, rfl⟩)
abbrev encU (x : Int) : Array Value := #[.int .i64 x]
set_option maxHeartbeats 2000000 in
theorem num_in (F : Fence) (n : Nat) (hF : F = Fence.wide) (hn : 1 ≤ n) (l B : Nat) (a b : Int) (m : Nat) (hm : (m : Int) = b + 1 - a) (ha : 0 ≤ a) (hb : b ≤ 1114367) (J Jx : List Int → World → Prop)
    (hY : ∀ pre x W, J pre W → pre.length < m → YieldAt F (n - 1) Tryd.prog l (encU x) W fun e W' =>
      (e = .returned (.bool true) ∧ J (pre ++ [x]) W' ∧ KpB B W W') ∨ (e = .returned (.bool false) ∧ Jx (pre ++ [x]) W'))
    (W : World) (hB0 : W.cell? ⟨B, 0, none⟩ = some (.int .i64 a)) (hB1 : W.cell? ⟨B, 1, none⟩ = some (.int .i64 b)) (h0 : J [] W) :
    CallsIn F n Tryd.prog 68 #[.func (.yield l) #[] #[], .pointer (some ⟨B, 0, none⟩)] W fun e W' => (∃ v, e = .returned v) ∧
      ((∃ ys, ys = upTo a m ∧ J ys W') ∨ (∃ pre, (pre <+: upTo a m ∧ pre ≠ []) ∧ Jx pre W')) := by
  subst hF
  refine callsIn_of_wp Tryd.func68 rfl trivial ?_ rfl
  simp only [Tryd.ntmps68, List.size_toArray, List.length_cons, List.length_nil, Nat.reduceAdd, Nat.reduceSub, Array.replicate_succ, Array.replicate_zero, List.push_toArray, List.append_toArray, List.nil_append, List.cons_append]
  gi_wp2
  gi_loopw [3] (fun vi wr => ∃ k : Nat, vi = .int .i64 (a + k) ∧ k ≤ m ∧ wr.cell? ⟨B, 0, none⟩ = some (.int .i64 a) ∧ wr.cell? ⟨B, 1, none⟩ = some (.int .i64 b) ∧ J (upTo a k) wr) (fun vi _ => (b + 1 - intOf vi).toNat)
  case atStart => exact ⟨0, by simp, by omega, hB0, hB1, by simpa [upTo] using h0⟩
  case round =>
    obtain ⟨k, rfl, hk, c0, c1, hJr⟩ := hrel
    by_cases hlt : k < m
    · have hle : a + (k : Int) ≤ b := by omega
      have hd : decide (a + (k : Int) ≤ b) = true := by simpa using hle
      obtain ⟨fn, tmps, assign, body, hy, hR⟩ := hY _ (a + (k : Int)) _ hJr (by rw [upTo_len]; exact hlt)
      dsimp only [encU] at hy
      gi_wp2
      refine hR.mono ?_
      rintro e W3 (⟨rfl, hJ3, hk3⟩ | ⟨rfl, hJx3⟩)
      · gi_wp2
        go_roundw
        case rel => exact ⟨k + 1, by simp [Int.add_assoc], by omega, hk3.2 _ _ c0, hk3.2 _ _ c1, by rw [upTo_succ]; exact hJ3⟩
        case measure => simp [intOf]; omega
      · gi_wp2
        refine bodyPost_ret (results_none rfl _ _ _) rfl ?_
        exact ⟨⟨_, rfl⟩, .inr ⟨upTo a k ++ [a + (k : Int)], ⟨by rw [← upTo_succ]; exact upTo_pre a (by omega), by simp⟩, hJx3⟩⟩
    · obtain rfl : k = m := by omega
      have hle : ¬ a + (k : Int) ≤ b := by omega
      have hd : decide (a + (k : Int) ≤ b) = false := by simpa using hle
      gi_wp2
      go_end0
      first | exact ⟨⟨_, rfl⟩, .inl hJr⟩ | exact ⟨⟨_, rfl⟩, .inl ⟨_, rfl, hJr⟩⟩
theorem num_stops (n : Nat) (hn : 1 ≤ n) (B : Nat) (a b : Int) (m : Nat) (hm : (m : Int) = b + 1 - a) (ha : 0 ≤ a) (hb : b ≤ 1114367) (w : World) (hBw : B < w.heap.size) (hB0 : w.cell? ⟨B, 0, none⟩ = some (.int .i64 a)) (hB1 : w.cell? ⟨B, 1, none⟩ = some (.int .i64 b)) :
    SeqStopsK Fence.wide n Tryd.prog 68 #[.pointer (some ⟨B, 0, none⟩)] encU (KpB B) (fun ys => ys = upTo a m) (fun pre => pre <+: upTo a m ∧ pre ≠ []) m w := fun l J Jx W hW _ _ hY h0 =>
  num_in Fence.wide n rfl hn l B a b m hm ha hb J Jx hY W ((hW.cell (p := ⟨B, 0, none⟩) hBw).trans hB0) ((hW.cell (p := ⟨B, 1, none⟩) hBw).trans hB1) h0
set_option maxHeartbeats 400000 in
theorem nums_any (a b : Int) (w : World) : Calls Tryd.prog 60 #[.agg #[.int .i64 a, .int .i64 b]] w fun e w' => e = .returned (.func (.func 68) #[] #[.pointer (some ⟨w.heap.size, 0, none⟩)]) ∧ w' = w.alloc (.cells #[.int .i64 a, .int .i64 b] 38) := by
  go_enter Tryd.func60, Tryd.ntmps60
  go_wp2
  go_ret
  exact ⟨rfl, rfl⟩
end Go.Proofs
