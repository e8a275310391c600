/-
  Back and its iterator do what the plain functions below say.
-/
import Derived.RangeFuncNested
import Derived.RangeFuncBound
import Derived.RangeFuncCalls
import Derived.RangeFuncLeaves
import Derived.Shelf.Abstract
import Derived.Shelf.RegionOpen
import Derived.WalkKit
import Derived.WalkSpells
import Derived.WalkLawsBesides
import Derived.OwnWalkIn
import Derived.TacticsInMore
import Derived.LoopNIn
import Derived.LoopIn
import Derived.BigQuiet
import Derived.RegionIn
import Derived.Deep.QuietTactic
import Derived.Lib.OthersKept
import Derived.Lib.IndexBytes
import Derived.Test.YtahifnjompmcbaaDoorUb
namespace Go.Proofs
open Go.RowKit Go.Shelf

set_option maxRecDepth 100000
attribute [local go_sem] Oper.semAt_some
/-! Back -/
theorem units_ne {s : ByteArray} (h : 0 < s.size) : units s ≠ [] := by
  unfold units
  obtain ⟨k, hk⟩ : ∃ k, s.size = k + 1 := ⟨s.size - 1, by omega⟩
  rw [hk, unitsN_step s k 0 h]; simp
theorem mem_unitsN (s : ByteArray) (x : Nat × Nat) : ∀ k p, x ∈ unitsN s k p → x.1 < s.size ∧ x.2 < 1114368 ∧ x.2 = uAt s x.1
  | 0, _, h => by simp [unitsN] at h
  | k + 1, p, h => by
    by_cases hp : p < s.size
    · rw [unitsN_step s k p hp, List.mem_cons] at h
      rcases h with rfl | h
      · exact ⟨hp, uAt_lt s p, rfl⟩
      · exact mem_unitsN s x k _ h
    · rw [unitsN_end s (k + 1) p hp] at h; cases h
/-- the last unit of what stands ahead of place e: its place, and it -/
def stepB (s : ByteArray) (e : Nat) : Nat × Nat := match (units (tailOf (s.extract 0 e))).getLast? with | none => (0, 0) | some x => (e - ((tailOf (s.extract 0 e)).size - x.1), x.2)
theorem size_tail (s : ByteArray) : (tailOf s).size = min 4 s.size := by unfold tailOf; simp [ByteArray.size_extract]; omega
theorem stepB_facts (s : ByteArray) (e : Nat) (h0 : 0 < e) (h1 : e ≤ s.size) : (stepB s e).1 < e ∧ (stepB s e).2 < 1114368 ∧ lastU (s.extract 0 e) = (((stepB s e).2 : Int), (e : Int) - (stepB s e).1) := by
  have hz : (s.extract 0 e).size = e := by simp [ByteArray.size_extract]; omega
  have ht := size_tail (s.extract 0 e)
  rw [hz] at ht
  have hne := units_ne (s := tailOf (s.extract 0 e)) (by omega)
  obtain ⟨x, hx⟩ : ∃ x, (units (tailOf (s.extract 0 e))).getLast? = some x := ⟨_, List.getLast?_eq_some_getLast hne⟩
  have hm := mem_unitsN _ x _ _ (List.mem_of_getLast? hx)
  have e1 : stepB s e = (e - ((tailOf (s.extract 0 e)).size - x.1), x.2) := by unfold stepB; rw [hx]
  have e2 : lastU (s.extract 0 e) = ((x.2 : Int), ((tailOf (s.extract 0 e)).size : Int) - x.1) := by unfold lastU lastOf; rw [hx]
  rw [e1, e2]
  refine ⟨by simp only; omega, hm.2.1, ?_⟩
  rw [Prod.mk.injEq]
  exact ⟨rfl, by simp only; omega⟩
def backN (s : ByteArray) : Nat → Nat → List (Nat × Nat)
  | 0, _ => []
  | k + 1, e => if e = 0 then [] else stepB s e :: backN s k (stepB s e).1
def backU (s : ByteArray) : List (Nat × Nat) := backN s s.size s.size
theorem backN_step (s : ByteArray) (k e : Nat) (h : 0 < e) : backN s (k + 1) e = stepB s e :: backN s k (stepB s e).1 := by simp [backN]; omega
theorem backN_end (s : ByteArray) (k : Nat) : backN s k 0 = [] := by cases k <;> simp [backN]
def UU.of (s : ByteArray) (e : Nat) (h0 : 0 < e) (h1 : e ≤ s.size) : UU s := ⟨stepB s e, by have := stepB_facts s e h0 h1; omega, (stepB_facts s e h0 h1).2.1⟩
theorem grown_below {W W' : World} (hb : Below W.heap.size W W') : W.grownBy W' none := ⟨hb.os, hb.tape, hb.output, hb.size, fun k hk _ => hb.block k hk⟩

theorem last_at (s : ByteArray) (hs : s.size ≤ maxLen) (e d : Nat) (h0 : 0 < e) (h1 : e ≤ s.size) (hd : (stepB s e).1 + d = e) (w : World) : Calls Tryd.prog 17 #[.string (s.extract 0 e)] w fun r w' => r = .returned (.tuple #[.int .i64 (stepB s e).2, .int .i64 d]) ∧ Below w.heap.size w w' := by
  have hxl : (s.extract 0 e).size ≤ maxLen := by simp [ByteArray.size_extract]; omega
  have hf := (stepB_facts s e h0 h1).2.2
  refine (last_any _ w hxl).mono ?_
  rintro r w' ⟨rfl, hb⟩
  refine ⟨?_, hb⟩
  rw [hf, show (e : Int) - (stepB s e).1 = d by omega]
set_option maxHeartbeats 1000000 in
theorem back1_in (n : Nat) (hn : 1 ≤ n) (l B : Nat) (s : ByteArray) (hs : s.size ≤ maxLen) (J Jx : List (UU s) → World → Prop)
    (hY : ∀ pre x W, J pre W → pre.length < s.size → YieldAt Fence.wide (n - 1) Tryd.prog l (encU x) W fun e W' =>
      (e = .returned (.bool true) ∧ J (pre ++ [x]) W' ∧ KpA B W W') ∨ (e = .returned (.bool false) ∧ Jx (pre ++ [x]) W'))
    (W : World) (hJ : AbidesFrom W.heap.size J) (hB : W.cell? ⟨B, 0, none⟩ = some (.string s)) (h0 : J [] W) :
    CallsIn Fence.wide n Tryd.prog 47 #[.func (.yield l) #[] #[], .pointer (some ⟨B, 0, none⟩)] W fun e W' => (∃ v, e = .returned v) ∧
      ((∃ ys, vals ys = backU s ∧ J ys W') ∨ (∃ pre, (vals pre <+: backU s ∧ pre ≠ []) ∧ Jx pre W')) := by
  have _hs2 := hs
  unfold maxLen at _hs2
  refine callsIn_of_wp Tryd.func47 rfl trivial ?_ rfl
  simp only [Tryd.ntmps47, List.size_toArray, List.length_cons, List.length_nil, Nat.reduceAdd, Nat.reduceSub, Array.replicate_succ, Array.replicate_zero, List.push_toArray, List.append_toArray, List.nil_append, List.cons_append]
  gi_wp2
  gi_loopw [3, 4, 5] (fun i _ _ wr => ∃ (pre : List (UU s)) (e k : Nat), i = .int .i64 e ∧ e ≤ s.size ∧ backU s = vals pre ++ backN s k e ∧ e ≤ k ∧ pre.length + e ≤ s.size ∧ wr.cell? ⟨B, 0, none⟩ = some (.string s) ∧ J pre wr) (fun i _ _ _ => (intOf i).toNat)
  case atStart =>
    exact ⟨[], s.size, s.size, rfl, Nat.le_refl _, rfl, Nat.le_refl _, by simp, hB, h0⟩
  case round =>
    obtain ⟨pre, e, k, rfl, he, hu, hk, hl, hBr, hJr⟩ := hrel
    by_cases hp : 0 < e
    · obtain ⟨k, rfl⟩ : ∃ j, k = j + 1 := ⟨k - 1, by omega⟩
      rw [backN_step s k e hp] at hu
      have hU : Hid (backU s = vals pre ++ stepB s e :: backN s k (stepB s e).1) := hu
      clear hu
      have hsb := stepB_facts s e hp he
      have hlt := hsb.1
      obtain ⟨d, hd⟩ : ∃ d, (stepB s e).1 + d = e := ⟨e - (stepB s e).1, by omega⟩
      have hD : Hid ((stepB s e).1 + d = e) := hd
      have hde : (((stepB s e).1 : Nat) : Int) = (e : Int) - (d : Int) := by omega
      have hDE : Hid ((((stepB s e).1 : Nat) : Int) = (e : Int) - (d : Int)) := hde
      have hd1 : 1 ≤ d := by omega
      have hd2 : d ≤ e := by omega
      clear hsb hd hde
      gi_wp2_with (refine ⟨trivial, ?_⟩; gi_at_call 17; refine (callsIn_wide.2 (last_at s hs e d hp he hD.out _)).mono ?_; rintro r w' ⟨rfl, hb⟩; have hJ2 := hJ pre wr w' none hJr (grown_below hb) (fun r e => by cases e); have hB2 := cell_kept hBr (grown_below hb) (fun r e => by cases e); obtain ⟨fn, tmps, assign, body, hy, hR⟩ := hY pre (UU.of s e hp he) w' hJ2 (by omega); dsimp only [encU, UU.of] at hy; rw [hDE.out] at hy)
      refine hR.mono ?_
      rintro r W3 (⟨rfl, hJ3, hk3⟩ | ⟨rfl, hJx3⟩)
      · have hB3 := hk3.2 _ hB2
        gi_wp2
        go_roundw
        case rel => exact ⟨pre ++ [UU.of s e hp he], (stepB s e).1, k, by rw [hDE.out], by have := hD.out; omega, by rw [hU.out, vals_snoc]; simp [UU.of], by have := hD.out; omega, by have := hD.out; simp; omega, hB3, hJ3⟩
        case measure => simp [intOf]; omega
      · gi_wp2
        refine bodyPost_ret (results_none rfl _ _ _) rfl ?_
        exact ⟨⟨_, rfl⟩, .inr ⟨pre ++ [UU.of s e hp he], ⟨by rw [hU.out, vals_snoc]; exact ⟨backN s k (stepB s e).1, by simp [UU.of]⟩, by simp⟩, hJx3⟩⟩
    · obtain rfl : e = 0 := by omega
      rw [backN_end s k, List.append_nil] at hu
      have hU : Hid (backU s = vals pre) := hu
      clear hu
      gi_wp2
      go_end0
      exact ⟨⟨_, rfl⟩, .inl ⟨pre, hU.out.symm, hJr⟩⟩
theorem back_stops (n : Nat) (hn : 1 ≤ n) (B : Nat) (s : ByteArray) (hs : s.size ≤ maxLen) (w : World) (hBw : B < w.heap.size) (hB : w.cell? ⟨B, 0, none⟩ = some (.string s)) :
    SeqStopsK Fence.wide n Tryd.prog 47 #[.pointer (some ⟨B, 0, none⟩)] (encU (s := s)) (KpA B) (fun ys => vals ys = backU s) (fun pre => vals pre <+: backU s ∧ pre ≠ []) s.size w := fun l J Jx W hW hJ _ hY h0 =>
  back1_in n hn l B s hs J Jx hY W hJ ((hW.cell (p := ⟨B, 0, none⟩) hBw).trans hB) h0
set_option maxHeartbeats 400000 in
theorem back_any (s : ByteArray) (w : World) : Calls Tryd.prog 34 #[.string s] w fun e w' => e = .returned (.func (.func 47) #[] #[.pointer (some ⟨w.heap.size, 0, none⟩)]) ∧ w' = w.alloc (.cells #[.string s] 9) := by
  go_enter Tryd.func34, Tryd.ntmps34
  go_wp2
  go_ret
  exact ⟨rfl, rfl⟩
end Go.Proofs
