/-
  clipped: the units of a range, as ranges.
-/
import Derived.RangeFuncNested
import Derived.RangeFuncBound
import Derived.RangeFuncCalls
import Derived.RangeFuncLeaves
import Derived.Shelf.Abstract
import Derived.Shelf.RegionOpen
import Derived.WalkKit
import Derived.WalkSpells
import Derived.WalkLawsBesides
import Derived.OwnWalkIn
import Derived.TacticsInMore
import Derived.LoopNIn
import Derived.LoopIn
import Derived.BigQuiet
import Derived.RegionIn
import Derived.Deep.QuietTactic
import Derived.Deep.RegionWith
import Derived.Lib.OthersKept
import Derived.Maps.AppendAt
import Derived.Lib.SmallJoins
import Derived.Test.YtmgkolelcflcbaaDoorVf
namespace Go.Proofs
open Go.RowKit Go.Shelf

set_option maxRecDepth 100000
attribute [local go_sem] Oper.semAt_some
/-- what a range has of a block -/
def pc (a b : Int) (j : Nat) : Int × Int := (max a (blkLo j), min b (blkHi j))
def clipsN (a b : Int) : Nat → List (Int × Int)
  | 0 => []
  | k + 1 => clipsN a b k ++ (if (pc a b k).1 ≤ (pc a b k).2 then [pc a b k] else [])
theorem clipsN_no {a b : Int} {k : Nat} (h : ¬ (pc a b k).1 ≤ (pc a b k).2) : clipsN a b (k + 1) = clipsN a b k := by
  show clipsN a b k ++ (if (pc a b k).1 ≤ (pc a b k).2 then [pc a b k] else []) = _
  rw [if_neg h, List.append_nil]
def clips (a b : Int) : List (Int × Int) := clipsN a b 3
theorem clipsN_len (a b : Int) (k : Nat) : (clipsN a b k).length ≤ k := by
  induction k with
  | zero => simp [clipsN]
  | succ k ih => simp only [clipsN, List.length_append]; split <;> simp <;> omega
abbrev encP (x : Int × Int) : Array Value := #[.agg #[.int .i64 x.1, .int .i64 x.2]]
/-- what the iterator asks a round to keep: iterators, and the box of the range -/
def KpB (B : Nat) (W W' : World) : Prop := KeepsWalks W W' ∧ (∀ j v, W.cell? ⟨B, j, none⟩ = some v → W'.cell? ⟨B, j, none⟩ = some v)
theorem kpB_t {B : Nat} {X Y Z : World} (h : KpB B X Y) (k : KpB B Y Z) : KpB B X Z := ⟨h.1.trans k.1, fun j v hv => k.2 j v (h.2 j v hv)⟩
theorem kpB_b {B : Nat} {w : World} (W : World) (l : Nat) (o o' : Obj) (hl : w.heap.size ≤ l) (h : W.heap[l]? = some o) (hc : o.isCells = false) (hw : o.isWalk = false) : KpB B W (W.putObj l o') :=
  ⟨walksK_b (w := w) W l o o' hl h hc hw, fun j v hv => cell_kept hv (grownBy_putObj' W l o') (fun r e => by cases e; exact ⟨o, h, hc⟩)⟩
theorem clip_pre {a b : Int} {k : Nat} (hk : k < 3) (h : (pc a b k).1 ≤ (pc a b k).2) : clipsN a b k ++ [pc a b k] <+: clips a b := by
  have e : clipsN a b (k + 1) = clipsN a b k ++ [pc a b k] := by simp only [clipsN]; rw [if_pos h]
  rw [← e]
  have h3 : k + 1 = 1 ∨ k + 1 = 2 ∨ k + 1 = 3 := by omega
  unfold clips
  rcases h3 with h | h | h <;> rw [h]
  · exact List.IsPrefix.trans ⟨_, rfl⟩ (⟨_, rfl⟩ : clipsN a b 2 <+: clipsN a b 3)
  · exact ⟨_, rfl⟩
  · exact List.prefix_refl _
set_option maxHeartbeats 2000000 in
theorem clip_in (F : Fence) (n : Nat) (hF : F = Fence.wide) (hn : 1 ≤ n) (l B : Nat) (a b : Int) (J Jx : List (Int × Int) → World → Prop)
    (hY : ∀ pre x W, J pre W → pre.length < 3 → YieldAt F (n - 1) Tryd.prog l (encP x) W fun e W' =>
      (e = .returned (.bool true) ∧ J (pre ++ [x]) W' ∧ KpB B W W') ∨ (e = .returned (.bool false) ∧ Jx (pre ++ [x]) W'))
    (W : World) (hJ : AbidesFrom W.heap.size J) (hT : Tab W) (hB0 : W.cell? ⟨B, 0, none⟩ = some (.int .i64 a)) (hB1 : W.cell? ⟨B, 1, none⟩ = some (.int .i64 b)) (h0 : J [] W) :
    CallsIn F n Tryd.prog 61 #[.func (.yield l) #[] #[], .pointer (some ⟨B, 0, none⟩)] W fun e W' => (∃ v, e = .returned v) ∧
      ((∃ ys, ys = clips a b ∧ J ys W') ∨ (∃ pre, (pre <+: clips a b ∧ pre ≠ []) ∧ Jx pre W')) := by
  subst hF
  have t0 := hT.cell 0 (.int .i64 0) rfl
  have t1 := hT.cell 1 (.int .i64 55295) rfl
  have t2 := hT.cell 2 (.int .i64 57344) rfl
  have t3 := hT.cell 3 (.int .i64 1114111) rfl
  have t4 := hT.cell 4 (.int .i64 1114240) rfl
  have t5 := hT.cell 5 (.int .i64 1114367) rfl
  refine callsIn_of_wp Tryd.func61 rfl trivial ?_ rfl
  simp only [Tryd.ntmps61, List.size_toArray, List.length_cons, List.length_nil, Nat.reduceAdd, Nat.reduceSub, Array.replicate_succ, Array.replicate_zero, List.push_toArray, List.append_toArray, List.nil_append, List.cons_append]
  gi_wp2
  clear t0 t1 t2 t3 t4 t5
  gi_loopw [7] (fun vi wr => ∃ k : Nat, vi = .int .i64 k ∧ k ≤ 3 ∧ wr.cell? ⟨B, 0, none⟩ = some (.int .i64 a) ∧ wr.cell? ⟨B, 1, none⟩ = some (.int .i64 b) ∧ J (clipsN a b k) wr) (fun vi _ => 3 - (intOf vi).toNat)
  case atStart => exact ⟨0, rfl, by omega, hB0, hB1, h0⟩
  case round =>
    obtain ⟨k, rfl, hk, c0, c1, hJr⟩ := hrel
    have d0 := fun o => cell_up c0 o
    have d1 := fun o => cell_up c1 o
    have hk5 : k = 0 ∨ k = 1 ∨ k = 2 ∨ k = 3 := by omega
    rcases hk5 with rfl | rfl | rfl | rfl
    · have hix := idx0
      have hJ2 : J (clipsN a b 0) ((wr.alloc (.cells #[.int .i64 0, .int .i64 55295] 38)).alloc (.cells #[.int .i64 (max a 0), .int .i64 (min b 55295)] 38)) := hJ _ _ _ none (hJ _ wr _ none hJr (World.grownBy_alloc wr _ none) (fun r e => by cases e)) (World.grownBy_alloc _ _ none) (fun r e => by cases e)
      by_cases hp : max a 0 ≤ min b 55295
      · have HP : Hid ((pc a b 0).1 ≤ (pc a b 0).2) := hp
        obtain ⟨fn, tmps, assign, body, hy, hR⟩ := hY _ (max a 0, min b 55295) _ hJ2 (by have := clipsN_len a b 0; omega)
        dsimp only [encP] at hy
        have g0 := cell_up (d0 (.cells #[.int .i64 0, .int .i64 55295] 38)) (.cells #[.int .i64 (max a 0), .int .i64 (min b 55295)] 38)
        have g1 := cell_up (d1 (.cells #[.int .i64 0, .int .i64 55295] 38)) (.cells #[.int .i64 (max a 0), .int .i64 (min b 55295)] 38)
        gi_wp2
        refine hR.mono ?_
        rintro e W3 (⟨rfl, hJ3, hk3⟩ | ⟨rfl, hJx3⟩)
        · gi_wp2
          go_roundw
          case rel =>
            refine ⟨1, rfl, by omega, hk3.2 _ _ g0, hk3.2 _ _ g1, ?_⟩
            have e : clipsN a b 1 = clipsN a b 0 ++ [pc a b 0] := by simp only [clipsN]; rw [if_pos HP.out]
            rw [e]; exact hJ3
          case measure => simp [intOf]
        · gi_wp2
          refine bodyPost_ret (results_none rfl _ _ _) rfl ?_
          exact ⟨⟨_, rfl⟩, .inr ⟨clipsN a b 0 ++ [pc a b 0], ⟨clip_pre (by omega) HP.out, by simp⟩, hJx3⟩⟩
      · have hd : decide (max a 0 ≤ min b 55295) = false := by simpa using hp
        have HP : Hid (¬ (pc a b 0).1 ≤ (pc a b 0).2) := hp
        clear hp
        have g0 := cell_up (d0 (.cells #[.int .i64 0, .int .i64 55295] 38)) (.cells #[.int .i64 (max a 0), .int .i64 (min b 55295)] 38)
        have g1 := cell_up (d1 (.cells #[.int .i64 0, .int .i64 55295] 38)) (.cells #[.int .i64 (max a 0), .int .i64 (min b 55295)] 38)
        gi_wp2
        refine ⟨fun f e => (by cases e), ?_⟩
        gi_wp2
        go_roundw
        case rel =>
          refine ⟨1, rfl, by omega, g0, g1, ?_⟩
          have e : clipsN a b 1 = clipsN a b 0 := clipsN_no (by have := HP.out; omega)
          rw [e]; exact hJ2
        case measure => simp [intOf]
    · have hix := idx1
      have hJ2 : J (clipsN a b 1) ((wr.alloc (.cells #[.int .i64 57344, .int .i64 1114111] 38)).alloc (.cells #[.int .i64 (max a 57344), .int .i64 (min b 1114111)] 38)) := hJ _ _ _ none (hJ _ wr _ none hJr (World.grownBy_alloc wr _ none) (fun r e => by cases e)) (World.grownBy_alloc _ _ none) (fun r e => by cases e)
      by_cases hp : max a 57344 ≤ min b 1114111
      · have HP : Hid ((pc a b 1).1 ≤ (pc a b 1).2) := hp
        obtain ⟨fn, tmps, assign, body, hy, hR⟩ := hY _ (max a 57344, min b 1114111) _ hJ2 (by have := clipsN_len a b 1; omega)
        dsimp only [encP] at hy
        have g0 := cell_up (d0 (.cells #[.int .i64 57344, .int .i64 1114111] 38)) (.cells #[.int .i64 (max a 57344), .int .i64 (min b 1114111)] 38)
        have g1 := cell_up (d1 (.cells #[.int .i64 57344, .int .i64 1114111] 38)) (.cells #[.int .i64 (max a 57344), .int .i64 (min b 1114111)] 38)
        gi_wp2
        refine hR.mono ?_
        rintro e W3 (⟨rfl, hJ3, hk3⟩ | ⟨rfl, hJx3⟩)
        · gi_wp2
          go_roundw
          case rel =>
            refine ⟨2, rfl, by omega, hk3.2 _ _ g0, hk3.2 _ _ g1, ?_⟩
            have e : clipsN a b 2 = clipsN a b 1 ++ [pc a b 1] := by simp only [clipsN]; rw [if_pos HP.out]
            rw [e]; exact hJ3
          case measure => simp [intOf]
        · gi_wp2
          refine bodyPost_ret (results_none rfl _ _ _) rfl ?_
          exact ⟨⟨_, rfl⟩, .inr ⟨clipsN a b 1 ++ [pc a b 1], ⟨clip_pre (by omega) HP.out, by simp⟩, hJx3⟩⟩
      · have hd : decide (max a 57344 ≤ min b 1114111) = false := by simpa using hp
        have HP : Hid (¬ (pc a b 1).1 ≤ (pc a b 1).2) := hp
        clear hp
        have g0 := cell_up (d0 (.cells #[.int .i64 57344, .int .i64 1114111] 38)) (.cells #[.int .i64 (max a 57344), .int .i64 (min b 1114111)] 38)
        have g1 := cell_up (d1 (.cells #[.int .i64 57344, .int .i64 1114111] 38)) (.cells #[.int .i64 (max a 57344), .int .i64 (min b 1114111)] 38)
        gi_wp2
        refine ⟨fun f e => (by cases e), ?_⟩
        gi_wp2
        go_roundw
        case rel =>
          refine ⟨2, rfl, by omega, g0, g1, ?_⟩
          have e : clipsN a b 2 = clipsN a b 1 := clipsN_no (by have := HP.out; omega)
          rw [e]; exact hJ2
        case measure => simp [intOf]
    · have hix := idx2
      have hJ2 : J (clipsN a b 2) ((wr.alloc (.cells #[.int .i64 1114240, .int .i64 1114367] 38)).alloc (.cells #[.int .i64 (max a 1114240), .int .i64 (min b 1114367)] 38)) := hJ _ _ _ none (hJ _ wr _ none hJr (World.grownBy_alloc wr _ none) (fun r e => by cases e)) (World.grownBy_alloc _ _ none) (fun r e => by cases e)
      by_cases hp : max a 1114240 ≤ min b 1114367
      · have HP : Hid ((pc a b 2).1 ≤ (pc a b 2).2) := hp
        obtain ⟨fn, tmps, assign, body, hy, hR⟩ := hY _ (max a 1114240, min b 1114367) _ hJ2 (by have := clipsN_len a b 2; omega)
        dsimp only [encP] at hy
        have g0 := cell_up (d0 (.cells #[.int .i64 1114240, .int .i64 1114367] 38)) (.cells #[.int .i64 (max a 1114240), .int .i64 (min b 1114367)] 38)
        have g1 := cell_up (d1 (.cells #[.int .i64 1114240, .int .i64 1114367] 38)) (.cells #[.int .i64 (max a 1114240), .int .i64 (min b 1114367)] 38)
        gi_wp2
        refine hR.mono ?_
        rintro e W3 (⟨rfl, hJ3, hk3⟩ | ⟨rfl, hJx3⟩)
        · gi_wp2
          go_roundw
          case rel =>
            refine ⟨3, rfl, by omega, hk3.2 _ _ g0, hk3.2 _ _ g1, ?_⟩
            have e : clipsN a b 3 = clipsN a b 2 ++ [pc a b 2] := by simp only [clipsN]; rw [if_pos HP.out]
            rw [e]; exact hJ3
          case measure => simp [intOf]
        · gi_wp2
          refine bodyPost_ret (results_none rfl _ _ _) rfl ?_
          exact ⟨⟨_, rfl⟩, .inr ⟨clipsN a b 2 ++ [pc a b 2], ⟨clip_pre (by omega) HP.out, by simp⟩, hJx3⟩⟩
      · have hd : decide (max a 1114240 ≤ min b 1114367) = false := by simpa using hp
        have HP : Hid (¬ (pc a b 2).1 ≤ (pc a b 2).2) := hp
        clear hp
        have g0 := cell_up (d0 (.cells #[.int .i64 1114240, .int .i64 1114367] 38)) (.cells #[.int .i64 (max a 1114240), .int .i64 (min b 1114367)] 38)
        have g1 := cell_up (d1 (.cells #[.int .i64 1114240, .int .i64 1114367] 38)) (.cells #[.int .i64 (max a 1114240), .int .i64 (min b 1114367)] 38)
        gi_wp2
        refine ⟨fun f e => (by cases e), ?_⟩
        gi_wp2
        go_roundw
        case rel =>
          refine ⟨3, rfl, by omega, g0, g1, ?_⟩
          have e : clipsN a b 3 = clipsN a b 2 := clipsN_no (by have := HP.out; omega)
          rw [e]; exact hJ2
        case measure => simp [intOf]
    · gi_wp2
      go_end0
      exact ⟨⟨_, rfl⟩, .inl ⟨_, rfl, hJr⟩⟩
theorem clip_stops (n : Nat) (hn : 1 ≤ n) (B : Nat) (a b : Int) (w : World) (hBw : B < w.heap.size) (hT : Tab w) (hB0 : w.cell? ⟨B, 0, none⟩ = some (.int .i64 a)) (hB1 : w.cell? ⟨B, 1, none⟩ = some (.int .i64 b)) :
    SeqStopsK Fence.wide n Tryd.prog 61 #[.pointer (some ⟨B, 0, none⟩)] encP (KpB B) (fun ys => ys = clips a b) (fun pre => pre <+: clips a b ∧ pre ≠ []) 3 w := fun l J Jx W hW hJ _ hY h0 =>
  clip_in Fence.wide n rfl hn l B a b J Jx hY W hJ (hT.below hW hT.pos) ((hW.cell (p := ⟨B, 0, none⟩) hBw).trans hB0) ((hW.cell (p := ⟨B, 1, none⟩) hBw).trans hB1) h0
set_option maxHeartbeats 400000 in
theorem clipped_any (a b : Int) (w : World) : Calls Tryd.prog 42 #[.agg #[.int .i64 a, .int .i64 b]] w fun e w' => e = .returned (.func (.func 61) #[] #[.pointer (some ⟨w.heap.size, 0, none⟩)]) ∧ w' = w.alloc (.cells #[.int .i64 a, .int .i64 b] 38) := by
  go_enter Tryd.func42, Tryd.ntmps42
  go_wp2
  go_ret
  exact ⟨rfl, rfl⟩
end Go.Proofs
