/-
  What is far is not seen, by thinking.
-/
import Derived.RangeFuncNested
import Derived.RangeFuncBound
import Derived.RangeFuncCalls
import Derived.RangeFuncLeaves
import Derived.Shelf.Abstract
import Derived.Shelf.RegionOpen
import Derived.WalkKit
import Derived.WalkSpells
import Derived.WalkLawsBesides
import Derived.OwnWalkIn
import Derived.TacticsInMore
import Derived.LoopNIn
import Derived.LoopIn
import Derived.BigQuiet
import Derived.RegionIn
import Derived.Deep.QuietTactic
import Derived.Deep.RegionWith
import Derived.Lib.OthersKept
import Derived.Maps.AppendAt
import Derived.Lib.SmallJoins
import Derived.Shelf.SlSortCmp.QuietGrown
import Derived.Test.YtpppcfppabghhaaDoorNm
namespace Go.Proofs
open Go.RowKit Go.Shelf

set_option maxRecDepth 100000
attribute [local go_sem] Oper.semAt_some
attribute [local go_sem ↓] Go.wp_at_zero Go.wp_at_succ

theorem stU_near : ∀ (ss : List (List (Int × Int))) (us us' : List Int) (al : Bool) (m : Nat), ss.length ≤ m → us.take (m + 1) = us'.take (m + 1) → stU us ss al = stU us' ss al
  | [], us, us', al, m, _, h => by
    rw [stU_end, stU_end]
    match us, us', h with
    | [], [], _ => rfl
    | [], y :: ys, h => simp at h
    | x :: xs, [], h => simp at h
    | x :: xs, y :: ys, _ => rfl
  | s :: ss, us, us', al, m, hm, h => by
    match m, hm with
    | m + 1, hm =>
      match us, us', h with
      | [], [], _ => rfl
      | [], y :: ys, h => simp at h
      | x :: xs, [], h => simp at h
      | x :: xs, y :: ys, h =>
        rw [List.take_succ_cons, List.take_succ_cons] at h
        injection h with h1 h2
        rw [stU_cons, stU_cons, h1, stU_near ss xs ys al m (by simpa using hm) h2]
/-- the same, as far as a rule sees -/
def Near (d l d' l' : List Int) : Prop := d.reverse.take 9 = d'.reverse.take 9 ∧ l.take 17 = l'.take 17
theorem fitB_near {r : Rl} {d l d' l' : List Int} (hO : Ok r) (h : Near d l d' l') : fitB r d l = fitB r d' l' := by
  unfold fitB
  rw [stU_near _ l l' _ 16 (by have := hO.k8; have := hO.p8; simp; omega) h.2, stU_near _ d.reverse d'.reverse _ 8 (by have := hO.a8; simp; omega) h.1]
theorem fitsB_near {r : Rl} {d l d' l' : List Int} (h : Near d l d' l') : fitsB r d l = fitsB r d' l' := by
  unfold fitsB
  by_cases h0 : chk r = 0
  · rw [fitB_near (chk_ok h0) h]
  · simp [h0]
theorem fdK_near {rs : List Rl} {d l d' l' : List Int} (hO : ∀ r ∈ rs, Ok r) (h : Near d l d' l') : ∀ k, k ≤ rs.length → fdK rs d l k = fdK rs d' l' k
  | 0, _ => rfl
  | k + 1, hk => by
    rw [fdK_succ d l hk, fdK_succ d' l' hk, fdK_near hO h k (by omega), fitB_near (hO _ (List.getElem_mem hk)) h]
theorem fdF_near {rs : List Rl} {d l d' l' : List Int} (h : Near d l d' l') : fdF rs d l = fdF rs d' l' := by
  unfold fdF
  by_cases h0 : (allE rs).2 = 0
  · rw [if_pos h0, if_pos h0, fdK_near (fun r hr => chk_ok ((allE_chk h0).2 r hr)) h _ (Nat.le_refl _)]
  · rw [if_neg h0, if_neg h0]
theorem near_cut (d l : List Int) : Near (d.drop (d.length - 9)) (l.take 17) d l := by
  refine ⟨?_, ?_⟩
  · rw [List.reverse_drop, List.take_take]
    by_cases h : d.length ≤ 9
    · rw [List.take_of_length_le (by simp; omega), List.take_of_length_le (by simp; omega)]
    · rw [show min 9 (d.length - (d.length - 9)) = 9 by omega]
  · rw [List.take_take]; rfl
theorem near_more (d l : List Int) (u : Int) (hd : d.length = 9) (hl : l.length = 17) : Near ([u, u] ++ d) (l ++ [u]) d l := by
  refine ⟨?_, ?_⟩
  · rw [List.reverse_append, List.take_append_of_le_length (by simp; omega)]
  · rw [List.take_append_of_le_length (by omega)]
theorem Near.trans {a b c d e f : List Int} (h : Near a b c d) (k : Near c d e f) : Near a b e f := ⟨h.1.trans k.1, h.2.trans k.2⟩
end Go.Proofs
