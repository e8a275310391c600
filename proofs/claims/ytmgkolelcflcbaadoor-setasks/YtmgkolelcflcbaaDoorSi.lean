/-
  The first units of any ranges, a set or not; and how they go with Nth and Len.
-/
import Derived.RangeFuncNested
import Derived.RangeFuncBound
import Derived.RangeFuncCalls
import Derived.RangeFuncLeaves
import Derived.Shelf.Abstract
import Derived.Shelf.RegionOpen
import Derived.WalkKit
import Derived.WalkSpells
import Derived.WalkLawsBesides
import Derived.OwnWalkIn
import Derived.TacticsInMore
import Derived.LoopNIn
import Derived.LoopIn
import Derived.BigQuiet
import Derived.RegionIn
import Derived.Deep.QuietTactic
import Derived.Deep.RegionWith
import Derived.Lib.OthersKept
import Derived.Maps.AppendAt
import Derived.Lib.SmallJoins
import Derived.Test.YtmgkolelcflcbaaDoorSh
namespace Go.Proofs
open Go.RowKit Go.Shelf

set_option maxRecDepth 100000
attribute [local go_sem] Oper.semAt_some

theorem allL_cons (x : Int × Int) (r : List (Int × Int)) : allL (x :: r) = nums x ++ allL r := by simp [allL]
theorem nums_len {x : Int × Int} (h : x.1 ≤ x.2) : ((nums x).length : Int) = x.2 - x.1 + 1 := by
  unfold nums; rw [upTo_len]; omega
theorem nums_at (x : Int × Int) (i : Nat) (h : i < (nums x).length) : (nums x)[i]? = some (x.1 + (i : Int)) := by
  have h' : i < (x.2 + 1 - x.1).toNat := by unfold nums at h; rwa [upTo_len] at h
  unfold nums upTo
  simp [List.getElem?_map, List.getElem?_range h']
theorem allL_len : ∀ (l : List (Int × Int)), (∀ y ∈ l, Whole y) → ((allL l).length : Int) = tot l
  | [], _ => rfl
  | x :: r, h => by
    have hx := (h x (by simp)).1
    have := allL_len r (fun y hy => h y (by simp [hy]))
    rw [allL_cons, tot_cons, List.length_append]
    have := nums_len hx
    omega
theorem nthL_all : ∀ (l : List (Int × Int)) (i : Nat), (∀ y ∈ l, Whole y) → nthL l (i : Int) = (allL l)[i]?
  | [], i, _ => by simp [nthL, allL]
  | x :: r, i, h => by
    have hx := nums_len (h x (by simp)).1
    rw [allL_cons, nthL]
    by_cases hi : (i : Int) < x.2 - x.1 + 1
    · have hi' : i < (nums x).length := by omega
      rw [if_pos hi, List.getElem?_append_left hi', nums_at x i hi']
    · have hi' : (nums x).length ≤ i := by omega
      rw [if_neg hi, List.getElem?_append_right hi', ← nthL_all r (i - (nums x).length) (fun y hy => h y (by simp [hy]))]
      congr 1
      omega
/-- the units of any ranges -/
def allS (l : List (Int × Int)) : List Int := if validB l = true then allL l else []
theorem allS_len (l : List (Int × Int)) : ((allS l).length : Int) = lenU l := by
  unfold allS lenU
  split
  · rename_i h; exact allL_len l ((validB_iff l).1 h).2.1
  · rfl
theorem allS_nth (l : List (Int × Int)) (i : Nat) : nthU l (i : Int) = (allS l)[i]? := by
  unfold nthU allS
  by_cases h : validB l = true
  · rw [if_pos h, if_neg (by rw [h]; simp)]
    exact nthL_all l i ((validB_iff l).1 h).2.1
  · rw [if_neg h, if_pos (.inr (by simpa using h))]; simp
set_option maxHeartbeats 1000000 in
theorem all_bad (w : World) (hT : Tab w) (g o n c : Nat) (l : List (Int × Int)) (hrs : Rs w (.slice (some ⟨g, o, none⟩) n c) l) (hv : validB l = false) :
    Calls Tryd.prog 41 #[.slice (some ⟨g, o, none⟩) n c] w fun e w' => ∃ v, e = .returned (.func (.func 59) #[] #[.pointer (some ⟨w.heap.size, 0, none⟩)]) ∧ Boxed w' w.heap.size 29 v ∧ Row w' v [] ∧ Below w.heap.size w w' := by
  have HB1 : Below w.heap.size w (w.alloc (.cells #[.slice none 0 0] 29)) := (Below.refl _ w).alloc (Nat.le_refl _) _
  have HC : Hid (Calls Tryd.prog 19 #[.slice (some ⟨g, o, none⟩) n c] (w.alloc (.cells #[.slice none 0 0] 29)) fun e w' => e = .returned (.bool false) ∧ Grown (w.alloc (.cells #[.slice none 0 0] 29)) w') := by
    have := valid_any _ l (w.alloc (.cells #[.slice none 0 0] 29)) (hT.below HB1 hT.pos) (hrs.below HB1 (Nat.le_refl _)); rw [hv] at this; exact this
  clear hrs hv
  go_enter Tryd.func41, Tryd.ntmps41
  go_wp2_with fail
  refine HC.out.mono ?_
  rintro e w1 ⟨rfl, hb1⟩
  have hbx : Boxed (w.alloc (.cells #[.slice none 0 0] 29)) w.heap.size 29 (.slice none 0 0) := Boxed.new _ _ _
  have hbx1 := boxed_below hbx hb1.below (by simp)
  have hB1 : Below w.heap.size w w1 := HB1.trans (hb1.below.mono (by simp))
  go_wp2
  go_ret
  exact ⟨_, rfl, hbx1, ⟨none, 0, rfl, Nat.le_refl _, .inl rfl⟩, hB1⟩
theorem first_any (w : World) (hT : Tab w) (g o n c m : Nat) (l : List (Int × Int)) (hrs : Rs w (.slice (some ⟨g, o, none⟩) n c) l) (hm : m ≤ 1000) :
    Calls Tryd.prog 27 #[.slice (some ⟨g, o, none⟩) n c, .int .i64 m] w fun e w' => ∃ v, e = .returned v ∧ OwnI w' w.heap.size v ((allS l).take m) ∧ Below w.heap.size w w' := by
  by_cases hv : validB l = true
  · unfold allS
    rw [if_pos hv]
    obtain ⟨h5, hG⟩ := (validB_iff l).1 hv
    refine first_gen w g o n c m l h5 hm (fun k hk => ?_) (fun W hb => ?_)
    · have := good_at hG hk
      obtain ⟨a, b⟩ := this
      omega
    · obtain ⟨A, c', e, hc, hr⟩ := hrs.below hb (Nat.le_refl _)
      cases e
      refine all_row W (hT.below hb hT.pos) g o l.length c l rfl hc (by omega) ?_ hv
      rcases hr with h | ⟨g', o', e, h⟩
      · exact .inl h
      · cases e; exact .inr h
  · have hf : validB l = false := by simpa using hv
    unfold allS
    rw [if_neg hv]
    exact first_gen w g o n c m [] (by simp) hm (fun k hk => absurd hk (by simp)) (fun W hb => all_bad W (hT.below hb hT.pos) g o n c l (hrs.below hb (Nat.le_refl _)) hf)
end Go.Proofs
