/-
  Cut tells the units of a text, in order.
-/
import Derived.RangeFuncNested
import Derived.RangeFuncBound
import Derived.RangeFuncCalls
import Derived.RangeFuncLeaves
import Derived.Shelf.Abstract
import Derived.Shelf.RegionOpen
import Derived.WalkKit
import Derived.WalkSpells
import Derived.WalkLawsBesides
import Derived.OwnWalkIn
import Derived.TacticsInMore
import Derived.LoopNIn
import Derived.LoopIn
import Derived.BigQuiet
import Derived.RegionIn
import Derived.Deep.QuietTactic
import Derived.Lib.OthersKept
import Derived.Maps.AppendAt
import Derived.Lib.SmallJoins
import Derived.Lib.IndexBytes
import Derived.Test.YtahifnjompmcbaaDoorFo
import Derived.Test.YtahifnjompmcbaaDoorUh
namespace Go.Proofs
open Go.RowKit Go.Shelf

set_option maxRecDepth 100000
attribute [local go_sem] Oper.semAt_some
/-! Cut -/
def us (l : List (Nat × Nat)) : List Value := l.map fun x => Value.int .i64 (x.2 : Int)
theorem us_snoc (l : List (Nat × Nat)) (x : Nat × Nat) : us (l ++ [x]) = us l ++ [Value.int .i64 (x.2 : Int)] := by simp [us]
/-- what Cut has gathered behind some rounds -/
def CI (s : ByteArray) (b : Nat) (pre : List (UU s)) (W : World) : Prop :=
  ∃ v, Boxed W b 25 v ∧ W.ownsRow b 3 1 v pre.length (us (vals pre)) ∧ Boxed W (b + 1) 9 (.string s)
theorem CI_own (s : ByteArray) (b : Nat) : Own (CI s b) := by
  rintro p X Y row ⟨v, h1, h2, h3⟩ hg hr
  exact ⟨v, boxed_kept h1 hg hr, row_kept h2 hg hr, boxed_kept h3 hg hr⟩
set_option maxHeartbeats 2000000 in
theorem cut_any (s : ByteArray) (w : World) (hs : s.size ≤ 4398046511104) :
    Calls Tryd.prog 21 #[.string s] w fun e w' => ∃ v, e = .returned v ∧ w'.ownsRow w.heap.size 3 1 v (units s).length (us (units s)) ∧ Below w.heap.size w w' := by
  obtain ⟨i0, hi, hz0, hz1, hz2⟩ := info_parts info3
  refine (callsIn_wide (n := 5)).1 ?_
  refine callsIn_of_wp_marks Tryd.func21 rfl trivial ?_ rfl
  simp only [Tryd.ntmps21, List.size_toArray, List.length_cons, List.length_nil, Nat.reduceAdd, Nat.reduceSub, Array.replicate_succ, Array.replicate_zero, List.push_toArray, List.append_toArray, List.nil_append, List.cons_append]
  gi_wp2_with (refine ⟨trivial, ?_⟩; gi_at_call 33; refine (callsIn_wide.2 (all_any _ _)).mono ?_; rintro e w' ⟨rfl, rfl⟩)
  have b0 : Boxed (w.alloc (.cells #[.slice none 0 0] 25)) w.heap.size 25 (.slice none 0 0) := Boxed.new _ _ _
  have b1 : Boxed ((w.alloc (.cells #[.slice none 0 0] 25)).alloc (.cells #[.string s] 9)) (w.heap.size + 1) 9 (.string s) := by have := Boxed.new (w.alloc (.cells #[.slice none 0 0] 25)) 9 (.string s); rwa [World.size_alloc] at this
  have hB0 : Below w.heap.size w ((w.alloc (.cells #[.slice none 0 0] 25)).alloc (.cells #[.string s] 9)) := ((Below.refl _ w).alloc (Nat.le_refl _) _).alloc (by simp) _
  refine wpIn_rangeFunc_ownF rfl (by omega) (gf := 45) (lb := #[.pointer (some ⟨w.heap.size + 1, 0, none⟩)]) rfl trivial (enters_of Tryd.func45 (by kernel_rfl) rfl)
    (all_stops 4 (by omega) (w.heap.size + 1) s (by unfold maxLen; omega) _ (by simp) b1.cell) kpA_t kpA_b (Below.refl _ _) (fun _ => rfl)
    (fun pre W => CI s w.heap.size pre W ∧ Below w.heap.size w W)
    (fun _ _ _ => False)
    (OwnFrom.and (Own.from (CI_own _ _) _) (ownFrom_below (Nat.le_refl _) (by simp; omega)))
    (fun _ _ _ _ _ hs _ _ => hs)
    ⟨⟨_, b0.alloc _, World.ownsRow_nil _ _ _ _, b1⟩, hB0⟩
    (fun x => { tmps := #[.string s, undef, .slice none 0 0, .pointer (some ⟨w.heap.size, 0, none⟩), undef, .int .i64 x.1.2, .string s, .func (.func 45) #[] #[.pointer (some ⟨w.heap.size + 1, 0, none⟩)], .int .i64 x.1.1, .int .i64 x.1.2, undef, undef, undef, undef, undef], defers := [] }) ?assign ?body ?done ?stop
  case assign =>
    intro l x W K hK
    gi_wp2
    exact hK
  case body =>
    as_aux_lemma =>
      rintro l pre x W ⟨⟨v, h1, h2, h3⟩, hB⟩ hlt
      clear b0 b1 hB0
      have c1 := h1.cell
      have hz := hB.size
      gi_wp2_with (gi_at_builtin; go_must (refine wpListIn_append_own _ rfl _ _ 25 rfl w.heap.size 3 i0 (.int .i64 0) 1 8 Tryd.underlying25 hi hz0 hz1 hz2 rfl (by decide) _ _ _ rfl (h2.alloc _) ⟨W.heap.size, 0, none⟩ 1 1 [.int .i64 (x.1.2 : Int)] rfl rfl (cell_one_new _ _ _) (by simp [Value.oneCell']) (by unfold maxLen; omega) (by omega) (by rw [World.size_alloc]; omega) ?_); intro v' w1 hown' hgrow _; obtain ⟨g', cap', rfl⟩ := ownsRow_succ hown'; obtain ⟨hv1, hv2, hr2, hk2, hb2⟩ := h1.appended (by decide) h2 hz (Nat.le_refl _) hown' hgrow; have hc1 := hv1.cell; have hf1 := hv1.frozen)
      have m3 := ((h3.alloc _).kept hgrow (h3.not_row (by decide) h2)).other (B' := w.heap.size) (by omega) (.slice (some ⟨g', 0, none⟩) (pre.length + 1) cap')
      have hlen : (pre ++ [x]).length = pre.length + 1 := by simp
      refine ⟨hk2, kpA_of hk2 (fun u hu => ?_), ⟨_, hv2, ?_, m3⟩, hB.trans (hb2.mono (Nat.le_refl _))⟩
      · rw [h3.cell] at hu
        rw [m3.cell]; exact hu
      · rw [hlen, vals_snoc, us_snoc]
        exact hr2
  case done =>
    as_aux_lemma =>
      rintro D ys W hD hys ⟨⟨v, h1, h2, h3⟩, hB⟩ hK
      have HT : Hid (units s = vals ys) := hys.symm
      clear b0 b1 hB0 hys
      have c1 := h1.cell
      gi_wp2
      refine ⟨by simp, .inl ⟨_, _, rfl, run_takeDeferred hK, ?_⟩⟩
      refine ⟨_, results_tmp rfl _ _ _, v, rfl, ?_, hB.trans (belowK_b (w := w) (Nat.le_refl _) W D _ _ (by simp at hD; omega) hK rfl rfl)⟩
      rw [HT.out, vals_length]
      exact ownsRow_putObj h2 _ hK rfl
  case stop =>
    rintro D c pre W _ _ h _
    exact h.elim
end Go.Proofs
