/-
  All, with the row that it keeps; its iterator.
-/
import Derived.RangeFuncNested
import Derived.RangeFuncBound
import Derived.RangeFuncCalls
import Derived.RangeFuncLeaves
import Derived.Shelf.Abstract
import Derived.Shelf.RegionOpen
import Derived.WalkKit
import Derived.WalkSpells
import Derived.WalkLawsBesides
import Derived.OwnWalkIn
import Derived.TacticsInMore
import Derived.LoopNIn
import Derived.LoopIn
import Derived.BigQuiet
import Derived.RegionIn
import Derived.Deep.QuietTactic
import Derived.Deep.RegionWith
import Derived.Lib.OthersKept
import Derived.Maps.AppendAt
import Derived.Lib.SmallJoins
import Derived.Test.YtmgkolelcflcbaaDoorSd
namespace Go.Proofs
open Go.RowKit Go.Shelf

set_option maxRecDepth 100000
attribute [local go_sem] Oper.semAt_some

/-- a set of the iterator's own: where it has ranges, they lie in a row of ranges -/
def Row (w : World) (v : Value) (l : List (Int × Int)) : Prop := ∃ (A : Option Addr) (c : Nat), v = .slice A l.length c ∧ l.length ≤ c ∧ (l = [] ∨ ∃ g cur, A = some ⟨g, 0, none⟩ ∧ w.heap[g]? = some (.cells cur 38 (0, 0)) ∧ Reads w g 0 l)
theorem ownR_row {w : World} {b : Nat} {v : Value} {l : List (Int × Int)} (h : OwnR w b v l) : Row w v l := by
  obtain ⟨A, c, e, hc, k⟩ := h.rs
  refine ⟨A, c, e, hc, k.imp id ?_⟩
  rintro ⟨g, o, rfl, hr⟩
  rcases h.2 with ⟨rfl, _⟩ | ⟨g', cap, cur, rfl, _, hgb, _⟩
  · cases e
  · cases e
    exact ⟨_, cur, rfl, hgb, hr⟩
theorem Row.kept {w w' : World} {v : Value} {l : List (Int × Int)} (h : Row w v l) (hk : ∀ (k : Nat) (cs : Array Value), w.heap[k]? = some (.cells cs 38 (0, 0)) → w'.heap[k]? = some (.cells cs 38 (0, 0))) : Row w' v l := by
  obtain ⟨A, c, e, hc, k⟩ := h
  refine ⟨A, c, e, hc, k.imp id ?_⟩
  rintro ⟨g, cur, e2, hg, hr⟩
  have hg' := hk g cur hg
  refine ⟨g, cur, e2, hg', fun j hj => ?_⟩
  have h1 := hr j hj
  simp only [World.cell?, hg, hg'] at h1 ⊢
  exact h1
set_option maxHeartbeats 1000000 in
theorem clone_row (w : World) (g o n c : Nat) (l : List (Int × Int)) (hn : l.length = n) (hl : n ≤ 8796093022208) (hr : l = [] ∨ Reads w g o l) :
    Calls Tryd.prog 58 #[.slice (some ⟨g, o, none⟩) n c] w fun e w' => ∃ v, e = .returned v ∧ Row w' v l ∧ Below w.heap.size w w' := by
  by_cases h0 : l = []
  · refine (clone_any w g o n c l hn hl hr).mono ?_
    rintro e w' ⟨v, rfl, ⟨A, c', e1, hc, _⟩, hb⟩
    exact ⟨v, rfl, ⟨A, c', e1, hc, .inl h0⟩, hb⟩
  · have he := eq_some
    have hre := hr.resolve_left h0
    have HR : Hid (Reads (w.alloc (.cells #[] 38)) g o l) := hre.below ((Below.refl _ w).alloc (Nat.le_refl _) _) (hre.lt h0)
    have HN : Hid (l.length = n ∧ 0 < n) := ⟨hn, by have := List.length_pos_iff.2 h0; omega⟩
    obtain ⟨h, hh⟩ : ∃ h, w.heap.size = h := ⟨_, rfl⟩
    obtain ⟨i0, hi, hz0, hz1, hz2⟩ := info_parts info38
    have HI : Hid (w.heap.size = h) := hh
    clear hr hn hre h0
    go_enter Tryd.func58, Tryd.ntmps58
    go_wp2_with (at_builtin; go_must (refine wpList_append_grows (w.alloc (.cells #[] 38)) rfl _ _ 29 rfl 38 i0 (.agg #[.int .i64 0, .int .i64 0]) 2 16 Tryd.underlying29 hi hz0 hz1 hz2 rfl (by decide) (some ⟨h, 0, none⟩) 0 0 [] rfl (fun _ => ⟨rfl, rfl⟩) rfl (fun _ _ j u hj => by simp at hj) ⟨g, o, none⟩ n c (fl l) rfl (by rw [fl_length, HN.out.1]) (reads_fl HR.out) (fl_one _) (by have := HN.out.2; omega) (by unfold maxLen; omega) (by omega) ?_); intro v' w3 r1 r2)
    go_ret
    have hO : OwnR w3 (w.alloc (.cells #[] 38)).heap.size v' l := by
      unfold OwnR
      have := r1
      rw [HN.out.1]
      simpa using this
    exact ⟨_, rfl, ownR_row hO, ((Below.refl _ w).alloc (Nat.le_refl _) _).grown r2 (by simp) (fun k e => by cases e)⟩
set_option maxHeartbeats 1000000 in
theorem all_row (w : World) (hT : Tab w) (g o n c : Nat) (l : List (Int × Int)) (hn : l.length = n) (hnc : n ≤ c) (hl : n ≤ 8796093022208) (hr : l = [] ∨ Reads w g o l) (hv : validB l = true) :
    Calls Tryd.prog 41 #[.slice (some ⟨g, o, none⟩) n c] w fun e w' => ∃ v, e = .returned (.func (.func 59) #[] #[.pointer (some ⟨w.heap.size, 0, none⟩)]) ∧ Boxed w' w.heap.size 29 v ∧ Row w' v l ∧ Below w.heap.size w w' := by
  have hrs : Rs w (.slice (some ⟨g, o, none⟩) n c) l := ⟨some ⟨g, o, none⟩, c, by rw [hn], by rw [hn]; exact hnc, hr.imp id (fun h => ⟨g, o, rfl, h⟩)⟩
  have HB1 : Below w.heap.size w (w.alloc (.cells #[.slice none 0 0] 29)) := (Below.refl _ w).alloc (Nat.le_refl _) _
  have HC : Hid (Calls Tryd.prog 19 #[.slice (some ⟨g, o, none⟩) n c] (w.alloc (.cells #[.slice none 0 0] 29)) fun e w' => e = .returned (.bool true) ∧ Grown (w.alloc (.cells #[.slice none 0 0] 29)) w') := by
    have := valid_any _ l (w.alloc (.cells #[.slice none 0 0] 29)) (hT.below HB1 hT.pos) (hrs.below HB1 (Nat.le_refl _)); rw [hv] at this; exact this
  have HL : Hid (∀ W, Below w.heap.size w W → Calls Tryd.prog 58 #[.slice (some ⟨g, o, none⟩) n c] W fun e w' => ∃ v, e = .returned v ∧ Row w' v l ∧ Below W.heap.size W w') := fun W hW =>
    clone_row W g o n c l hn hl (by
      by_cases h0 : l = []
      · exact .inl h0
      · have k := hr.resolve_left h0
        exact .inr (k.below hW (k.lt h0)))
  clear hrs hv hr hn hnc hl
  go_enter Tryd.func41, Tryd.ntmps41
  go_wp2_with fail
  refine HC.out.mono ?_
  rintro e w1 ⟨rfl, hb1⟩
  have hbx : Boxed (w.alloc (.cells #[.slice none 0 0] 29)) w.heap.size 29 (.slice none 0 0) := Boxed.new _ _ _
  have hbx1 := boxed_below hbx hb1.below (by simp)
  have hB1 : Below w.heap.size w w1 := HB1.trans (hb1.below.mono (by simp))
  go_wp2_with fail
  refine (HL.out w1 hB1).mono ?_
  rintro e w2 ⟨v, rfl, hrs, hb2⟩
  have hbx2 := boxed_below hbx1 hb2 (Boxed.lt hbx1)
  have hc := hbx2.cell
  have hf := hbx2.frozen
  have HRS : Hid (Row w2 v l) := hrs
  obtain ⟨A, c', rfl, -, -⟩ := hrs
  go_wp2
  go_ret
  refine ⟨_, rfl, hbx2.set _, HRS.out.kept (fun k cs hk => ?_), (hB1.trans (hb2.mono hB1.size)).setCell (p := ⟨w.heap.size, 0, none⟩) (Nat.le_refl _) _⟩
  have e : (w2.setCell ⟨w.heap.size, 0, none⟩ (.slice A l.length c')).heap[k]? = w2.heap[k]? := by
    show (w2.heap.modify w.heap.size _)[k]? = _
    rw [Array.getElem?_modify, if_neg]
    rintro rfl
    rw [show w2.heap[w.heap.size]? = _ from hbx2] at hk
    cases hk
  exact e.trans hk
end Go.Proofs
