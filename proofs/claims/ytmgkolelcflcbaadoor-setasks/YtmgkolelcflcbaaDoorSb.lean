/-
  A set's units: Clone, All.
-/
import Derived.RangeFuncNested
import Derived.RangeFuncBound
import Derived.RangeFuncCalls
import Derived.RangeFuncLeaves
import Derived.Shelf.Abstract
import Derived.Shelf.RegionOpen
import Derived.WalkKit
import Derived.WalkSpells
import Derived.WalkLawsBesides
import Derived.OwnWalkIn
import Derived.TacticsInMore
import Derived.LoopNIn
import Derived.LoopIn
import Derived.BigQuiet
import Derived.RegionIn
import Derived.Deep.QuietTactic
import Derived.Deep.RegionWith
import Derived.Lib.OthersKept
import Derived.Maps.AppendAt
import Derived.Lib.SmallJoins
import Derived.Test.YtmgkolelcflcbaaDoorSa
import Derived.Test.YtmgkolelcflcbaaDoorVm
namespace Go.Proofs
open Go.RowKit Go.Shelf

set_option maxRecDepth 100000
attribute [local go_sem] Oper.semAt_some

theorem eq_some (W : World) (a : Addr) (n c : Nat) : (binOp .eql 29 (.slice (some a) n c) (.slice none 0 0)).run Tryd.prog W = .ok (.bool false) W := by kernel_rfl
set_option maxHeartbeats 1000000 in
theorem clone_any (w : World) (g o n c : Nat) (l : List (Int × Int)) (hn : l.length = n) (hl : n ≤ 8796093022208) (hr : l = [] ∨ Reads w g o l) :
    Calls Tryd.prog 58 #[.slice (some ⟨g, o, none⟩) n c] w fun e w' => ∃ v, e = .returned v ∧ Rs w' v l ∧ Below w.heap.size w w' := by
  have he := eq_some
  have HR : Hid (l = [] ∨ ∃ g' o', some (⟨g, o, none⟩ : Addr) = some ⟨g', o', none⟩ ∧ Reads (w.alloc (.cells #[] 38)) g' o' l) := by
    by_cases h0 : l = []
    · exact .inl h0
    · have h := hr.resolve_left h0
      exact .inr ⟨g, o, rfl, h.below ((Below.refl _ w).alloc (Nat.le_refl _) _) (h.lt h0)⟩
  have HN : Hid (l.length = n) := hn
  obtain ⟨h, hh⟩ : ∃ h, w.heap.size = h := ⟨_, rfl⟩
  have HH : Hid (w.heap.size = h) := hh
  clear hr hn
  go_enter Tryd.func58, Tryd.ntmps58
  go_wp2_with (at_builtin; go_must (refine app_full rfl _ _ rfl (some ⟨h, 0, none⟩) (some ⟨g, o, none⟩) 0 n c [] l rfl rfl rfl HN.out (.inl rfl) HR.out (by omega) ?_); intro v' w3 hr3 hb3)
  go_ret
  refine ⟨_, rfl, hr3, ?_⟩
  exact ((Below.refl _ w).alloc (Nat.le_refl _) _).trans (hb3.mono (by simp))
theorem cell_other (W : World) (B : Nat) (x : Value) (p : Addr) (h : p.block ≠ B) : (W.setCell ⟨B, 0, none⟩ x).cell? p = W.cell? p := by
  have e : (W.setCell ⟨B, 0, none⟩ x).heap[p.block]? = W.heap[p.block]? := by
    show (W.heap.modify B _)[p.block]? = _
    rw [Array.getElem?_modify, if_neg (fun k => h k.symm)]
  simp only [World.cell?, e]
theorem not_box {W : World} {g o B : Nat} {t : TypeId} {a : Option Addr} {n c : Nat} {m : Int} (h : W.cell? ⟨g, o, none⟩ = some (.int .i64 m)) (hb : Boxed W B t (.slice a n c)) : g ≠ B := by
  rintro rfl
  have hb' : W.heap[g]? = some (.cells #[.slice a n c] t (0, 0)) := hb
  cases o with
  | zero => simp [World.cell?, hb'] at h
  | succ k => simp [World.cell?, hb'] at h
theorem rs_box {W : World} {B : Nat} {t : TypeId} {a : Option Addr} {n c : Nat} {v : Value} {l : List (Int × Int)} (h : Rs W v l) (hb : Boxed W B t (.slice a n c)) (x : Value) : Rs (W.setCell ⟨B, 0, none⟩ x) v l := by
  obtain ⟨A, cap, e, hc, k⟩ := h
  refine ⟨A, cap, e, hc, k.imp id ?_⟩
  rintro ⟨g, o, e2, hr⟩
  exact ⟨g, o, e2, fun j hj => ⟨(cell_other W B x _ (not_box (hr j hj).1 hb)).trans (hr j hj).1, (cell_other W B x _ (not_box (hr j hj).2 hb)).trans (hr j hj).2⟩⟩
set_option maxHeartbeats 1000000 in
theorem all_any (w : World) (hT : Tab w) (g o n c : Nat) (l : List (Int × Int)) (hn : l.length = n) (hnc : n ≤ c) (hl : n ≤ 8796093022208) (hr : l = [] ∨ Reads w g o l) (hv : validB l = true) :
    Calls Tryd.prog 41 #[.slice (some ⟨g, o, none⟩) n c] w fun e w' => ∃ v, e = .returned (.func (.func 59) #[] #[.pointer (some ⟨w.heap.size, 0, none⟩)]) ∧ Boxed w' w.heap.size 29 v ∧ Rs w' v l ∧ Below w.heap.size w w' := by
  have hrs : Rs w (.slice (some ⟨g, o, none⟩) n c) l := ⟨some ⟨g, o, none⟩, c, by rw [hn], by rw [hn]; exact hnc, hr.imp id (fun h => ⟨g, o, rfl, h⟩)⟩
  have HB1 : Below w.heap.size w (w.alloc (.cells #[.slice none 0 0] 29)) := (Below.refl _ w).alloc (Nat.le_refl _) _
  have HC : Hid (Calls Tryd.prog 19 #[.slice (some ⟨g, o, none⟩) n c] (w.alloc (.cells #[.slice none 0 0] 29)) fun e w' => e = .returned (.bool true) ∧ Grown (w.alloc (.cells #[.slice none 0 0] 29)) w') := by
    have := valid_any _ l (w.alloc (.cells #[.slice none 0 0] 29)) (hT.below HB1 hT.pos) (hrs.below HB1 (Nat.le_refl _)); rw [hv] at this; exact this
  have HL : Hid (∀ W, Below w.heap.size w W → Calls Tryd.prog 58 #[.slice (some ⟨g, o, none⟩) n c] W fun e w' => ∃ v, e = .returned v ∧ Rs w' v l ∧ Below W.heap.size W w') := fun W hW =>
    clone_any W g o n c l hn hl (by
      by_cases h0 : l = []
      · exact .inl h0
      · have k := hr.resolve_left h0
        exact .inr (k.below hW (k.lt h0)))
  clear hrs hv hr hn hnc hl
  go_enter Tryd.func41, Tryd.ntmps41
  go_wp2_with fail
  refine HC.out.mono ?_
  rintro e w1 ⟨rfl, hb1⟩
  have hbx : Boxed (w.alloc (.cells #[.slice none 0 0] 29)) w.heap.size 29 (.slice none 0 0) := Boxed.new _ _ _
  have hbx1 := boxed_below hbx hb1.below (by simp)
  have hB1 : Below w.heap.size w w1 := HB1.trans (hb1.below.mono (by simp))
  go_wp2_with fail
  refine (HL.out w1 hB1).mono ?_
  rintro e w2 ⟨v, rfl, hrs, hb2⟩
  have hbx2 := boxed_below hbx1 hb2 (Boxed.lt hbx1)
  have hc := hbx2.cell
  have hf := hbx2.frozen
  have HRS : Hid (Rs w2 v l) := hrs
  obtain ⟨A, c', rfl, -, -⟩ := hrs
  go_wp2
  go_ret
  refine ⟨_, rfl, hbx2.set _, ?_, ?_⟩
  · exact rs_box HRS.out hbx2 _
  · exact (hB1.trans (hb2.mono hB1.size)).setCell (p := ⟨w.heap.size, 0, none⟩) (Nat.le_refl _) _
end Go.Proofs
