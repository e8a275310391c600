/-
  The examples at the head of each statement hold: shown answers true.
-/
import Derived.RangeFuncNested
import Derived.RangeFuncBound
import Derived.RangeFuncCalls
import Derived.RangeFuncLeaves
import Derived.Shelf.Abstract
import Derived.Shelf.RegionOpen
import Derived.WalkKit
import Derived.WalkSpells
import Derived.WalkLawsBesides
import Derived.OwnWalkIn
import Derived.TacticsInMore
import Derived.LoopNIn
import Derived.LoopIn
import Derived.BigQuiet
import Derived.RegionIn
import Derived.Deep.QuietTactic
import Derived.Deep.RegionWith
import Derived.Lib.OthersKept
import Derived.Maps.AppendAt
import Derived.Lib.SmallJoins
import Derived.Test.YtmgkolelcflcbaaDoorMa
namespace Go.Proofs
open Go.RowKit Go.Shelf

set_option maxRecDepth 100000
attribute [local go_sem] Oper.semAt_some
theorem eq_nil (f : Nat) (b : Nat) (W : World) : (binOp .eql 50 (.func (.func f) #[] #[.pointer (some ⟨b, 0, none⟩)]) .nilFunc).run Tryd.prog W = .ok (.bool false) W := by kernel_rfl
theorem eq_sl (W : World) : (binOp .eql 29 (.slice none 0 0) (.slice none 0 0)).run Tryd.prog W = .ok (.bool true) W := by kernel_rfl
set_option maxHeartbeats 1000000 in
theorem clone_nil (w : World) : Calls Tryd.prog 58 #[.slice none 0 0] w fun e w' => e = .returned (.slice none 0 0) ∧ w' = w := by
  have he := eq_sl
  go_enter Tryd.func58, Tryd.ntmps58
  go_wp2
  go_ret
  exact ⟨rfl, rfl⟩
set_option maxHeartbeats 1000000 in
theorem all_nil (w : World) : Calls Tryd.prog 41 #[.slice none 0 0] w fun e w' => e = .returned (.func (.func 59) #[] #[.pointer (some ⟨w.heap.size, 0, none⟩)]) ∧ Below w.heap.size w w' := by
  have HC : Hid (∀ w, Calls Tryd.prog 19 #[.slice none 0 0] w fun e w' => e = .returned (.bool true) ∧ Grown w w') := fun w => valid_nil none 0 w
  go_enter Tryd.func41, Tryd.ntmps41
  go_wp2_with fail
  refine (HC.out _).mono ?_
  rintro e w1 ⟨rfl, hb1⟩
  have hbx : Boxed (w.alloc (.cells #[.slice none 0 0] 29)) w.heap.size 29 (.slice none 0 0) := Boxed.new _ _ _
  have hbx1 := boxed_below hbx hb1.below (by simp)
  have hc := hbx1.cell
  have hf := hbx1.frozen
  go_wp2_with fail
  refine (clone_nil _).mono ?_
  rintro e w2 ⟨rfl, rfl⟩
  go_wp2
  go_ret
  exact ⟨rfl, (((Below.refl _ w).alloc (Nat.le_refl _) _).trans (hb1.below.mono (by simp))).setCell (p := ⟨w.heap.size, 0, none⟩) (Nat.le_refl _) _⟩
set_option maxHeartbeats 1000000 in
theorem join_bad (va vb : Value) (a : List (Int × Int)) (w : World) (hT : Tab w) (ha : Rs w va a) (hv : validB a = false) : Calls Tryd.prog 32 #[va, vb] w fun e w' => e = .returned (.tuple #[.slice none 0 0, .int .i64 20]) ∧ Grown w w' := by
  have HC : Hid (Calls Tryd.prog 19 #[va] w fun e w' => e = .returned (.bool false) ∧ Grown w w') := by have := valid_any va a w hT ha; rw [hv] at this; exact this
  clear ha hv
  go_enter Tryd.func32, Tryd.ntmps32
  go_wp2_with fail
  refine HC.out.mono ?_
  rintro e w1 ⟨rfl, hb1⟩
  go_wp2
  go_ret2
  exact ⟨rfl, hb1⟩
/-! a row that was just built -/
theorem lit1 (W : World) (a b : Int) (h : Nat) (hh : W.heap.size = h) : Rs (W.alloc (.cells #[.int .i64 a, .int .i64 b] 38)) (.slice (some ⟨h, 0, none⟩) 1 1) [(a, b)] :=
  ⟨_, 1, rfl, Nat.le_refl _, .inr ⟨h, 0, rfl, fun j hj => by
    obtain rfl : j = 0 := by simp at hj; omega
    exact new_cells W _ _ _ _ hh⟩⟩
theorem lit2 (W : World) (a b c d : Int) (h : Nat) (hh : W.heap.size = h) : Rs (W.alloc (.cells #[.int .i64 a, .int .i64 b, .int .i64 c, .int .i64 d] 38)) (.slice (some ⟨h, 0, none⟩) 2 2) [(a, b), (c, d)] :=
  ⟨_, 2, rfl, Nat.le_refl _, .inr ⟨h, 0, rfl, fun j hj => by
    subst hh
    have h2 : j = 0 ∨ j = 1 := by simp at hj; omega
    rcases h2 with rfl | rfl
    · exact ⟨by simp [rg], by simp [rg]⟩
    · exact ⟨by simp [rg], by simp [rg]⟩⟩⟩
theorem ex_of {r : List (Int × Int)} (h : Canon [(55040, 57345)] r) : r = [(55040, 55295), (57344, 57345)] := by
  refine good_unique _ _ h.1 (by decide) (fun u => ?_)
  rw [h.2 u, hasU_cons, hasU_cons, hasU_cons]
  have := hasU_nil u
  simp only [this, or_false, isU]
  omega
set_option maxHeartbeats 4000000 in
theorem shown_any (w : World) (hT : Tab w) : Calls Tryd.prog 8 #[] w fun e w' => e = .returned (.bool true) ∧ Below w.heap.size w w' := by
  have hen := eq_nil
  go_enter Tryd.func8, Tryd.ntmps8
  go_wp2_with fail
  refine (all_nil _).mono ?_
  rintro e w1 ⟨rfl, hb1⟩
  go_wp2_with fail
  have hT1 := hT.below hb1 hT.pos
  refine (of_any _ [(55040, 57345)] _ (hT1.up _) (lit1 w1 _ _ _ rfl) (by simp)).mono ?_
  rintro e w2 ⟨r, hr, hres, hb2⟩
  obtain rfl := ex_of hr
  obtain ⟨v, rfl, hO⟩ : ∃ v, e = .returned (.tuple #[v, .int .i64 0]) ∧ OwnR w2 (w1.alloc (.cells #[.int .i64 55040, .int .i64 57345] 38)).heap.size v [(55040, 55295), (57344, 57345)] := by
    rcases hres with ⟨_, h⟩ | ⟨h, _⟩
    · exact h
    · simp at h
  have hB2 : Below w.heap.size w w2 := (hb1.alloc hb1.size _).trans (hb2.mono (by rw [World.size_alloc]; have := hb1.size; omega))
  obtain ⟨g, N, cap, rfl⟩ := own_form hO (by simp)
  obtain ⟨_, _, e2, _, _⟩ := OwnR.rs hO
  cases e2
  have hrd := OwnR.reads hO
  clear hb1 hb2 hr hres
  have hT2 := hT.below hB2 hT.pos
  have c0 := (hrd 0 (by decide)).1
  have c1 := (hrd 0 (by decide)).2
  have hgw : g < w2.heap.size := hrd.lt (by simp)
  have hrg : rg [(55040, 55295), (57344, 57345)] 0 = (55040, 55295) := rfl
  simp only [hrg, Nat.zero_mul, Nat.add_zero, Nat.zero_add] at c0 c1
  have HC0 : Hid (∀ W, Below w2.heap.size w2 W → W.cell? ⟨g, 0, none⟩ = some (.int .i64 55040)) := fun W hW => (hW.cell (p := ⟨g, 0, none⟩) hgw).trans c0
  have HC1 : Hid (∀ W, Below w2.heap.size w2 W → W.cell? ⟨g, 1, none⟩ = some (.int .i64 55295)) := fun W hW => (hW.cell (p := ⟨g, 1, none⟩) hgw).trans c1
  clear c0 c1 hrg hrd hO
  have hp := fun W hTW h => place_any (.slice (some ⟨w2.heap.size, 0, none⟩) 2 2) [(97, 99), (113, 113)] 113 W hTW h
  have hpv : (validB [(97, 99), (113, 113)] && decide (hasU [(97, 99), (113, 113)] 113)) = true := by decide +kernel
  have hpp : placeU [(97, 99), (113, 113)] 113 = 3 := by decide +kernel
  simp only [hpv, if_true, hpp] at hp
  have HP : Hid (∀ W, Tab W → Rs W (.slice (some ⟨w2.heap.size, 0, none⟩) 2 2) [(97, 99), (113, 113)] → Calls Tryd.prog 23 #[.slice (some ⟨w2.heap.size, 0, none⟩) 2 2, .int .i64 113] W fun e w' => e = .returned (.tuple #[.int .i64 3, .bool true]) ∧ Grown W w') := hp
  clear hp hpv hpp
  go_wp2_with fail
  refine (HP.out _ (hT2.up _) (lit2 w2 _ _ _ _ _ rfl)).mono ?_
  rintro e w3 ⟨rfl, hb3⟩
  have hG3 : Below w2.heap.size w2 w3 := ((Below.refl _ w2).alloc (Nat.le_refl _) _).trans (hb3.below.mono (by simp))
  have hT3 := hT2.below hG3 hT2.pos
  have hB3 := hB2.trans (hG3.mono hB2.size)
  clear hb3 HP
  go_wp2_with fail
  refine (join_bad _ _ [(3, 1)] _ (hT3.up _) (lit1 w3 _ _ _ rfl) (by decide +kernel)).mono ?_
  rintro e w4 ⟨rfl, hb4⟩
  have hG4 : Below w2.heap.size w2 w4 := (hG3.alloc hG3.size _).trans (hb4.below.mono (by simp; have := hG3.size; omega))
  have hT4 := hT2.below hG4 hT2.pos
  have hB4 := hB2.trans (hG4.mono hB2.size)
  have c0 := HC0.out w4 hG4
  have c1 := HC1.out w4 hG4
  clear hb4 hG3 hT3 hB3
  go_wp2_with fail
  refine (any_any w4 hT4).mono ?_
  rintro e w5 ⟨v5, rfl, hO5, hb5⟩
  have hB5 := hB4.trans (hb5.mono hB4.size)
  have hT5 := hT.below hB5 hT.pos
  have HL : Hid (Calls Tryd.prog 31 #[v5] w5 fun e w' => e = .returned (.int .i64 1112192) ∧ Grown w5 w') := by
    have := len_any v5 _ w5 hT5 (OwnR.rs hO5)
    rw [show lenU allU = 1112192 by decide +kernel] at this; exact this
  clear hO5 hb5 hT4 hB4 c0 c1 hG4
  go_wp2_with fail
  refine HL.out.mono ?_
  rintro e w6 ⟨rfl, hb6⟩
  have hB6 := hB5.trans (hb6.below.mono hB5.size)
  have hT6 := hT.below hB6 hT.pos
  clear hb6 hT5 hB5
  go_wp2_with fail
  refine (strays_any w6 hT6).mono ?_
  rintro e w7 ⟨v7, rfl, hR7, hb7⟩
  have hB7 := hB6.trans (hb7.mono hB6.size)
  have hT7 := hT.below hB7 hT.pos
  have HL7 : Hid (Calls Tryd.prog 31 #[v7] w7 fun e w' => e = .returned (.int .i64 128) ∧ Grown w7 w') := by
    have := len_any v7 _ w7 hT7 hR7
    rw [show lenU [(1114240, 1114367)] = 128 by decide +kernel] at this; exact this
  clear hR7 hb7 hT6 hB6
  go_wp2_with fail
  refine HL7.out.mono ?_
  rintro e w8 ⟨rfl, hb8⟩
  have hB8 := hB7.trans (hb8.below.mono hB7.size)
  have hT8 := hT.below hB8 hT.pos
  clear hb8 hT7 hB7
  go_wp2_with fail
  refine (valid_nil none 0 w8).mono ?_
  rintro e w9 ⟨rfl, hb9⟩
  have hB9 := hB8.trans (hb9.below.mono hB8.size)
  have hT9 := hT.below hB9 hT.pos
  rw [show validB [] = true by decide +kernel]
  clear hb9 hT8 hB8
  have HV : Hid (Calls Tryd.prog 19 #[.slice (some ⟨w9.heap.size, 0, none⟩) 1 1] (w9.alloc (.cells #[.int .i64 0, .int .i64 1114111] 38)) fun e w' => e = .returned (.bool false) ∧ Grown (w9.alloc (.cells #[.int .i64 0, .int .i64 1114111] 38)) w') := by
    have := valid_any _ [(0, 1114111)] _ (hT9.up _) (lit1 w9 _ _ _ rfl)
    rw [show validB [(0, 1114111)] = false by decide +kernel] at this; exact this
  go_wp2_with fail
  refine HV.out.mono ?_
  rintro e w10 ⟨rfl, hb10⟩
  go_wp2
  go_ret
  exact ⟨rfl, (hB9.alloc hB9.size _).trans (hb10.below.mono (by simp; have := hB9.size; omega))⟩
set_option maxHeartbeats 1000000 in
theorem numbers_any (w : World) (hT : Tab w) : Calls Tryd.prog 7 #[] w fun e w' => e = .returned (.bool true) ∧ Below w.heap.size w w' := by
  go_enter Tryd.func7, Tryd.ntmps7
  go_wp2_with fail
  refine (shown_any w hT).mono ?_
  rintro e w1 ⟨rfl, hb1⟩
  go_wp2
  go_ret
  exact ⟨rfl, hb1⟩
end Go.Proofs
