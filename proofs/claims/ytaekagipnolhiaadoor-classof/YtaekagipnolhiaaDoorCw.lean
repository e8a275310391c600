/-
  The examples at the head of each statement hold: shown answers true.
-/
import Derived.RangeFuncNested
import Derived.RangeFuncBound
import Derived.RangeFuncCalls
import Derived.RangeFuncLeaves
import Derived.Shelf.SlSorted.Search
import Derived.Deep.MidRow
import Derived.Maps.OwnSet
import Derived.Maps.OwnOps
import Derived.Shelf.Abstract
import Derived.Shelf.RegionOpen
import Derived.WalkKit
import Derived.WalkSpells
import Derived.WalkLawsBesides
import Derived.OwnWalkIn
import Derived.TacticsInMore
import Derived.LoopNIn
import Derived.LoopIn
import Derived.BigQuiet
import Derived.RegionIn
import Derived.Deep.QuietTactic
import Derived.Deep.RegionWith
import Derived.Lib.OthersKept
import Derived.Maps.AppendAt
import Derived.Lib.SmallJoins
import Derived.Shelf.SlSortCmp.QuietGrown
import Derived.Deep.DrawnRows
import Derived.Test.YtaekagipnolhiaaDoorCe
import Derived.Test.YtaekagipnolhiaaDoorCn
import Derived.Test.YtaekagipnolhiaaDoorCq
namespace Go.Proofs
open Go.RowKit Go.Shelf

set_option maxRecDepth 100000
attribute [local go_sem] Oper.semAt_some

theorem Tab.bel {w w' : World} (h : Tab w) (hb : Below w.heap.size w w') : Tab w' := h.below hb h.pos
theorem lit1 (W : World) (a b : Int) (h : Nat) (hh : W.heap.size = h) : Rs (W.alloc (.cells #[.int .i64 a, .int .i64 b] 31)) (.slice (some ⟨h, 0, none⟩) 1 1) [(a, b)] :=
  ⟨_, 1, rfl, Nat.le_refl _, .inr ⟨h, 0, rfl, fun j hj => by
    obtain rfl : j = 0 := by simp at hj; omega
    subst hh
    exact ⟨by simp [rg], by simp [rg]⟩⟩⟩
set_option maxHeartbeats 4000000 in
theorem shown_any (w : World) (hT : Tab w) : Calls Tryd.prog 7 #[] w fun e w' => e = .returned (.bool true) ∧ Below w.heap.size w w' := by
  have HT : Hid (Tab w) := hT
  clear hT
  go_enter Tryd.func7, Tryd.ntmps7
  go_wp2_with fail
  refine (of_some _ 7 _ (by unfold maxLen; decide) (by decide +kernel)).mono ?_
  rintro e w1 ⟨v, rfl, hO, hb1⟩
  have HO : Hid (Rs w1 v [(48, 57)]) := OwnR.rs hO
  have HB : Hid (Below w.heap.size w w1) := hb1
  clear hO hb1
  go_wp2_with fail
  refine (of_none _ _ (by unfold maxLen; decide) (by decide +kernel)).mono ?_
  rintro e w2 ⟨rfl, hb2⟩
  replace HO : Hid (Rs w2 v [(48, 57)]) := HO.out.below hb2 (Nat.le_refl _)
  replace HB : Hid (Below w.heap.size w w2) := HB.out.trans (hb2.mono HB.out.size)
  clear hb2
  go_wp2_with fail
  refine (names_any _).mono ?_
  rintro e w3 ⟨v3, rfl, hO3, hb3⟩
  replace HO : Hid (Rs w3 v [(48, 57)]) := HO.out.below hb3 (Nat.le_refl _)
  replace HB : Hid (Below w.heap.size w w3) := HB.out.trans (hb3.mono HB.out.size)
  obtain ⟨g, cap, rfl⟩ := Joins.ownsRow_form hO3 (by decide)
  rw [nms_len]
  clear hb3 hO3
  go_wp2_with fail
  refine (same_any _ _ [(48, 57)] _ (by decide) (HO.out.below (((Below.refl _ w3).alloc (Nat.le_refl _) _)) (Nat.le_refl _)) (lit1 w3 48 57 _ rfl)).mono ?_
  rintro e w4 ⟨rfl, hb4⟩
  replace HB : Hid (Below w.heap.size w w4) := (HB.out.alloc HB.out.size _).trans (hb4.below.mono (by simp; have := HB.out.size; omega))
  clear hb4 HO
  go_wp2_with fail
  refine (lower_any _ _ (HT.out.bel HB.out) (by decide) (by decide)).mono ?_
  rw [show lowU 65 = 97 by decide]
  rintro e w5 ⟨rfl, hb⟩
  replace HB : Hid (Below w.heap.size w w5) := HB.out.trans (hb.below.mono HB.out.size)
  clear hb
  go_wp2_with fail
  refine (lower_any _ _ (HT.out.bel HB.out) (by decide) (by decide)).mono ?_
  rw [show lowU 215 = 215 by decide]
  rintro e w6 ⟨rfl, hb⟩
  replace HB : Hid (Below w.heap.size w w6) := HB.out.trans (hb.below.mono HB.out.size)
  clear hb
  go_wp2_with fail
  refine (upper_any _ _ (HT.out.bel HB.out) (by decide) (by decide)).mono ?_
  rw [show upU 962 = 962 by decide]
  rintro e w7 ⟨rfl, hb⟩
  replace HB : Hid (Below w.heap.size w w7) := HB.out.trans (hb.below.mono HB.out.size)
  clear hb
  go_wp2_with fail
  refine (upper_any _ _ (HT.out.bel HB.out) (by decide) (by decide)).mono ?_
  rw [show upU 1103 = 1071 by decide]
  rintro e w8 ⟨rfl, hb⟩
  replace HB : Hid (Below w.heap.size w w8) := HB.out.trans (hb.below.mono HB.out.size)
  clear hb
  go_wp2_with fail
  refine (lower_any _ _ (HT.out.bel HB.out) (by decide) (by decide)).mono ?_
  rw [show lowU (-5) = -5 by decide]
  rintro e w9 ⟨rfl, hb⟩
  replace HB : Hid (Below w.heap.size w w9) := HB.out.trans (hb.below.mono HB.out.size)
  clear hb
  go_wp2
  go_ret
  exact ⟨rfl, HB.out⟩
end Go.Proofs
