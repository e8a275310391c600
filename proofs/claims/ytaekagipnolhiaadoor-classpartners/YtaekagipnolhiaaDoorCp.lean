/-
  ClassPartners walked: of any number the program's and the reference's Lower and Upper answer alike.
-/
import Derived.RangeFuncNested
import Derived.RangeFuncBound
import Derived.RangeFuncCalls
import Derived.RangeFuncLeaves
import Derived.Shelf.SlSorted.Search
import Derived.Deep.MidRow
import Derived.Maps.OwnSet
import Derived.Maps.OwnOps
import Derived.Shelf.Abstract
import Derived.Shelf.RegionOpen
import Derived.WalkKit
import Derived.WalkSpells
import Derived.WalkLawsBesides
import Derived.OwnWalkIn
import Derived.TacticsInMore
import Derived.LoopNIn
import Derived.LoopIn
import Derived.BigQuiet
import Derived.RegionIn
import Derived.Deep.QuietTactic
import Derived.Deep.RegionWith
import Derived.Lib.OthersKept
import Derived.Maps.AppendAt
import Derived.Lib.SmallJoins
import Derived.Shelf.SlSortCmp.QuietGrown
import Derived.Deep.DrawnRows
import Derived.Test.YtaekagipnolhiaaDoorCw
namespace Go.Proofs
open Go.RowKit Go.Shelf

set_option maxRecDepth 100000
attribute [local go_sem] Oper.semAt_some

set_option maxHeartbeats 4000000 in
theorem partnersLaw_any (u : Int) (w : World) (hT : Tab w) (h1 : -9223372036854775808 ≤ u) (h2 : u ≤ 9223372036854775807) : Calls Tryd.prog 5 #[.int .i64 u] w fun e w' => e = .returned (.bool true) ∧ Below w.heap.size w w' := by
  have HT : Hid (Tab w) := hT
  have H1 : Hid (-9223372036854775808 ≤ u) := h1
  have H2 : Hid (u ≤ 9223372036854775807) := h2
  clear hT h1 h2
  obtain ⟨lo, hlo⟩ : ∃ lo, lowU u = lo := ⟨_, rfl⟩
  obtain ⟨up, hup⟩ : ∃ up, upU u = up := ⟨_, rfl⟩
  go_enter Tryd.func5, Tryd.ntmps5
  go_wp2_with fail
  refine (shown_any _ HT.out).mono ?_
  rintro e w1 ⟨rfl, hb⟩
  have HB : Hid (Below w.heap.size w w1) := hb
  clear hb
  go_wp2_with fail
  refine (lower_any _ _ (HT.out.bel HB.out) H1.out H2.out).mono ?_
  rw [hlo]
  rintro e w2 ⟨rfl, hb⟩
  replace HB : Hid (Below w.heap.size w w2) := HB.out.trans (hb.below.mono HB.out.size)
  clear hb
  go_wp2_with fail
  refine (rlower_any _ _ H1.out H2.out).mono ?_
  rw [hlo]
  rintro e w3 ⟨rfl, hb⟩
  replace HB : Hid (Below w.heap.size w w3) := HB.out.trans (hb.below.mono HB.out.size)
  clear hb
  go_wp2_with fail
  refine (upper_any _ _ (HT.out.bel HB.out) H1.out H2.out).mono ?_
  rw [hup]
  rintro e w4 ⟨rfl, hb⟩
  replace HB : Hid (Below w.heap.size w w4) := HB.out.trans (hb.below.mono HB.out.size)
  clear hb
  go_wp2_with fail
  refine (rupper_any _ _ H1.out H2.out).mono ?_
  rw [hup]
  rintro e w5 ⟨rfl, hb⟩
  replace HB : Hid (Below w.heap.size w w5) := HB.out.trans (hb.below.mono HB.out.size)
  clear hb
  go_wp2
  go_ret
  exact ⟨rfl, HB.out⟩
end Go.Proofs
