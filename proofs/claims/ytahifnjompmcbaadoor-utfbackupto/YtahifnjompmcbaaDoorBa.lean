/-
  UtfBack answers true for every text and every row of numbers of at most 2 to the 40 each.
-/
import Derived.RangeFuncNested
import Derived.RangeFuncBound
import Derived.RangeFuncCalls
import Derived.RangeFuncLeaves
import Derived.Shelf.Abstract
import Derived.Shelf.RegionOpen
import Derived.WalkKit
import Derived.WalkSpells
import Derived.WalkLawsBesides
import Derived.OwnWalkIn
import Derived.TacticsInMore
import Derived.LoopNIn
import Derived.LoopIn
import Derived.BigQuiet
import Derived.RegionIn
import Derived.Deep.QuietTactic
import Derived.Lib.OthersKept
import Derived.Maps.AppendAt
import Derived.Lib.SmallJoins
import Derived.Lib.IndexBytes
import Derived.Test.YtahifnjompmcbaaDoorMe
import Derived.Test.YtahifnjompmcbaaDoorUs
import Derived.Lib.AppendStr
import Derived.Shelf.Strings.Builder1
import Derived.Test.YtahifnjompmcbaaDoorUh
namespace Go.Proofs
open Go.RowKit Go.Shelf

set_option maxRecDepth 100000
attribute [local go_sem] Oper.semAt_some
/-! UtfBack -/
theorem mk_list (s : ByteArray) : (⟨s.data.toList.toArray⟩ : ByteArray) = s := by cases s; simp
set_option maxHeartbeats 2000000 in
theorem back_law (s : ByteArray) (v : Value) (l : List Int) (w : World) (hs : s.size ≤ 1099511627776) (hv : Ints w v l) (hl : l.length ≤ 1099511627776) (hT : Tab w) :
    Calls Tryd.prog 7 #[.string s, v] w fun e w' => e = .returned (.bool true) ∧ Below w.heap.size w w' := by
  have hul : (ints (units s)).length ≤ 1099511627776 := by
    rw [ints_length]
    have : (units s).length ≤ s.size := units_len_N s s.size 0
    omega
  have HV : Hid (Ints w v l) := hv
  clear hv
  go_enter Tryd.func7, Tryd.ntmps7
  go_wp2_with fail
  refine (shown_any _ hT).mono ?_
  rintro e w1 ⟨rfl, hB1⟩
  go_wp2_with fail
  refine (cut_ints s w1 (by omega)).mono ?_
  rintro e w2 ⟨c, rfl, ic, hb2⟩
  have hB2 : Below w.heap.size w w2 := hB1.trans (hb2.mono hB1.size)
  clear hb2 hB1
  have cJ : Hid (Calls Tryd.prog 27 #[c] w2 fun e w' => e = .returned (.tuple #[.string s, .int .i64 0]) ∧ Below w2.heap.size w2 w') := by
    have := join_any c _ w2 ic (by omega)
    rw [join_cut] at this
    unfold JoinRes at this
    simp only at this
    rw [mk_list] at this
    exact this
  have IC : Hid (Ints w2 c (ints (units s))) := ic
  clear ic
  go_wp2_with fail
  refine cJ.out.mono ?_
  rintro e w3 ⟨rfl, hb3⟩
  have cP : Hid (Calls Tryd.prog 28 #[c] w3 fun e w' => e = .returned (.bool true) ∧ Below w3.heap.size w3 w') := by
    have := proper_any c _ w3 (IC.out.below hb3 (Nat.le_refl _)) hul
    rw [proper_cut] at this
    exact this
  have hB3 : Below w.heap.size w w3 := hB2.trans (hb3.mono hB2.size)
  clear hb3 hB2 cJ IC
  go_wp2_with fail
  refine cP.out.mono ?_
  rintro e w4 ⟨rfl, hb4⟩
  have hB4 : Below w.heap.size w w4 := hB3.trans (hb4.mono hB3.size)
  clear hb4 hB3 cP
  have iv4 := HV.out.below hB4 (Nat.le_refl _)
  have cL := join_any v l w4 iv4 (by omega)
  cases hJ : joinB l with
  | none =>
    rw [hJ] at cL
    have CL : Hid (Calls Tryd.prog 27 #[v] w4 fun e w' => e = .returned (.tuple #[.string ⟨#[]⟩, .int .i64 11]) ∧ Below w4.heap.size w4 w') := cL
    have hpn : properB l = false := by unfold properB; rw [hJ]
    have HPN : Hid (properB l = false) := hpn
    clear cL hJ hpn iv4
    go_wp2_with fail
    refine CL.out.mono ?_
    rintro e w5 ⟨rfl, hb5⟩
    have hB5 : Below w.heap.size w w5 := hB4.trans (hb5.mono hB4.size)
    clear hb5 hB4 CL
    have cQ : Hid (Calls Tryd.prog 28 #[v] w5 fun e w' => e = .returned (.bool false) ∧ Below w5.heap.size w5 w') := by
      have := proper_any v l w5 (HV.out.below hB5 (Nat.le_refl _)) hl
      rw [HPN.out] at this
      exact this
    go_wp2_with fail
    refine cQ.out.mono ?_
    rintro e w6 ⟨rfl, hb6⟩
    go_wp2
    go_ret
    exact ⟨rfl, hB5.trans (hb6.mono hB5.size)⟩
  | some t =>
    rw [hJ] at cL
    have htl := joinB_len l t hJ
    have CL : Hid (Calls Tryd.prog 27 #[v] w4 fun e w' => e = .returned (.tuple #[.string ⟨t.toArray⟩, .int .i64 0]) ∧ Below w4.heap.size w4 w') := cL
    obtain ⟨r, hr⟩ : ∃ r, (ints (units ⟨t.toArray⟩) == l) = r := ⟨_, rfl⟩
    have HPR : Hid (properB l = r) := by show properB l = r; unfold properB; rw [hJ]; exact hr
    have HR : Hid ((ints (units ⟨t.toArray⟩) == l) = r) := hr
    have hsz : (⟨t.toArray⟩ : ByteArray).size ≤ 4398046511104 := by rw [size_lit]; omega
    have hul2 : (ints (units ⟨t.toArray⟩)).length ≤ 1152921504606846976 := by
      rw [ints_length]
      have : (units ⟨t.toArray⟩).length ≤ (⟨t.toArray⟩ : ByteArray).size := units_len_N _ _ 0
      omega
    clear cL hJ hr iv4 htl
    generalize (⟨t.toArray⟩ : ByteArray) = j at *
    go_wp2_with fail
    refine CL.out.mono ?_
    rintro e w5 ⟨rfl, hb5⟩
    have hB5 : Below w.heap.size w w5 := hB4.trans (hb5.mono hB4.size)
    clear hb5 hB4 CL
    go_wp2_with fail
    refine (cut_ints j w5 hsz).mono ?_
    rintro e w6 ⟨c6, rfl, i6, hb6⟩
    have hB6 : Below w.heap.size w w6 := hB5.trans (hb6.mono hB5.size)
    clear hb6 hB5
    have cS : Hid (Calls Tryd.prog 13 #[c6, v] w6 fun e w' => e = .returned (.bool r) ∧ ∃ q, w' = w6.drewN q) := by
      have := same_any c6 v _ _ w6 i6 (HV.out.below hB6 (Nat.le_refl _)) hul2
      rw [HR.out] at this
      exact this
    clear i6
    go_wp2_with fail
    refine cS.out.mono ?_
    rintro e w7 ⟨rfl, q, rfl⟩
    have hB7 : Below w.heap.size w (w6.drewN q) := below_drewN hB6 q
    obtain ⟨w7, hw7⟩ : ∃ w7, w6.drewN q = w7 := ⟨_, rfl⟩
    rw [hw7] at hB7 ⊢
    clear hw7 cS hB6
    have cQ : Hid (Calls Tryd.prog 28 #[v] w7 fun e w' => e = .returned (.bool r) ∧ Below w7.heap.size w7 w') := by
      have := proper_any v l w7 (HV.out.below hB7 (Nat.le_refl _)) hl
      rw [HPR.out] at this
      exact this
    go_wp2_with fail
    refine cQ.out.mono ?_
    rintro e w8 ⟨rfl, hb8⟩
    have hB8 : Below w.heap.size w w8 := hB7.trans (hb8.mono hB7.size)
    clear hb8 hB7 cQ HPR HR
    cases r <;> (go_wp2; go_ret; exact ⟨rfl, hB8⟩)
end Go.Proofs
