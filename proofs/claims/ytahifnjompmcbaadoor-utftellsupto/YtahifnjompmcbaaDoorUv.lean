/-
  UtfUnits answers true for every number.
-/
import Derived.RangeFuncNested
import Derived.RangeFuncBound
import Derived.RangeFuncCalls
import Derived.RangeFuncLeaves
import Derived.Shelf.Abstract
import Derived.Shelf.RegionOpen
import Derived.WalkKit
import Derived.WalkSpells
import Derived.WalkLawsBesides
import Derived.OwnWalkIn
import Derived.TacticsInMore
import Derived.LoopNIn
import Derived.LoopIn
import Derived.BigQuiet
import Derived.RegionIn
import Derived.Deep.QuietTactic
import Derived.Lib.OthersKept
import Derived.Maps.AppendAt
import Derived.Lib.IndexBytes
import Derived.Test.YtahifnjompmcbaaDoorUs
import Derived.Test.YtahifnjompmcbaaDoorUh
namespace Go.Proofs
open Go.RowKit Go.Shelf

set_option maxRecDepth 100000
attribute [local go_sem] Oper.semAt_some
theorem conv_row (w : World) (base : Nat) (v : Value) (l : List UInt8) (h : w.ownsRow base 5 1 v l.length (bc l)) : (convert 56 9 v).run Tryd.prog w = .ok (.string ⟨l.toArray⟩) w := by
  obtain ⟨hl, h | ⟨g, cap, cur, rfl, hb, hg, hn, hm, hc, ht⟩⟩ := h
  · obtain ⟨rfl, h0⟩ := h
    obtain rfl : l = [] := List.eq_nil_of_length_eq_zero h0
    rw [run_convert_bytes_string w 56 9 5 none 0 0 Tryd.underlying56 Tryd.underlying5 Tryd.underlying9]
    rfl
  · refine run_convert_bytes_back (P := Tryd.prog) w 56 9 5 ⟨g, 0, none⟩ cap l Tryd.underlying56 Tryd.underlying5 Tryd.underlying9 (fun j hj => ?_)
    have hx : (bc l)[j]? = some (.int .u8 (l[j].toNat : Int)) := by simp [bc, hj]
    have hown : w.ownsRow base 5 1 (.slice (some ⟨g, 0, none⟩) l.length cap) l.length (bc l) := ⟨hl, .inr ⟨g, cap, cur, rfl, hb, hg, hn, hm, hc, ht⟩⟩
    exact hown.cells rfl j _ hx
set_option maxHeartbeats 1000000 in
theorem rput_any (u : Int) (w : World) : Calls Tryd.prog 26 #[.int .i64 u] w fun e w' => e = .returned (.string (put u)) ∧ Below w.heap.size w w' := by
  go_enter Tryd.func26, Tryd.ntmps26
  go_wp2_with (go_at_call 41; refine (bytes_any _ _).mono ?_; rintro e w' ⟨v, rfl, hown, hb⟩; have hcv := conv_row w' _ v (put u).data.toList (by rw [← Lib.size_eq]; exact hown))
  go_ret
  exact ⟨by simp, hb⟩
set_option maxHeartbeats 2000000 in
theorem units_yes (u : Int) (w : World) (hT : Tab w) (hu : isUnit u) : Calls Tryd.prog 4 #[.int .i64 u] w fun e w' => e = .returned (.bool true) ∧ Below w.heap.size w w' := by
  obtain ⟨hz, hun⟩ := put_unit u hu
  have hwp := (wd_pos_iff u).2 hu
  have hu0 : 0 ≤ u := by unfold isUnit at hu; omega
  have hpl : (put u).size ≤ maxLen := by unfold maxLen; have : wd u ≤ 4 := by { unfold wd Lib.runeLen; repeat' split <;> omega }; omega
  have hfi : firstU (put u) = (u, wd u) := by unfold firstU; rw [hun]; simp only; rw [show ((u.toNat : Nat) : Int) = u by omega]
  have HF : Hid (∀ W : World, Calls Tryd.prog 15 #[.string (put u)] W fun e w' => e = .returned (.tuple #[.int .i64 u, .int .i64 (wd u)]) ∧ Below W.heap.size W w') := fun W => by have := first_any (put u) W hpl; rw [hfi] at this; exact this
  have HS : Hid (((put u).size : Int) = wd u) := hz
  clear hz hun hfi hu
  generalize hp : put u = s at *
  have HP : Hid (put u = s) := hp
  clear hp
  generalize hd : wd u = d at *
  have HD : Hid (wd u = d) := hd
  clear hd
  have cP : Hid (∀ W : World, Calls Tryd.prog 23 #[.int .i64 u] W fun e w' => e = .returned (.string s) ∧ Below W.heap.size W w') := fun W => by have := put_any u W; rw [HP.out] at this; exact this
  have cR : Hid (∀ W : World, Calls Tryd.prog 26 #[.int .i64 u] W fun e w' => e = .returned (.string s) ∧ Below W.heap.size W w') := fun W => by have := rput_any u W; rw [HP.out] at this; exact this
  have cW : Hid (∀ W : World, Calls Tryd.prog 24 #[.int .i64 u] W fun e w' => e = .returned (.int .i64 d) ∧ w' = W) := fun W => by have := width_any u W; rw [HD.out] at this; exact this
  have cX : Hid (∀ W : World, Calls Tryd.prog 25 #[.int .i64 u] W fun e w' => e = .returned (.int .i64 d) ∧ w' = W) := fun W => by have := rwidth_any u W; rw [HD.out] at this; exact this
  have hsd : (((s.size : Nat) : Int) != d) = false := by rw [HS.out]; simp
  have huu : (u != u) = false := by simp
  have hdd : (d != d) = false := by simp
  have hd0 : decide (0 < d) = true := by simpa using hwp
  go_enter Tryd.func4, Tryd.ntmps4
  go_wp2_with fail
  refine (shown_any _ hT).mono ?_
  rintro e w1 ⟨rfl, hb1⟩
  go_wp2_with fail
  refine (cP.out _).mono ?_
  rintro e w2 ⟨rfl, hb2⟩
  have hB2 : Below w.heap.size w w2 := hb1.trans (hb2.mono hb1.size)
  clear hb1 hb2
  go_wp2_with fail
  refine (cW.out _).mono ?_
  rintro e w3 ⟨rfl, rfl⟩
  go_wp2_with fail
  refine (cX.out _).mono ?_
  rintro e w3 ⟨rfl, rfl⟩
  go_wp2_with fail
  refine (cR.out _).mono ?_
  rintro e w4 ⟨rfl, hb4⟩
  have hB4 : Below w.heap.size w w4 := hB2.trans (hb4.mono hB2.size)
  clear hb4 hB2
  go_wp2_with fail
  refine (HF.out _).mono ?_
  rintro e w5 ⟨rfl, hb5⟩
  have hB5 : Below w.heap.size w w5 := hB4.trans (hb5.mono hB4.size)
  clear hb5 hB4
  go_wp2
  go_ret
  exact ⟨rfl, hB5⟩
set_option maxHeartbeats 2000000 in
theorem units_no (u : Int) (w : World) (hT : Tab w) (hu : ¬ isUnit u) : Calls Tryd.prog 4 #[.int .i64 u] w fun e w' => e = .returned (.bool true) ∧ Below w.heap.size w w' := by
  have hu1 : u < 1114240 ∨ 1114367 < u := by unfold isUnit at hu; omega
  have hu2 : u < 0 ∨ 1114111 < u ∨ (55296 ≤ u ∧ u ≤ 57343) := by unfold isUnit at hu; omega
  have hd := wd_no hu1 hu2
  have hp := put_no hu1 hu2
  have hfi : firstU ByteArray.empty = (0, 0) := rfl
  have cF : Hid (∀ W : World, Calls Tryd.prog 15 #[.string ⟨#[]⟩] W fun e w' => e = .returned (.tuple #[.int .i64 0, .int .i64 0]) ∧ Below W.heap.size W w') := fun W => by have := first_any ByteArray.empty W (by unfold maxLen; exact Nat.zero_le _); rw [hfi] at this; exact this
  have cP : Hid (∀ W : World, Calls Tryd.prog 23 #[.int .i64 u] W fun e w' => e = .returned (.string ⟨#[]⟩) ∧ Below W.heap.size W w') := fun W => by have := put_any u W; rw [hp] at this; exact this
  have cR : Hid (∀ W : World, Calls Tryd.prog 26 #[.int .i64 u] W fun e w' => e = .returned (.string ⟨#[]⟩) ∧ Below W.heap.size W w') := fun W => by have := rput_any u W; rw [hp] at this; exact this
  have cW : Hid (∀ W : World, Calls Tryd.prog 24 #[.int .i64 u] W fun e w' => e = .returned (.int .i64 0) ∧ w' = W) := fun W => by have := width_any u W; rw [hd] at this; exact this
  have cX : Hid (∀ W : World, Calls Tryd.prog 25 #[.int .i64 u] W fun e w' => e = .returned (.int .i64 0) ∧ w' = W) := fun W => by have := rwidth_any u W; rw [hd] at this; exact this
  clear hd hp hfi hu hu1 hu2
  go_enter Tryd.func4, Tryd.ntmps4
  go_wp2_with fail
  refine (shown_any _ hT).mono ?_
  rintro e w1 ⟨rfl, hb1⟩
  go_wp2_with fail
  refine (cP.out _).mono ?_
  rintro e w2 ⟨rfl, hb2⟩
  have hB2 : Below w.heap.size w w2 := hb1.trans (hb2.mono hb1.size)
  clear hb1 hb2
  go_wp2_with fail
  refine (cW.out _).mono ?_
  rintro e w3 ⟨rfl, rfl⟩
  go_wp2_with fail
  refine (cX.out _).mono ?_
  rintro e w3 ⟨rfl, rfl⟩
  go_wp2_with fail
  refine (cR.out _).mono ?_
  rintro e w4 ⟨rfl, hb4⟩
  have hB4 : Below w.heap.size w w4 := hB2.trans (hb4.mono hB2.size)
  clear hb4 hB2
  go_wp2_with fail
  refine (cF.out _).mono ?_
  rintro e w5 ⟨rfl, hb5⟩
  have hB5 : Below w.heap.size w w5 := hB4.trans (hb5.mono hB4.size)
  clear hb5 hB4
  go_wp2
  go_ret
  exact ⟨rfl, hB5⟩
theorem unitsLaw_any (u : Int) (w : World) (hT : Tab w) : Calls Tryd.prog 4 #[.int .i64 u] w fun e w' => e = .returned (.bool true) ∧ Below w.heap.size w w' := by
  by_cases hu : isUnit u
  · exact units_yes u w hT hu
  · exact units_no u w hT hu
end Go.Proofs
