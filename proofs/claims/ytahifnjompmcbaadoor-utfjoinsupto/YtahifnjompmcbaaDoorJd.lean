/-
  UtfJoins, walked: a row in memory of its own, with a mark behind it.
-/
import Derived.RangeFuncNested
import Derived.RangeFuncBound
import Derived.RangeFuncCalls
import Derived.RangeFuncLeaves
import Derived.Shelf.Abstract
import Derived.Shelf.RegionOpen
import Derived.WalkKit
import Derived.WalkSpells
import Derived.WalkLawsBesides
import Derived.OwnWalkIn
import Derived.TacticsInMore
import Derived.LoopNIn
import Derived.LoopIn
import Derived.BigQuiet
import Derived.RegionIn
import Derived.Deep.QuietTactic
import Derived.Lib.OthersKept
import Derived.Maps.AppendAt
import Derived.Lib.IndexBytes
import Derived.Lib.SmallJoins
import Derived.Deep.RegionWith
import Derived.ArgAppend
import Derived.Laws.CopyOwn
import Derived.Laws.MakeOwn
import Derived.Test.YtahifnjompmcbaaDoorJc
namespace Go.Proofs
open Go.RowKit Go.Shelf

set_option maxRecDepth 100000
attribute [local go_sem] Oper.semAt_some

theorem joinRes_form (o : Option (List UInt8)) : ∃ t er, JoinRes o = .tuple #[.string t, .int .i64 er] := by
  cases o with
  | none => exact ⟨_, _, rfl⟩
  | some t => exact ⟨_, _, rfl⟩
theorem make_own (n : Nat) (hn : n ≤ 1099511627776) : ∃ Z : List Value, Z.length = n + 1 ∧ ∀ W : World, (Instr.makeSlice 25 (.int .i64 ((n : Int) + 1)) (.int .i64 ((n : Int) + 1))).run Tryd.prog W = .ok (.slice (some ⟨W.heap.size, 0, none⟩) (n + 1) (n + 1)) (W.alloc (.cells Z.toArray 3)) := by
  obtain ⟨i0, hi, hz0, hz1, hz2⟩ := uinfo_parts info3
  refine ⟨(madeCells (Value.int .i64 0).cells (n + 1)).toList, by simp [size_madeCells], fun W => ?_⟩
  have h := run_make (P := Tryd.prog) W 25 3 i0 (.int .i64 0) Tryd.underlying25 hi hz0 .i64 .i64 ((n : Int) + 1) ((n : Int) + 1) (by omega) (Int.le_refl _) (by rw [hz2]; omega) (by omega)
  rw [h, show ((n : Int) + 1).toNat = n + 1 by omega, hz1, Nat.mul_one, Array.toArray_toList]
theorem size3 : (Tryd.prog.info? 3).map (·.size) = some 1 := by kernel_rfl
theorem copy_own (W : World) (g n cap : Nat) (a : Option Addr) (Z : List Value) (l : List Int) (hg : W.heap[g]? = some (.cells Z.toArray 3 (0, 0))) (hl : l.length = n) (hZ : Z.length = n + 1) (hv : Ints W (.slice a n cap) l) (B : Nat) (hB : B ≤ g) :
    ∃ w2, (Builtin.copy_ #[25, 25] 3 #[.slice (some ⟨g, 0, none⟩) (n + 1) (n + 1), .slice a n cap]).run Tryd.prog W = .ok (.int .i64 n) w2 ∧ w2.heap[g]? = some (.cells (splice Z 0 (l.map (Value.int .i64))).toArray 3 (0, 0)) ∧ Below B W w2 := by
  by_cases h0 : n = 0
  · have hl0 : l = [] := List.eq_nil_of_length_eq_zero (by omega)
    subst h0 hl0
    exact ⟨W, run_copy_none (P := Tryd.prog) W 25 25 3 3 _ _ 1 1 0 cap Tryd.underlying25 size3 (by simp), by simpa [splice] using hg, Below.refl _ _⟩
  · obtain ⟨a', c', e, hc⟩ := hv
    injection e with e1 e2 e3
    subst e1 e3
    obtain ⟨gs, os, rfl, hcell⟩ := hc.resolve_left (fun e => by rw [e] at hl; simp at hl; omega)
    have hrun := run_copy_row (P := Tryd.prog) W 25 25 3 3 g 0 (n + 1) (n + 1) ⟨gs, os, none⟩ n cap Z.toArray 3 (l.map (Value.int .i64)) Tryd.underlying25 size3 hg (by simp [hl]) (fun j u hj => by
      rw [List.getElem?_map, Option.map_eq_some_iff] at hj
      obtain ⟨x, hx, rfl⟩ := hj
      have := hcell j (List.getElem?_eq_some_iff.1 hx).1
      rw [hx] at this
      unfold Addr.add
      by_cases h : j = 0
      · subst h; simpa using this
      · simpa [h] using this) (by simp [hl, hZ]) (by simp; intro x _; rfl)
    refine ⟨W.setRow g (splice Z 0 (l.map (Value.int .i64))).toArray, by rw [hrun]; simp [hl, goInt, splice], setRow_heap W g _ _ 3 _ hg, below_setRow (Below.refl _ W) hB _⟩
set_option maxHeartbeats 8000000 in
theorem joinsLaw_any (v : Value) (l : List Int) (w : World) (hv : Ints w v l) (hl : l.length ≤ 1099511627776) (hT : Tab w) :
    Calls Tryd.prog 5 #[v] w fun e w' => e = .returned (.bool true) ∧ Below w.heap.size w w' := by
  have HV : Hid (Ints w v l) := hv
  obtain ⟨a, cap, rfl, hc⟩ := hv.form
  obtain ⟨n, hn⟩ : ∃ n, l.length = n := ⟨_, rfl⟩
  have HN : Hid (l.length = n) := hn
  rw [hn] at HV hl
  rw [hn]
  clear hn hc hv
  obtain ⟨t, er, hjr⟩ := joinRes_form (joinB l)
  have HJR : Hid (JoinRes (joinB l) = .tuple #[.string t, .int .i64 er]) := hjr
  obtain ⟨Z, hZl, hmk⟩ := make_own n hl
  have HZ : Hid (Z.length = n + 1) := hZl
  clear hjr hZl
  go_enter Tryd.func5, Tryd.ntmps5
  go_wp2_with fail
  refine (shown_any _ hT).mono ?_
  rintro e w1 ⟨rfl, hb⟩
  have HB : Hid (Below w.heap.size w w1) := hb
  clear hb hT
  replace HV : Hid (Ints w1 (.slice a n cap) l) := HV.out.below HB.out (Nat.le_refl _)
  obtain ⟨h, hh⟩ : ∃ h, w1.heap.size = h := ⟨_, rfl⟩
  have HH : Hid (w1.heap.size = h) := hh
  have hmk1 := hmk w1
  rw [hh] at hmk1
  obtain ⟨w2, hcp, hrow, hb2⟩ := copy_own (w1.alloc (.cells Z.toArray 3)) h n cap a Z l (by rw [← hh]; exact heap_alloc_new w1 _) HN.out HZ.out (HV.out.below ((Below.refl _ w1).alloc (Nat.le_refl _) _) (Nat.le_refl _)) h (Nat.le_refl _)
  have HB2 : Hid (Below h w1 w2) := ((Below.refl _ w1).alloc (Nat.le_of_eq hh.symm) _).trans hb2
  have HROW : Hid (w2.heap[h]? = some (.cells (splice Z 0 (l.map (Value.int .i64))).toArray 3 (0, 0))) := hrow
  have c0 : ∃ z, w2.cell? ⟨h, n, none⟩ = some z := by
    have hlen : n < (splice Z 0 (l.map (Value.int .i64))).length := by rw [length_splice _ _ _ (by simp [HN.out, HZ.out]), HZ.out]; omega
    exact ⟨_, by simp [World.cell?, hrow, hlen]; rfl⟩
  obtain ⟨z, c0⟩ := c0
  have f0 : w2.frozen? ⟨h, n, none⟩ = false := by simp [World.frozen?, hrow]
  clear hh hmk hrow hb2
  go_wp2_with fail
  have hlt2 : h < w2.heap.size := (Array.getElem?_eq_some_iff.1 HROW.out).1
  have c77 : (w2.setCell ⟨h, n, none⟩ (.int .i64 77)).cell? ⟨h, n, none⟩ = some (.int .i64 77) := World.cell?_setCell_same' w2 _ _ (by rw [c0]; rfl)
  have HI3 : Hid (Ints (w2.setCell ⟨h, n, none⟩ (.int .i64 77)) (.slice (some ⟨h, 0, none⟩) n (n + 1)) l) := by
    refine ⟨some ⟨h, 0, none⟩, n + 1, by rw [HN.out], .inr ⟨h, 0, rfl, fun j hj => ?_⟩⟩
    have hjn : j < n := by rw [← HN.out]; exact hj
    rw [Nat.zero_add, World.cell?_setCell_other w2 ⟨h, n, none⟩ _ (b := ⟨h, j, none⟩) (by intro e; injection e with _ e _; omega)]
    simp [World.cell?, HROW.out, splice, hj]
    rw [List.getElem?_append_left (by simpa using hj)]
    simp [hj]
  have HB3 : Hid (Below h w1 (w2.setCell ⟨h, n, none⟩ (.int .i64 77))) := HB2.out.setCell (p := ⟨h, n, none⟩) (Nat.le_refl _) _
  have hlt3 : h < (w2.setCell ⟨h, n, none⟩ (.int .i64 77)).heap.size := by simpa using hlt2
  generalize w2.setCell ⟨h, n, none⟩ (.int .i64 77) = w3 at *
  have HV3 : Hid (Ints w3 (.slice a n cap) l) := HV.out.below HB3.out (Nat.le_of_eq HH.out)
  have HW3 : Hid (Below w.heap.size w w3) := HB.out.trans (HB3.out.mono (by rw [← HH.out]; exact HB.out.size))
  have H77 : Hid (w3.cell? ⟨h, n, none⟩ = some (.int .i64 77)) := c77
  clear c77 c0 f0 hcp hmk1 HROW HB2 HB3 hlt2 HV HB
  refine (join_any _ l w3 HI3.out (by rw [HN.out]; omega)).mono ?_
  rw [HJR.out]
  rintro e w4 ⟨rfl, hb⟩
  have HI4 : Hid (Ints w4 (.slice (some ⟨h, 0, none⟩) n (n + 1)) l) := HI3.out.below hb (Nat.le_refl _)
  have HV4 : Hid (Ints w4 (.slice a n cap) l) := HV3.out.below hb (Nat.le_refl _)
  have HW4 : Hid (Below w.heap.size w w4) := HW3.out.trans (hb.mono HW3.out.size)
  have H774 : Hid (w4.cell? ⟨h, n, none⟩ = some (.int .i64 77)) := (hb.cell (p := ⟨h, n, none⟩) hlt3).trans H77.out
  have hlt4 : h < w4.heap.size := Nat.lt_of_lt_of_le hlt3 hb.size
  clear hb hlt3 HI3 HV3 HW3 H77
  go_wp2_with fail
  refine (proper_any _ l w4 HI4.out (by rw [HN.out]; omega)).mono ?_
  rintro e w5 ⟨rfl, hb⟩
  have HI5 : Hid (Ints w5 (.slice (some ⟨h, 0, none⟩) n (n + 1)) l) := HI4.out.below hb (Nat.le_refl _)
  have HV5 : Hid (Ints w5 (.slice a n cap) l) := HV4.out.below hb (Nat.le_refl _)
  have HW5 : Hid (Below w.heap.size w w5) := HW4.out.trans (hb.mono HW4.out.size)
  have H775 : Hid (w5.cell? ⟨h, n, none⟩ = some (.int .i64 77)) := (hb.cell (p := ⟨h, n, none⟩) hlt4).trans H774.out
  have hlt5 : h < w5.heap.size := Nat.lt_of_lt_of_le hlt4 hb.size
  clear hb hlt4 HI4 HV4 HW4 H774
  go_wp2_with fail
  refine (rjoin_any _ l w5 HV5.out (by rw [HN.out]; omega)).mono ?_
  rw [HJR.out]
  rintro e w6 ⟨rfl, hb⟩
  have HI6 : Hid (Ints w6 (.slice (some ⟨h, 0, none⟩) n (n + 1)) l) := HI5.out.below hb (Nat.le_refl _)
  have HV6 : Hid (Ints w6 (.slice a n cap) l) := HV5.out.below hb (Nat.le_refl _)
  have HW6 : Hid (Below w.heap.size w w6) := HW5.out.trans (hb.mono HW5.out.size)
  have H776 : Hid (w6.cell? ⟨h, n, none⟩ = some (.int .i64 77)) := (hb.cell (p := ⟨h, n, none⟩) hlt5).trans H775.out
  have hlt6 : h < w6.heap.size := Nat.lt_of_lt_of_le hlt5 hb.size
  clear hb hlt5 HI5 HV5 HW5 H775
  go_wp2_with fail
  refine (same_any _ _ l l w6 HI6.out HV6.out (by rw [HN.out]; omega)).mono ?_
  rw [show (l == l) = true by simp]
  rintro e w7 ⟨rfl, q, rfl⟩
  have HV7 : Hid (Ints (w6.drewN q) (.slice a n cap) l) := HV6.out.below (below_drew w6 q) (Nat.le_refl _)
  have HW7 : Hid (Below w.heap.size w (w6.drewN q)) := HW6.out.trans ((below_drew w6 q).mono HW6.out.size)
  have c7 := H776.out
  clear HI6 HV6 HW6 H776 hlt6
  go_wp2_with fail
  refine (rproper_any _ l _ HV7.out (by rw [HN.out]; omega)).mono ?_
  rintro e w8 ⟨rfl, hb⟩
  have HW8 : Hid (Below w.heap.size w w8) := HW7.out.trans (hb.mono HW7.out.size)
  clear hb HW7 HV7 c7
  go_wp2
  go_ret
  exact ⟨rfl, HW8.out⟩
end Go.Proofs
