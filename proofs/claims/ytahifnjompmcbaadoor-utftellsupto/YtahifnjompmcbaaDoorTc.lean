/-
  The reference's First and Last, walked.
-/
import Derived.RangeFuncNested
import Derived.RangeFuncBound
import Derived.RangeFuncCalls
import Derived.RangeFuncLeaves
import Derived.Shelf.Abstract
import Derived.Shelf.RegionOpen
import Derived.WalkKit
import Derived.WalkSpells
import Derived.WalkLawsBesides
import Derived.OwnWalkIn
import Derived.TacticsInMore
import Derived.LoopNIn
import Derived.LoopIn
import Derived.BigQuiet
import Derived.RegionIn
import Derived.Deep.QuietTactic
import Derived.Lib.OthersKept
import Derived.Maps.AppendAt
import Derived.Lib.IndexBytes
import Derived.Lib.SmallJoins
import Derived.Deep.RegionWith
import Derived.ArgAppend
import Derived.Laws.CopyOwn
import Derived.Laws.MakeOwn
import Derived.Test.YtahifnjompmcbaaDoorJc
import Derived.Test.YtahifnjompmcbaaDoorTa
namespace Go.Proofs
open Go.RowKit Go.Shelf

set_option maxRecDepth 100000
attribute [local go_sem] Oper.semAt_some

theorem ints_get {l : List (Nat × Nat)} {j : Nat} {x : Nat × Nat} (h : l[j]? = some x) : (ints l)[j]?.getD 0 = (x.2 : Int) := by simp [ints, h]
set_option maxHeartbeats 4000000 in
theorem rfirst_any (s : ByteArray) (w : World) (hs : s.size ≤ 4398046511104) : Calls Tryd.prog 16 #[.string s] w fun e w' => e = .returned (.tuple #[.int .i64 (firstU s).1, .int .i64 (firstU s).2]) ∧ Below w.heap.size w w' := by
  cases hU : units s with
  | nil =>
    have hF : firstU s = (0, 0) := by unfold firstU; rw [hU]
    have hC := rcut_any s w hs
    rw [hF]
    have HC : Hid (Calls Tryd.prog 22 #[.string s] w fun e w' => ∃ v, e = .returned v ∧ Ints w' v [] ∧ Below w.heap.size w w') := by rw [hU] at hC; exact hC
    clear hC hF hU
    go_enter Tryd.func16, Tryd.ntmps16
    go_wp2_with fail
    refine HC.out.mono ?_
    rintro e w1 ⟨v, rfl, hI, hb⟩
    obtain ⟨A, cap, rfl, -⟩ := hI.form
    have HB : Hid (Below w.heap.size w w1) := hb
    clear hb hI
    go_wp2
    go_ret2
    exact ⟨rfl, HB.out⟩
  | cons x l =>
    have hF : firstU s = ((x.2 : Int), wd x.2) := by unfold firstU; rw [hU]
    have hul := units_len s
    rw [hU] at hul
    have hC := rcut_any s w hs
    rw [hF]
    have HC : Hid (Calls Tryd.prog 22 #[.string s] w fun e w' => ∃ v, e = .returned v ∧ Ints w' v (ints (x :: l)) ∧ Below w.heap.size w w') := by rw [hU] at hC; exact hC
    clear hC hF hU
    obtain ⟨d, hd⟩ : ∃ d, wd (x.2 : Int) = d := ⟨_, rfl⟩
    have cW : Hid (∀ W : World, Calls Tryd.prog 25 #[.int .i64 (x.2 : Int)] W fun e w' => e = .returned (.int .i64 d) ∧ w' = W) := fun W => by have := rwidth_any x.2 W; rw [hd] at this; exact this
    rw [hd]
    go_enter Tryd.func16, Tryd.ntmps16
    go_wp2_with fail
    refine HC.out.mono ?_
    rintro e w1 ⟨v, rfl, hI, hb⟩
    obtain ⟨A, cap, rfl, hcell⟩ := hI.form
    have HB : Hid (Below w.heap.size w w1) := hb
    obtain ⟨g, o, rfl, hc⟩ := hcell 0 (by rw [ints_length]; simp)
    rw [ints_get (x := x) rfl, Nat.add_zero] at hc
    obtain ⟨n, hn⟩ : ∃ n, (ints (x :: l)).length = n := ⟨_, rfl⟩
    have hn0 : 0 < n := by rw [← hn, ints_length]; simp
    have hnn : n ≤ 4398046511104 := by rw [← hn, ints_length]; omega
    rw [hn]
    have hni : (0 : Int) < (n : Int) := by omega
    have hne : ((n : Int) == 0) = false := by rw [beq_eq_false_iff_ne]; omega
    have hgl : g < w1.heap.size := by
      obtain ⟨ob, ho, _⟩ := cells_of_cell hc
      exact (Array.getElem?_eq_some_iff.1 ho).1
    have qc : ∀ p : BelowOf w1, p.world.cell? ⟨g, o, none⟩ = some (.int .i64 (x.2 : Int)) := fun p => (p.below.cell (p := ⟨g, o, none⟩) hgl).trans hc
    clear hb hI hcell hn hd HC hc
    go_wp2_with fail
    refine wp_region_quiet_below mixed (by kernel_rfl) ?_
    repeat (go_big_quiet_step ((go_at_call 25; exact below_same (cW.out _))))
    refine wpQuiet_nil ?_
    intro W2 hw'
    have hb2 : Below w1.heap.size w1 W2 := by obtain ⟨⟨W', h⟩, e⟩ := hw'; rw [e]; exact h
    clear hw'
    go_wp2
    go_ret2
    exact ⟨rfl, HB.out.trans (hb2.mono HB.out.size)⟩
set_option maxHeartbeats 4000000 in
theorem rlast_any (s : ByteArray) (w : World) (hs : s.size ≤ 4398046511104) : Calls Tryd.prog 18 #[.string s] w fun e w' => e = .returned (.tuple #[.int .i64 (lastU s).1, .int .i64 (lastU s).2]) ∧ Below w.heap.size w w' := by
  rw [last_eq s]
  cases hU : (units s).getLast? with
  | none =>
    have hU' : units s = [] := by simpa using hU
    have hC := rcut_any s w hs
    have HC : Hid (Calls Tryd.prog 22 #[.string s] w fun e w' => ∃ v, e = .returned v ∧ Ints w' v [] ∧ Below w.heap.size w w') := by rw [hU'] at hC; exact hC
    clear hC hU hU'
    go_enter Tryd.func18, Tryd.ntmps18
    go_wp2_with fail
    refine HC.out.mono ?_
    rintro e w1 ⟨v, rfl, hI, hb⟩
    obtain ⟨A, cap, rfl, -⟩ := hI.form
    have HB : Hid (Below w.heap.size w w1) := hb
    clear hb hI
    go_wp2
    go_ret2
    exact ⟨rfl, HB.out⟩
  | some x =>
    have hul := units_len s
    have hC := rcut_any s w hs
    have HC : Hid (Calls Tryd.prog 22 #[.string s] w fun e w' => ∃ v, e = .returned v ∧ Ints w' v (ints (units s)) ∧ Below w.heap.size w w') := hC
    obtain ⟨j, hj⟩ : ∃ j, (units s).length = j + 1 := by
      have : units s ≠ [] := by intro e; rw [e] at hU; simp at hU
      exact ⟨(units s).length - 1, by have := List.length_pos_iff.2 this; omega⟩
    have hx : (units s)[j]? = some x := by rw [List.getLast?_eq_getElem?, hj] at hU; exact hU
    clear hC hU
    obtain ⟨d, hd⟩ : ∃ d, wd (x.2 : Int) = d := ⟨_, rfl⟩
    have cW : Hid (∀ W : World, Calls Tryd.prog 25 #[.int .i64 (x.2 : Int)] W fun e w' => e = .returned (.int .i64 d) ∧ w' = W) := fun W => by have := rwidth_any x.2 W; rw [hd] at this; exact this
    simp only [hd]
    go_enter Tryd.func18, Tryd.ntmps18
    go_wp2_with fail
    refine HC.out.mono ?_
    rintro e w1 ⟨v, rfl, hI, hb⟩
    obtain ⟨A, cap, rfl, hcell⟩ := hI.form
    have HB : Hid (Below w.heap.size w w1) := hb
    obtain ⟨g, o, rfl, hc⟩ := hcell j (by rw [ints_length]; omega)
    rw [ints_get hx] at hc
    obtain ⟨n, hn⟩ : ∃ n, (ints (units s)).length = n := ⟨_, rfl⟩
    have hnj : n = j + 1 := by rw [← hn, ints_length, hj]
    have hnn : n ≤ 4398046511104 := by rw [← hn, ints_length]; omega
    rw [hn]
    have hni : (0 : Int) < (n : Int) := by omega
    have hne : ((n : Int) == 0) = false := by rw [beq_eq_false_iff_ne]; omega
    have hjn : (n : Int) - 1 = (j : Int) := by omega
    have hjl : (j : Int) < (n : Int) := by omega
    have hgl : g < w1.heap.size := by
      obtain ⟨ob, ho, _⟩ := cells_of_cell hc
      exact (Array.getElem?_eq_some_iff.1 ho).1
    have qc : ∀ p : BelowOf w1, p.world.cell? ⟨g, o + j, none⟩ = some (.int .i64 (x.2 : Int)) := fun p => (p.below.cell (p := ⟨g, o + j, none⟩) hgl).trans hc
    clear hb hI hcell hn hd HC hc hnj hx hj
    go_wp2_with fail
    refine wp_region_quiet_below mixed (by kernel_rfl) ?_
    repeat (go_big_quiet_step ((go_at_call 25; exact below_same (cW.out _))))
    refine wpQuiet_nil ?_
    intro W2 hw'
    have hb2 : Below w1.heap.size w1 W2 := by obtain ⟨⟨W', h⟩, e⟩ := hw'; rw [e]; exact h
    clear hw'
    go_wp2
    go_ret2
    exact ⟨rfl, HB.out.trans (hb2.mono HB.out.size)⟩
end Go.Proofs
