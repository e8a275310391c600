/-
  Escapes.
-/
import Derived.Shelf.Abstract
import Derived.Shelf.RegionOpen
import Derived.WalkKit
import Derived.WalkSpells
import Derived.WalkLawsBesides
import Derived.BigQuiet
import Derived.Deep.QuietTactic
import Derived.Deep.LoopGhost
import Derived.Lib.OthersKept
import Derived.ScopeJumps
import Derived.WalkMore
import Derived.Maps.AppendAt
import Derived.Lib.SmallJoins
import Derived.Test.YtknaoahokopplaaGreatDoorBac
namespace Go.Proofs
open Go.RowKit Go.Shelf

set_option maxRecDepth 100000
attribute [local go_sem] Oper.semAt_some


def BTells (s : ByteArray) (most : Nat) (m n e0 : Int) : Prop := ∀ w : World, Calls Tryz.prog 157 #[.string s, .int .i64 most] w fun e w' => e = .returned (.tuple #[.int .i64 m, .int .i64 n, .int .i64 e0]) ∧ Below w.heap.size w w'
set_option maxHeartbeats 1000000 in
theorem eRune_err (s : ByteArray) (m n e0 : Int) (hv : BTells s 6 m n e0) (he : e0 ≠ 0) : Tells 132 #[.string s] 0 0 0 0 ⟨#[]⟩ 0 e0 := by
  intro w
  have HV : Hid (BTells s 6 m n e0) := hv
  clear hv
  have hen : (e0 != 0) = true := by simpa using he
  have hee : (e0 == 0) = false := by simpa using he
  go_enter Tryz.func132, Tryz.ntmps132
  go_wp2_with fail
  refine (HV.out _).mono ?_
  rintro e w1 ⟨rfl, hb1⟩
  have HT1 : TB w1 w.heap.size 0 0 0 0 ⟨#[]⟩ 0 := (TB.new w 0 0 0 0 ⟨#[]⟩ 0).below hb1 (by simp)
  have HB1 : Below w.heap.size w w1 := ((Below.refl _ w).alloc (Nat.le_refl _) _).trans (hb1.mono (by simp))
  clear hb1
  obtain ⟨c0, c1, c2, c3, c4, c5⟩ := HT1.cells
  obtain ⟨f0, f1, f2, f3, f4, f5⟩ := HT1.frozen
  go_wp2
  exact ret_tk rfl rfl rfl (HT1.set 0 0 0 0 ⟨#[]⟩ 0) ⟨rfl, below_set6 HB1 (Nat.le_refl _) _ _ _ _ _ _⟩
set_option maxHeartbeats 1000000 in
theorem eRune_high (s : ByteArray) (m n : Int) (hv : BTells s 6 m n 0) (hm : 1114111 < m) : Tells 132 #[.string s] 0 0 0 0 ⟨#[]⟩ 0 41 := by
  intro w
  have HV : Hid (BTells s 6 m n 0) := hv
  clear hv
  have hd : decide ((1114111 : Int) < m) = true := by simpa using hm
  go_enter Tryz.func132, Tryz.ntmps132
  go_wp2_with fail
  refine (HV.out _).mono ?_
  rintro e w1 ⟨rfl, hb1⟩
  have HT1 : TB w1 w.heap.size 0 0 0 0 ⟨#[]⟩ 0 := (TB.new w 0 0 0 0 ⟨#[]⟩ 0).below hb1 (by simp)
  have HB1 : Below w.heap.size w w1 := ((Below.refl _ w).alloc (Nat.le_refl _) _).trans (hb1.mono (by simp))
  clear hb1
  obtain ⟨c0, c1, c2, c3, c4, c5⟩ := HT1.cells
  obtain ⟨f0, f1, f2, f3, f4, f5⟩ := HT1.frozen
  go_wp2
  exact ret_tk rfl rfl rfl (HT1.set 0 0 0 0 ⟨#[]⟩ 0) ⟨rfl, below_set6 HB1 (Nat.le_refl _) _ _ _ _ _ _⟩
set_option maxHeartbeats 1000000 in
theorem eRune_no (s : ByteArray) (m n : Int) (hv : BTells s 6 m n 0) (hm : m ≤ 1114111) (hwd : wd m = 0) : Tells 132 #[.string s] 0 0 0 0 ⟨#[]⟩ 0 41 := by
  intro w
  have HV : Hid (BTells s 6 m n 0) := hv
  clear hv
  have hd : decide ((1114111 : Int) < m) = false := by simp; omega
  go_enter Tryz.func132, Tryz.ntmps132
  go_wp2_with fail
  refine (HV.out _).mono ?_
  rintro e w1 ⟨rfl, hb1⟩
  have HT1 : TB w1 w.heap.size 0 0 0 0 ⟨#[]⟩ 0 := (TB.new w 0 0 0 0 ⟨#[]⟩ 0).below hb1 (by simp)
  have HB1 : Below w.heap.size w w1 := ((Below.refl _ w).alloc (Nat.le_refl _) _).trans (hb1.mono (by simp))
  clear hb1
  obtain ⟨c0, c1, c2, c3, c4, c5⟩ := HT1.cells
  obtain ⟨f0, f1, f2, f3, f4, f5⟩ := HT1.frozen
  go_wp2_with (go_at_call 48; refine (width_any _ _).mono ?_; rintro e w' ⟨rfl, rfl⟩; rw [hwd])
  exact ret_tk rfl rfl rfl (HT1.set 0 0 0 0 ⟨#[]⟩ 0) ⟨rfl, below_set6 HB1 (Nat.le_refl _) _ _ _ _ _ _⟩
set_option maxHeartbeats 1000000 in
theorem eRune_ok (s : ByteArray) (m n d : Int) (hv : BTells s 6 m n 0) (hm : m ≤ 1114111) (hwd : wd m = d) (h0 : d ≠ 0) : Tells 132 #[.string s] 1 0 n m ⟨#[]⟩ 0 0 := by
  intro w
  have HV : Hid (BTells s 6 m n 0) := hv
  clear hv
  have hd : decide ((1114111 : Int) < m) = false := by simp; omega
  have hd0 : (d == 0) = false := by simpa using h0
  go_enter Tryz.func132, Tryz.ntmps132
  go_wp2_with fail
  refine (HV.out _).mono ?_
  rintro e w1 ⟨rfl, hb1⟩
  have HT1 : TB w1 w.heap.size 0 0 0 0 ⟨#[]⟩ 0 := (TB.new w 0 0 0 0 ⟨#[]⟩ 0).below hb1 (by simp)
  have HB1 : Below w.heap.size w w1 := ((Below.refl _ w).alloc (Nat.le_refl _) _).trans (hb1.mono (by simp))
  clear hb1
  obtain ⟨c0, c1, c2, c3, c4, c5⟩ := HT1.cells
  obtain ⟨f0, f1, f2, f3, f4, f5⟩ := HT1.frozen
  go_wp2_with (go_at_call 48; refine (width_any _ _).mono ?_; rintro e w' ⟨rfl, rfl⟩; rw [hwd])
  refine (unit_any _ _ _).mono ?_
  rintro e w2 ⟨rfl, hb2⟩
  replace HT1 := HT1.below hb2 HT1.lt
  replace HB1 := HB1.trans (hb2.mono HB1.size)
  clear hb2
  obtain ⟨c0, c1, c2, c3, c4, c5⟩ := HT1.cells
  obtain ⟨f0, f1, f2, f3, f4, f5⟩ := HT1.frozen
  go_wp2
  exact ret_tk rfl rfl rfl (HT1.set 1 0 n m ⟨#[]⟩ 0) ⟨rfl, below_set6 HB1 (Nat.le_refl _) _ _ _ _ _ _⟩
set_option maxHeartbeats 1000000 in
theorem eStray_err (s : ByteArray) (m n e0 : Int) (hv : BTells s 2 m n e0) (he : e0 ≠ 0) : Tells 133 #[.string s] 0 0 0 0 ⟨#[]⟩ 0 e0 := by
  intro w
  have HV : Hid (BTells s 2 m n e0) := hv
  clear hv
  have hen : (e0 != 0) = true := by simpa using he
  have hee : (e0 == 0) = false := by simpa using he
  go_enter Tryz.func133, Tryz.ntmps133
  go_wp2_with fail
  refine (HV.out _).mono ?_
  rintro e w1 ⟨rfl, hb1⟩
  have HT1 : TB w1 w.heap.size 0 0 0 0 ⟨#[]⟩ 0 := (TB.new w 0 0 0 0 ⟨#[]⟩ 0).below hb1 (by simp)
  have HB1 : Below w.heap.size w w1 := ((Below.refl _ w).alloc (Nat.le_refl _) _).trans (hb1.mono (by simp))
  clear hb1
  obtain ⟨c0, c1, c2, c3, c4, c5⟩ := HT1.cells
  obtain ⟨f0, f1, f2, f3, f4, f5⟩ := HT1.frozen
  go_wp2
  exact ret_tk rfl rfl rfl (HT1.set 0 0 0 0 ⟨#[]⟩ 0) ⟨rfl, below_set6 HB1 (Nat.le_refl _) _ _ _ _ _ _⟩
set_option maxHeartbeats 1000000 in
theorem eStray_low (s : ByteArray) (m n : Int) (hv : BTells s 2 m n 0) (hm : m < 128) : Tells 133 #[.string s] 0 0 0 0 ⟨#[]⟩ 0 41 := by
  intro w
  have HV : Hid (BTells s 2 m n 0) := hv
  clear hv
  have hd : decide (m < (128 : Int)) = true := by simpa using hm
  go_enter Tryz.func133, Tryz.ntmps133
  go_wp2_with fail
  refine (HV.out _).mono ?_
  rintro e w1 ⟨rfl, hb1⟩
  have HT1 : TB w1 w.heap.size 0 0 0 0 ⟨#[]⟩ 0 := (TB.new w 0 0 0 0 ⟨#[]⟩ 0).below hb1 (by simp)
  have HB1 : Below w.heap.size w w1 := ((Below.refl _ w).alloc (Nat.le_refl _) _).trans (hb1.mono (by simp))
  clear hb1
  obtain ⟨c0, c1, c2, c3, c4, c5⟩ := HT1.cells
  obtain ⟨f0, f1, f2, f3, f4, f5⟩ := HT1.frozen
  go_wp2
  exact ret_tk rfl rfl rfl (HT1.set 0 0 0 0 ⟨#[]⟩ 0) ⟨rfl, below_set6 HB1 (Nat.le_refl _) _ _ _ _ _ _⟩
set_option maxHeartbeats 1000000 in
theorem eStray_ok (s : ByteArray) (m n : Int) (hv : BTells s 2 m n 0) (hm : 128 ≤ m) (hm2 : m ≤ 255) : Tells 133 #[.string s] 1 0 n (1114112 + m) ⟨#[]⟩ 0 0 := by
  intro w
  have HV : Hid (BTells s 2 m n 0) := hv
  clear hv
  have hd : decide (m < (128 : Int)) = false := by simp; omega
  go_enter Tryz.func133, Tryz.ntmps133
  go_wp2_with fail
  refine (HV.out _).mono ?_
  rintro e w1 ⟨rfl, hb1⟩
  have HT1 : TB w1 w.heap.size 0 0 0 0 ⟨#[]⟩ 0 := (TB.new w 0 0 0 0 ⟨#[]⟩ 0).below hb1 (by simp)
  have HB1 : Below w.heap.size w w1 := ((Below.refl _ w).alloc (Nat.le_refl _) _).trans (hb1.mono (by simp))
  clear hb1
  obtain ⟨c0, c1, c2, c3, c4, c5⟩ := HT1.cells
  obtain ⟨f0, f1, f2, f3, f4, f5⟩ := HT1.frozen
  go_wp2_with fail
  refine (unit_any _ _ _).mono ?_
  rintro e w2 ⟨rfl, hb2⟩
  replace HT1 := HT1.below hb2 HT1.lt
  replace HB1 := HB1.trans (hb2.mono HB1.size)
  clear hb2
  obtain ⟨c0, c1, c2, c3, c4, c5⟩ := HT1.cells
  obtain ⟨f0, f1, f2, f3, f4, f5⟩ := HT1.frozen
  go_wp2
  exact ret_tk rfl rfl rfl (HT1.set 1 0 n (1114112 + m) ⟨#[]⟩ 0) ⟨rfl, below_set6 HB1 (Nat.le_refl _) _ _ _ _ _ _⟩
end Go.Proofs
