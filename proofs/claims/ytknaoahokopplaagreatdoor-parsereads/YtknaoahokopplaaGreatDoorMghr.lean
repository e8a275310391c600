/-
  Several texts in one (Xdr Xer Xfr).
-/
import Derived.Shelf.Abstract
import Derived.Shelf.RegionOpen
import Derived.WalkKit
import Derived.WalkSpells
import Derived.WalkLawsBesides
import Derived.BigQuiet
import Derived.Deep.QuietTactic
import Derived.Deep.LoopGhost
import Derived.Lib.OthersKept
import Derived.ScopeJumps
import Derived.WalkMore
import Derived.Test.YtknaoahokopplaaGreatDoorMggr
import Derived.Maps.AppendAt
import Derived.Lib.SmallJoins
namespace Go.Proofs
open Go.RowKit Go.Shelf

set_option maxRecDepth 100000
attribute [local go_sem] Oper.semAt_some


def rsvL : List UInt8 := [62, 59, 123, 125, 124, 94, 36, 46, 91, 93, 45, 61, 58, 64, 35, 92, 44]
def sgnL : List UInt8 := [62, 59, 123, 125, 124, 94, 36, 46, 91, 93, 45, 61, 58]
def rsv (u : Nat) : Bool := decide (u < 128) && decide (0 ≤ Lib.indexByte rsvL u.toUInt8)
set_option maxHeartbeats 1000000 in
theorem reserved_any (u : Nat) (w : World) : Calls Tryz.prog 50 #[.int .i64 u] w fun e w' => e = .returned (.bool (rsv u)) ∧ w' = w := by
  by_cases h : u < 128
  · have hd : decide ((u : Int) < 128) = true := by simp; omega
    have h0 : decide (u < 128) = true := by simp; omega
    obtain ⟨i, hi⟩ : ∃ i, Lib.indexByte rsvL u.toUInt8 = i := ⟨_, rfl⟩
    unfold rsv
    rw [h0, hi, Bool.true_and]
    go_enter Tryz.func50, Tryz.ntmps50
    go_wp2_with (go_at_call 84; refine (Tryz.strings_IndexByte _ _ _).mono ?_; rintro e w' ⟨rfl, rfl⟩)
    go_ret
    exact ⟨by rw [← hi]; rfl, rfl⟩
  · have hd : decide ((u : Int) < 128) = false := by simp; omega
    have h0 : decide (u < 128) = false := by simp; omega
    unfold rsv
    rw [h0, Bool.false_and]
    go_enter Tryz.func50, Tryz.ntmps50
    go_wp2_with fail
    go_ret
    exact ⟨rfl, rfl⟩
set_option maxHeartbeats 1000000 in
theorem unit_any (u n : Int) (w : World) : Calls Tryz.prog 134 #[.int .i64 u, .int .i64 n] w fun e w' => e = .returned (tk 1 0 n u ⟨#[]⟩ 0) ∧ Below w.heap.size w w' := by
  go_enter Tryz.func134, Tryz.ntmps134
  go_wp2
  exact bodyPost_ret (v := tk 1 0 n u ⟨#[]⟩ 0) (by simp [results, Tryz.f134, go_sem]) rfl ⟨rfl, (Below.refl _ _).alloc (Nat.le_refl _) _⟩

/-! bare -/
set_option maxHeartbeats 1000000 in
theorem bare_ok (s : ByteArray) (u : Nat) (n : Int) (w : World) (hs : s.size ≤ maxLen) (hu : firstU s = ((u : Int), n)) (h1 : 32 ≤ u) (h2 : u ≠ 127) (h3 : u ≤ 1114111) (hr : rsv u = false) : Calls Tryz.prog 93 #[.string s] w fun e w' => e = .returned (.tuple #[tk 1 0 n u ⟨#[]⟩ 0, .int .i64 0]) ∧ Below w.heap.size w w' := by
  have d1 : decide ((u : Int) < 32) = false := by simp; omega
  have d2 : ((u : Int) == 127) = false := by simp; omega
  have d3 : decide ((1114111 : Int) < (u : Int)) = false := by simp; omega
  go_enter Tryz.func93, Tryz.ntmps93
  go_wp2_with fail
  refine (firstU_any s _ hs).mono ?_
  rintro e w1 ⟨rfl, hb1⟩
  rw [hu]
  have HB : Hid (Below w.heap.size w w1) := ((Below.refl _ w).alloc (Nat.le_refl _) _).trans (hb1.mono (by simp))
  have HT : Hid (TB w1 w.heap.size 0 0 0 0 ⟨#[]⟩ 0) := (TB.new w 0 0 0 0 ⟨#[]⟩ 0).below hb1 (by simp)
  clear hb1
  go_wp2_with (first | (go_at_call 50; refine (reserved_any _ _).mono ?_; rintro e w' ⟨rfl, rfl⟩; rw [hr]) | fail)
  refine (unit_any _ _ _).mono ?_
  rintro e w2 ⟨rfl, hb2⟩
  have HT2 := HT.out.below hb2 HT.out.lt
  have HB2 := HB.out.trans (hb2.mono HB.out.size)
  obtain ⟨c0, c1, c2, c3, c4, c5⟩ := HT2.cells
  obtain ⟨f0, f1, f2, f3, f4, f5⟩ := HT2.frozen
  clear hb2 HT HB
  go_wp2
  exact ret_tk rfl rfl rfl (HT2.set 1 0 n u ⟨#[]⟩ 0) ⟨rfl, below_set6 HB2 (Nat.le_refl _) _ _ _ _ _ _⟩
set_option maxHeartbeats 1000000 in
theorem bare_low (s : ByteArray) (u : Nat) (n : Int) (w : World) (hs : s.size ≤ maxLen) (hu : firstU s = ((u : Int), n)) {b : Bool} (_hr : rsv u = b) (h1 : u < 32) : Calls Tryz.prog 93 #[.string s] w fun e w' => e = .returned (.tuple #[tk0, .int .i64 40]) ∧ Below w.heap.size w w' := by
  have d1 : decide ((u : Int) < 32) = true := by simp; omega
  go_enter Tryz.func93, Tryz.ntmps93
  go_wp2_with fail
  refine (firstU_any s _ hs).mono ?_
  rintro e w1 ⟨rfl, hb1⟩
  rw [hu]
  have HB : Hid (Below w.heap.size w w1) := ((Below.refl _ w).alloc (Nat.le_refl _) _).trans (hb1.mono (by simp))
  have HT : Hid (TB w1 w.heap.size 0 0 0 0 ⟨#[]⟩ 0) := (TB.new w 0 0 0 0 ⟨#[]⟩ 0).below hb1 (by simp)
  obtain ⟨c0, c1, c2, c3, c4, c5⟩ := HT.out.cells
  obtain ⟨f0, f1, f2, f3, f4, f5⟩ := HT.out.frozen
  clear hb1
  go_wp2_with (first | (go_at_call 50; refine (reserved_any _ _).mono ?_; rintro e w' ⟨rfl, rfl⟩; rw [hr]) | fail)
  exact ret_tk rfl rfl rfl (HT.out.set 0 0 0 0 ⟨#[]⟩ 0) ⟨rfl, below_set6 HB.out (Nat.le_refl _) _ _ _ _ _ _⟩
set_option maxHeartbeats 1000000 in
theorem bare_127 (s : ByteArray) (n : Int) (w : World) (hs : s.size ≤ maxLen) (hu : firstU s = (127, n)) {b : Bool} (_hr : rsv 127 = b) : Calls Tryz.prog 93 #[.string s] w fun e w' => e = .returned (.tuple #[tk0, .int .i64 40]) ∧ Below w.heap.size w w' := by
  go_enter Tryz.func93, Tryz.ntmps93
  go_wp2_with fail
  refine (firstU_any s _ hs).mono ?_
  rintro e w1 ⟨rfl, hb1⟩
  rw [hu]
  have HB : Hid (Below w.heap.size w w1) := ((Below.refl _ w).alloc (Nat.le_refl _) _).trans (hb1.mono (by simp))
  have HT : Hid (TB w1 w.heap.size 0 0 0 0 ⟨#[]⟩ 0) := (TB.new w 0 0 0 0 ⟨#[]⟩ 0).below hb1 (by simp)
  obtain ⟨c0, c1, c2, c3, c4, c5⟩ := HT.out.cells
  obtain ⟨f0, f1, f2, f3, f4, f5⟩ := HT.out.frozen
  clear hb1
  go_wp2_with (first | (go_at_call 50; refine (reserved_any _ _).mono ?_; rintro e w' ⟨rfl, rfl⟩; rw [hr]) | fail)
  exact ret_tk rfl rfl rfl (HT.out.set 0 0 0 0 ⟨#[]⟩ 0) ⟨rfl, below_set6 HB.out (Nat.le_refl _) _ _ _ _ _ _⟩
set_option maxHeartbeats 1000000 in
theorem bare_high (s : ByteArray) (u : Nat) (n : Int) (w : World) (hs : s.size ≤ maxLen) (hu : firstU s = ((u : Int), n)) {b : Bool} (_hr : rsv u = b) (h1 : 1114111 < u) : Calls Tryz.prog 93 #[.string s] w fun e w' => e = .returned (.tuple #[tk0, .int .i64 40]) ∧ Below w.heap.size w w' := by
  have d1 : decide ((u : Int) < 32) = false := by simp; omega
  have d2 : ((u : Int) == 127) = false := by simp; omega
  have d3 : decide ((1114111 : Int) < (u : Int)) = true := by simp; omega
  go_enter Tryz.func93, Tryz.ntmps93
  go_wp2_with fail
  refine (firstU_any s _ hs).mono ?_
  rintro e w1 ⟨rfl, hb1⟩
  rw [hu]
  have HB : Hid (Below w.heap.size w w1) := ((Below.refl _ w).alloc (Nat.le_refl _) _).trans (hb1.mono (by simp))
  have HT : Hid (TB w1 w.heap.size 0 0 0 0 ⟨#[]⟩ 0) := (TB.new w 0 0 0 0 ⟨#[]⟩ 0).below hb1 (by simp)
  obtain ⟨c0, c1, c2, c3, c4, c5⟩ := HT.out.cells
  obtain ⟨f0, f1, f2, f3, f4, f5⟩ := HT.out.frozen
  clear hb1
  go_wp2_with (first | (go_at_call 50; refine (reserved_any _ _).mono ?_; rintro e w' ⟨rfl, rfl⟩; rw [hr]) | fail)
  exact ret_tk rfl rfl rfl (HT.out.set 0 0 0 0 ⟨#[]⟩ 0) ⟨rfl, below_set6 HB.out (Nat.le_refl _) _ _ _ _ _ _⟩
set_option maxHeartbeats 1000000 in
theorem bare_rsv (s : ByteArray) (u : Nat) (n : Int) (w : World) (hs : s.size ≤ maxLen) (hu : firstU s = ((u : Int), n)) (hr : rsv u = true) (h1 : 32 ≤ u) (h2 : u ≠ 127) (h3 : u ≤ 1114111) : Calls Tryz.prog 93 #[.string s] w fun e w' => e = .returned (.tuple #[tk0, .int .i64 40]) ∧ Below w.heap.size w w' := by
  have d1 : decide ((u : Int) < 32) = false := by simp; omega
  have d2 : ((u : Int) == 127) = false := by simp; omega
  have d3 : decide ((1114111 : Int) < (u : Int)) = false := by simp; omega
  go_enter Tryz.func93, Tryz.ntmps93
  go_wp2_with fail
  refine (firstU_any s _ hs).mono ?_
  rintro e w1 ⟨rfl, hb1⟩
  rw [hu]
  have HB : Hid (Below w.heap.size w w1) := ((Below.refl _ w).alloc (Nat.le_refl _) _).trans (hb1.mono (by simp))
  have HT : Hid (TB w1 w.heap.size 0 0 0 0 ⟨#[]⟩ 0) := (TB.new w 0 0 0 0 ⟨#[]⟩ 0).below hb1 (by simp)
  obtain ⟨c0, c1, c2, c3, c4, c5⟩ := HT.out.cells
  obtain ⟨f0, f1, f2, f3, f4, f5⟩ := HT.out.frozen
  clear hb1
  go_wp2_with (first | (go_at_call 50; refine (reserved_any _ _).mono ?_; rintro e w' ⟨rfl, rfl⟩; rw [hr]) | fail)
  exact ret_tk rfl rfl rfl (HT.out.set 0 0 0 0 ⟨#[]⟩ 0) ⟨rfl, below_set6 HB.out (Nat.le_refl _) _ _ _ _ _ _⟩
end Go.Proofs
namespace Go.Proofs
open Go.RowKit Go.Shelf

set_option maxRecDepth 100000
attribute [local go_sem] Oper.semAt_some


/-- a call tells a token and an error -/
def Tells (f : Nat) (args : Array Value) (k a l u : Int) (t : ByteArray) (n e0 : Int) : Prop := ∀ w : World, Calls Tryz.prog f args w fun e w' => e = .returned (.tuple #[tk k a l u t n, .int .i64 e0]) ∧ Below w.heap.size w w'
set_option maxHeartbeats 1000000 in
theorem first_var (s : ByteArray) (fresh : Bool) (k a l u : Int) (t : ByteArray) (n e0 : Int) (hs : s.size ≤ maxLen) (h1 : 0 < s.size) (m : Nat) (hc : s[0].toNat = 36) (hm : spanN isNm (s.extract 1 s.size).data.toList = m) (hm0 : 0 < m) (hv : Tells 87 #[.string s] k a l u t n e0) : Tells 47 #[.string s, .bool fresh] k a l u t n e0 := by
  intro w
  have HV : Hid (Tells 87 #[.string s] k a l u t n e0) := hv
  clear hv
  have h1i : (1 : Int) ≤ (s.size : Int) := by omega
  have hmi : (0 : Int) < (m : Int) := by omega
  go_enter Tryz.func47, Tryz.ntmps47
  go_wp2_with (first | (go_at_call 84; refine (Tryz.strings_IndexByte _ _ _).mono ?_; rintro e w' ⟨rfl, rfl⟩; skip) | (go_at_call 85; refine (span_name _ _ (by rw [ext_size]; omega)).mono ?_; rintro e w' ⟨rfl, rfl⟩; rw [hm]))
  refine (HV.out _).mono ?_
  rintro e w2 ⟨rfl, hb2⟩
  have HT2 := (TB.new w 0 0 0 0 ⟨#[]⟩ 0).below hb2 (by simp)
  have HB2 : Below w.heap.size w w2 := ((Below.refl _ w).alloc (Nat.le_refl _) _).trans (hb2.mono (by simp))
  obtain ⟨c0, c1, c2, c3, c4, c5⟩ := HT2.cells
  obtain ⟨f0, f1, f2, f3, f4, f5⟩ := HT2.frozen
  clear hb2
  go_wp2
  exact ret_tk rfl rfl rfl (HT2.set k a l u t n) ⟨rfl, below_set6 HB2 (Nat.le_refl _) _ _ _ _ _ _⟩
set_option maxHeartbeats 1000000 in
theorem first_class (s : ByteArray) (fresh : Bool) (k a l u : Int) (t : ByteArray) (n e0 : Int) (_hs : s.size ≤ maxLen) (h1 : 0 < s.size) (hc : s[0].toNat = 91) (hp : Lib.hasPrefix s.data.toList [91, 58] = true) (hv : Tells 89 #[.string s] k a l u t n e0) : Tells 47 #[.string s, .bool fresh] k a l u t n e0 := by
  intro w
  have HV : Hid (Tells 89 #[.string s] k a l u t n e0) := hv
  clear hv
  have h1i : (1 : Int) ≤ (s.size : Int) := by omega
  go_enter Tryz.func47, Tryz.ntmps47
  go_wp2_with (first | (go_at_call 84; refine (Tryz.strings_IndexByte _ _ _).mono ?_; rintro e w' ⟨rfl, rfl⟩; skip) | (go_at_call 88; refine (Tryz.strings_HasPrefix _ _ _).mono ?_; rintro e w' ⟨rfl, rfl⟩; rw [show (⟨#[91, 58]⟩ : ByteArray).data.toList = [91, 58] from rfl, hp]))
  refine (HV.out _).mono ?_
  rintro e w2 ⟨rfl, hb2⟩
  have HT2 := (TB.new w 0 0 0 0 ⟨#[]⟩ 0).below hb2 (by simp)
  have HB2 : Below w.heap.size w w2 := ((Below.refl _ w).alloc (Nat.le_refl _) _).trans (hb2.mono (by simp))
  obtain ⟨c0, c1, c2, c3, c4, c5⟩ := HT2.cells
  obtain ⟨f0, f1, f2, f3, f4, f5⟩ := HT2.frozen
  clear hb2
  go_wp2
  exact ret_tk rfl rfl rfl (HT2.set k a l u t n) ⟨rfl, below_set6 HB2 (Nat.le_refl _) _ _ _ _ _ _⟩
set_option maxHeartbeats 1000000 in
theorem first_bare (s : ByteArray) (fresh : Bool) (k a l u : Int) (t : ByteArray) (n e0 : Int) (_hs : s.size ≤ maxLen) (h1 : 0 < s.size) (hc : s[0].toNat ≠ 36) (hp : Lib.hasPrefix s.data.toList [91, 58] = false) (hi : Lib.indexByte sgnL s[0] = -1) (h64 : s[0].toNat ≠ 64) (h92 : s[0].toNat ≠ 92) (hf : fresh = false) (hv : Tells 93 #[.string s] k a l u t n e0) : Tells 47 #[.string s, .bool fresh] k a l u t n e0 := by
  intro w
  have HV : Hid (Tells 93 #[.string s] k a l u t n e0) := hv
  clear hv
  have h1i : (1 : Int) ≤ (s.size : Int) := by omega
  subst hf
  go_enter Tryz.func47, Tryz.ntmps47
  go_wp2_with (first | (go_at_call 84; refine (Tryz.strings_IndexByte _ _ _).mono ?_; rintro e w' ⟨rfl, rfl⟩; rw [show (⟨#[62, 59, 123, 125, 124, 94, 36, 46, 91, 93, 45, 61, 58]⟩ : ByteArray).data.toList = sgnL from rfl, show (Int.toNat (s[0].toNat : Int)).toUInt8 = s[0] by simp, hi]) | (go_at_call 88; refine (Tryz.strings_HasPrefix _ _ _).mono ?_; rintro e w' ⟨rfl, rfl⟩; rw [show (⟨#[91, 58]⟩ : ByteArray).data.toList = [91, 58] from rfl, hp]))
  refine (HV.out _).mono ?_
  rintro e w2 ⟨rfl, hb2⟩
  have HT2 := (TB.new w 0 0 0 0 ⟨#[]⟩ 0).below hb2 (by simp)
  have HB2 : Below w.heap.size w w2 := ((Below.refl _ w).alloc (Nat.le_refl _) _).trans (hb2.mono (by simp))
  obtain ⟨c0, c1, c2, c3, c4, c5⟩ := HT2.cells
  obtain ⟨f0, f1, f2, f3, f4, f5⟩ := HT2.frozen
  clear hb2
  go_wp2
  exact ret_tk rfl rfl rfl (HT2.set k a l u t n) ⟨rfl, below_set6 HB2 (Nat.le_refl _) _ _ _ _ _ _⟩
theorem idx_bound : ∀ (l : List UInt8) (c : UInt8), -1 ≤ Lib.indexByte l c ∧ Lib.indexByte l c < l.length
  | [], c => by simp [Lib.indexByte]
  | b :: l, c => by
    obtain ⟨h1, h2⟩ := idx_bound l c
    unfold Lib.indexByte
    rw [List.length_cons]
    split
    · omega
    · split <;> omega
theorem sgn_bound (c : UInt8) : Lib.indexByte sgnL c ≤ 12 ∧ -1 ≤ Lib.indexByte sgnL c := by
  have := idx_bound sgnL c
  have e : sgnL.length = 13 := rfl
  omega
set_option maxHeartbeats 1000000 in
theorem first_sign (s : ByteArray) (fresh : Bool) (i : Nat) (_hs : s.size ≤ maxLen) (h1 : 0 < s.size) (hc : s[0].toNat ≠ 36) (hp : Lib.hasPrefix s.data.toList [91, 58] = false) (hi : Lib.indexByte sgnL s[0] = (i : Int)) : Tells 47 #[.string s, .bool fresh] (10 + i) 0 1 0 ⟨#[]⟩ 0 0 := by
  intro w
  have h1i : (1 : Int) ≤ (s.size : Int) := by omega
  have hi12 : (i : Int) ≤ 12 := by rw [← hi]; exact (sgn_bound _).1
  have hi0 : (0 : Int) ≤ (i : Int) := by omega
  go_enter Tryz.func47, Tryz.ntmps47
  go_wp2_with (first | (go_at_call 84; refine (Tryz.strings_IndexByte _ _ _).mono ?_; rintro e w' ⟨rfl, rfl⟩; rw [show (⟨#[62, 59, 123, 125, 124, 94, 36, 46, 91, 93, 45, 61, 58]⟩ : ByteArray).data.toList = sgnL from rfl, show (Int.toNat (s[0].toNat : Int)).toUInt8 = s[0] by simp, hi]) | (go_at_call 88; refine (Tryz.strings_HasPrefix _ _ _).mono ?_; rintro e w' ⟨rfl, rfl⟩; rw [show (⟨#[91, 58]⟩ : ByteArray).data.toList = [91, 58] from rfl, hp]))
  exact bodyPost_ret (v := .tuple #[tk (10 + i) 0 1 0 ⟨#[]⟩ 0, .int .i64 0]) (by simp [results, Tryz.f47, go_sem]) rfl ⟨rfl, (Below.refl _ _).alloc (Nat.le_refl _) _⟩
set_option maxHeartbeats 1000000 in
theorem first_sign36 (s : ByteArray) (fresh : Bool) (i : Nat) (hs : s.size ≤ maxLen) (h1 : 0 < s.size) (hc : s[0].toNat = 36) (hm : spanN isNm (s.extract 1 s.size).data.toList = 0) (hp : Lib.hasPrefix s.data.toList [91, 58] = false) (hi : Lib.indexByte sgnL s[0] = (i : Int)) : Tells 47 #[.string s, .bool fresh] (10 + i) 0 1 0 ⟨#[]⟩ 0 0 := by
  intro w
  have h1i : (1 : Int) ≤ (s.size : Int) := by omega
  have hi12 : (i : Int) ≤ 12 := by rw [← hi]; exact (sgn_bound _).1
  have hi0 : (0 : Int) ≤ (i : Int) := by omega
  go_enter Tryz.func47, Tryz.ntmps47
  go_wp2_with (first | (go_at_call 84; refine (Tryz.strings_IndexByte _ _ _).mono ?_; rintro e w' ⟨rfl, rfl⟩; rw [show (⟨#[62, 59, 123, 125, 124, 94, 36, 46, 91, 93, 45, 61, 58]⟩ : ByteArray).data.toList = sgnL from rfl, show (Int.toNat (36 : Int)).toUInt8 = s[0] by rw [← UInt8.toNat_inj, hc]; rfl, hi]) | (go_at_call 85; refine (span_name _ _ (by rw [ext_size]; omega)).mono ?_; rintro e w' ⟨rfl, rfl⟩; rw [hm]) | (go_at_call 88; refine (Tryz.strings_HasPrefix _ _ _).mono ?_; rintro e w' ⟨rfl, rfl⟩; rw [show (⟨#[91, 58]⟩ : ByteArray).data.toList = [91, 58] from rfl, hp]))
  exact bodyPost_ret (v := .tuple #[tk (10 + i) 0 1 0 ⟨#[]⟩ 0, .int .i64 0]) (by simp [results, Tryz.f47, go_sem]) rfl ⟨rfl, (Below.refl _ _).alloc (Nat.le_refl _) _⟩
end Go.Proofs
namespace Go.Proofs
open Go.RowKit Go.Shelf

set_option maxRecDepth 100000
attribute [local go_sem] Oper.semAt_some


/-- from a place on, the tokens toks are read; then the text ends (fe = 0), or a token at fa is refused by fe -/
inductive Run (s : ByteArray) : Nat → Bool → List Tok → Nat → Int → Prop
  | fin {p : Nat} {fresh : Bool} (h : p + pastN false (s.data.toList.drop p) = s.size) : Run s p fresh [] 0 0
  | bad {p : Nat} {fresh : Bool} {q : Nat} {e0 : Int} (hq : q = p + pastN false (s.data.toList.drop p)) (hlt : q < s.size) (hb : Tells 47 #[.string (s.extract q s.size), .bool fresh] 0 0 0 0 ⟨#[]⟩ 0 e0) (he : e0 ≠ 0) : Run s p fresh [] q e0
  | step {p : Nat} {fresh : Bool} {q : Nat} {k u : Int} {l : Nat} {t : ByteArray} {n : Int} {toks : List Tok} {fa : Nat} {fe : Int} (hq : q = p + pastN false (s.data.toList.drop p)) (hlt : q < s.size) (hb : Tells 47 #[.string (s.extract q s.size), .bool fresh] k 0 l u t n 0) (h0 : 0 < l) (hl : q + l ≤ s.size) (hr : Run s (q + l) (decide (k = 11)) toks fa fe) : Run s p fresh (⟨k, q, l, u, t, n⟩ :: toks) fa fe
end Go.Proofs
