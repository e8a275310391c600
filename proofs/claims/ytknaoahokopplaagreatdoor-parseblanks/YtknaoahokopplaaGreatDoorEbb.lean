/-
  What stands behind a backslash.
-/
import Derived.Shelf.Abstract
import Derived.Shelf.RegionOpen
import Derived.WalkKit
import Derived.WalkSpells
import Derived.WalkLawsBesides
import Derived.BigQuiet
import Derived.Deep.QuietTactic
import Derived.Deep.LoopGhost
import Derived.Lib.OthersKept
import Derived.ScopeJumps
import Derived.WalkMore
import Derived.Maps.AppendAt
import Derived.Lib.SmallJoins
import Derived.Test.YtknaoahokopplaaGreatDoorMgfb
namespace Go.Proofs
open Go.RowKit Go.Shelf

set_option maxRecDepth 100000
attribute [local go_sem] Oper.semAt_some


theorem noPre (s : ByteArray) (h1 : 0 < s.size) (h : s[0].toNat ≠ 91) : Lib.hasPrefix s.data.toList [91, 58] = false := by
  have hd : s.data.toList = s[0] :: s.data.toList.drop 1 := by
    have := drop_at (s := s) (k := 0) h1
    rwa [List.drop_zero] at this
  rw [hd]
  have h2 : ((91 : UInt8) == s[0]) = false := by
    rw [beq_eq_false_iff_ne]
    intro e
    exact h (by rw [← e]; rfl)
  show List.isPrefixOf ([91, 58] : List UInt8) (s[0] :: _) = false
  rw [List.isPrefixOf_cons_cons, h2, Bool.false_and]
set_option maxHeartbeats 1000000 in
theorem esc_end (s : ByteArray) (h1 : s.size = 1) : Tells 91 #[.string s] 0 0 0 0 ⟨#[]⟩ 0 44 := by
  intro w
  have h1i : ((s.size : Int) == 1) = true := by rw [h1]; rfl
  go_enter Tryz.func91, Tryz.ntmps91
  go_wp2
  exact bodyPost_ret (v := .tuple #[tk0, .int .i64 44]) (by simp [results, Tryz.f91, go_sem]) rfl ⟨rfl, (Below.refl _ _).alloc (Nat.le_refl _) _⟩
set_option maxHeartbeats 1000000 in
theorem esc_x (s : ByteArray) (k a l u : Int) (t : ByteArray) (n e0 : Int) (h2 : 2 ≤ s.size) (hc : s[1].toNat = 120) (hv : Tells 132 #[.string s] k a l u t n e0) : Tells 91 #[.string s] k a l u t n e0 := by
  intro w
  have HV : Hid (Tells 132 #[.string s] k a l u t n e0) := hv
  clear hv
  have h1i : ((s.size : Int) == 1) = false := by simp; omega
  have h2i : (1 : Int) < (s.size : Int) := by omega
  go_enter Tryz.func91, Tryz.ntmps91
  go_wp2_with fail
  refine (HV.out _).mono ?_
  rintro e w2 ⟨rfl, hb2⟩
  have HT2 := (TB.new w 0 0 0 0 ⟨#[]⟩ 0).below hb2 (by simp)
  have HB2 : Below w.heap.size w w2 := ((Below.refl _ w).alloc (Nat.le_refl _) _).trans (hb2.mono (by simp))
  obtain ⟨c0, c1, c2, c3, c4, c5⟩ := HT2.cells
  obtain ⟨f0, f1, f2, f3, f4, f5⟩ := HT2.frozen
  clear hb2
  go_wp2
  exact ret_tk rfl rfl rfl (HT2.set k a l u t n) ⟨rfl, below_set6 HB2 (Nat.le_refl _) _ _ _ _ _ _⟩
set_option maxHeartbeats 1000000 in
theorem esc_b (s : ByteArray) (k a l u : Int) (t : ByteArray) (n e0 : Int) (h2 : 2 ≤ s.size) (hc : s[1].toNat = 98) (hv : Tells 133 #[.string s] k a l u t n e0) : Tells 91 #[.string s] k a l u t n e0 := by
  intro w
  have HV : Hid (Tells 133 #[.string s] k a l u t n e0) := hv
  clear hv
  have h1i : ((s.size : Int) == 1) = false := by simp; omega
  have h2i : (1 : Int) < (s.size : Int) := by omega
  go_enter Tryz.func91, Tryz.ntmps91
  go_wp2_with fail
  refine (HV.out _).mono ?_
  rintro e w2 ⟨rfl, hb2⟩
  have HT2 := (TB.new w 0 0 0 0 ⟨#[]⟩ 0).below hb2 (by simp)
  have HB2 : Below w.heap.size w w2 := ((Below.refl _ w).alloc (Nat.le_refl _) _).trans (hb2.mono (by simp))
  obtain ⟨c0, c1, c2, c3, c4, c5⟩ := HT2.cells
  obtain ⟨f0, f1, f2, f3, f4, f5⟩ := HT2.frozen
  clear hb2
  go_wp2
  exact ret_tk rfl rfl rfl (HT2.set k a l u t n) ⟨rfl, below_set6 HB2 (Nat.le_refl _) _ _ _ _ _ _⟩
set_option maxHeartbeats 1000000 in
theorem esc_low (s : ByteArray) (h2 : 2 ≤ s.size) (_hx : s[1].toNat ≠ 120) (_hb : s[1].toNat ≠ 98) (h : s[1].toNat < 32) : Tells 91 #[.string s] 0 0 0 0 ⟨#[]⟩ 0 41 := by
  intro w
  have h1i : ((s.size : Int) == 1) = false := by simp; omega
  have h2i : (1 : Int) < (s.size : Int) := by omega
  have hl : decide ((s[1].toNat : Int) < 32) = true := by simp; omega
  go_enter Tryz.func91, Tryz.ntmps91
  go_wp2
  exact bodyPost_ret (v := .tuple #[tk0, .int .i64 41]) (by simp [results, Tryz.f91, go_sem]) rfl ⟨rfl, (Below.refl _ _).alloc (Nat.le_refl _) _⟩
set_option maxHeartbeats 1000000 in
theorem esc_high (s : ByteArray) (h2 : 2 ≤ s.size) (_hx : s[1].toNat ≠ 120) (_hb : s[1].toNat ≠ 98) (h : 126 < s[1].toNat) : Tells 91 #[.string s] 0 0 0 0 ⟨#[]⟩ 0 41 := by
  intro w
  have h1i : ((s.size : Int) == 1) = false := by simp; omega
  have h2i : (1 : Int) < (s.size : Int) := by omega
  have hl : decide ((s[1].toNat : Int) < 32) = false := by simp; omega
  have hh : decide ((126 : Int) < (s[1].toNat : Int)) = true := by simp; omega
  go_enter Tryz.func91, Tryz.ntmps91
  go_wp2
  exact bodyPost_ret (v := .tuple #[tk0, .int .i64 41]) (by simp [results, Tryz.f91, go_sem]) rfl ⟨rfl, (Below.refl _ _).alloc (Nat.le_refl _) _⟩
set_option maxHeartbeats 1000000 in
theorem esc_letter (s : ByteArray) (h2 : 2 ≤ s.size) (hx : s[1].toNat ≠ 120) (hb : s[1].toNat ≠ 98) (h32 : 32 ≤ s[1].toNat) (h126 : s[1].toNat ≤ 126) (hlt : isLt s[1] = true) : Tells 91 #[.string s] 0 0 0 0 ⟨#[]⟩ 0 41 := by
  intro w
  have h1i : ((s.size : Int) == 1) = false := by simp; omega
  have h2i : (1 : Int) < (s.size : Int) := by omega
  have hl : decide ((s[1].toNat : Int) < 32) = false := by simp; omega
  have hh : decide ((126 : Int) < (s[1].toNat : Int)) = false := by simp; omega
  go_enter Tryz.func91, Tryz.ntmps91
  go_wp2_with (first | (go_at_call 128; refine (letter_any _ _).mono ?_; rintro e w' ⟨rfl, rfl⟩; rw [hlt]) | (go_at_call 129; refine (digit_any _ _).mono ?_; rintro e w' ⟨rfl, rfl⟩; rw [hdg]))
  exact bodyPost_ret (v := .tuple #[tk0, .int .i64 41]) (by simp [results, Tryz.f91, go_sem]) rfl ⟨rfl, (Below.refl _ _).alloc (Nat.le_refl _) _⟩
set_option maxHeartbeats 1000000 in
theorem esc_digit (s : ByteArray) (h2 : 2 ≤ s.size) (hx : s[1].toNat ≠ 120) (hb : s[1].toNat ≠ 98) (h32 : 32 ≤ s[1].toNat) (h126 : s[1].toNat ≤ 126) (hlt : isLt s[1] = false) (hdg : isDg s[1] = true) : Tells 91 #[.string s] 0 0 0 0 ⟨#[]⟩ 0 41 := by
  intro w
  have h1i : ((s.size : Int) == 1) = false := by simp; omega
  have h2i : (1 : Int) < (s.size : Int) := by omega
  have hl : decide ((s[1].toNat : Int) < 32) = false := by simp; omega
  have hh : decide ((126 : Int) < (s[1].toNat : Int)) = false := by simp; omega
  go_enter Tryz.func91, Tryz.ntmps91
  go_wp2_with (first | (go_at_call 128; refine (letter_any _ _).mono ?_; rintro e w' ⟨rfl, rfl⟩; rw [hlt]) | (go_at_call 129; refine (digit_any _ _).mono ?_; rintro e w' ⟨rfl, rfl⟩; rw [hdg]))
  exact bodyPost_ret (v := .tuple #[tk0, .int .i64 41]) (by simp [results, Tryz.f91, go_sem]) rfl ⟨rfl, (Below.refl _ _).alloc (Nat.le_refl _) _⟩
set_option maxHeartbeats 1000000 in
theorem esc_ok (s : ByteArray) (h2 : 2 ≤ s.size) (hx : s[1].toNat ≠ 120) (hb : s[1].toNat ≠ 98) (h32 : 32 ≤ s[1].toNat) (h126 : s[1].toNat ≤ 126) (hlt : isLt s[1] = false) (hdg : isDg s[1] = false) : Tells 91 #[.string s] 1 0 2 s[1].toNat ⟨#[]⟩ 0 0 := by
  intro w
  have h1i : ((s.size : Int) == 1) = false := by simp; omega
  have h2i : (1 : Int) < (s.size : Int) := by omega
  have hl : decide ((s[1].toNat : Int) < 32) = false := by simp; omega
  have hh : decide ((126 : Int) < (s[1].toNat : Int)) = false := by simp; omega
  go_enter Tryz.func91, Tryz.ntmps91
  go_wp2_with (first | (go_at_call 128; refine (letter_any _ _).mono ?_; rintro e w' ⟨rfl, rfl⟩; rw [hlt]) | (go_at_call 129; refine (digit_any _ _).mono ?_; rintro e w' ⟨rfl, rfl⟩; rw [hdg]))
  refine (unit_any _ _ _).mono ?_
  rintro e w2 ⟨rfl, hb2⟩
  have HT2 := (TB.new w 0 0 0 0 ⟨#[]⟩ 0).below hb2 (by simp)
  have HB2 : Below w.heap.size w w2 := ((Below.refl _ w).alloc (Nat.le_refl _) _).trans (hb2.mono (by simp))
  obtain ⟨c0, c1, c2, c3, c4, c5⟩ := HT2.cells
  obtain ⟨f0, f1, f2, f3, f4, f5⟩ := HT2.frozen
  clear hb2
  go_wp2
  exact ret_tk rfl rfl rfl (HT2.set 1 0 2 (s[1].toNat : Int) ⟨#[]⟩ 0) ⟨rfl, below_set6 HB2 (Nat.le_refl _) _ _ _ _ _ _⟩
set_option maxHeartbeats 1000000 in
theorem first_copy (s : ByteArray) (fresh : Bool) (k a l u : Int) (t : ByteArray) (n e0 : Int) (h1 : 0 < s.size) (hc : s[0].toNat = 64) (hv : Tells 90 #[.string s] k a l u t n e0) : Tells 47 #[.string s, .bool fresh] k a l u t n e0 := by
  intro w
  have HV : Hid (Tells 90 #[.string s] k a l u t n e0) := hv
  clear hv
  have h1i : (1 : Int) ≤ (s.size : Int) := by omega
  have hi : Lib.indexByte sgnL (Int.toNat (64 : Int)).toUInt8 = -1 := by decide +kernel
  have hp := noPre s h1 (by omega)
  go_enter Tryz.func47, Tryz.ntmps47
  go_wp2_with (first | (go_at_call 84; refine (Tryz.strings_IndexByte _ _ _).mono ?_; rintro e w' ⟨rfl, rfl⟩; rw [show (⟨#[62, 59, 123, 125, 124, 94, 36, 46, 91, 93, 45, 61, 58]⟩ : ByteArray).data.toList = sgnL from rfl, hi]) | (go_at_call 88; refine (Tryz.strings_HasPrefix _ _ _).mono ?_; rintro e w' ⟨rfl, rfl⟩; rw [show (⟨#[91, 58]⟩ : ByteArray).data.toList = [91, 58] from rfl, hp]))
  refine (HV.out _).mono ?_
  rintro e w2 ⟨rfl, hb2⟩
  have HT2 := (TB.new w 0 0 0 0 ⟨#[]⟩ 0).below hb2 (by simp)
  have HB2 : Below w.heap.size w w2 := ((Below.refl _ w).alloc (Nat.le_refl _) _).trans (hb2.mono (by simp))
  obtain ⟨c0, c1, c2, c3, c4, c5⟩ := HT2.cells
  obtain ⟨f0, f1, f2, f3, f4, f5⟩ := HT2.frozen
  clear hb2
  go_wp2
  exact ret_tk rfl rfl rfl (HT2.set k a l u t n) ⟨rfl, below_set6 HB2 (Nat.le_refl _) _ _ _ _ _ _⟩
set_option maxHeartbeats 1000000 in
theorem first_esc (s : ByteArray) (fresh : Bool) (k a l u : Int) (t : ByteArray) (n e0 : Int) (h1 : 0 < s.size) (hc : s[0].toNat = 92) (hv : Tells 91 #[.string s] k a l u t n e0) : Tells 47 #[.string s, .bool fresh] k a l u t n e0 := by
  intro w
  have HV : Hid (Tells 91 #[.string s] k a l u t n e0) := hv
  clear hv
  have h1i : (1 : Int) ≤ (s.size : Int) := by omega
  have hi : Lib.indexByte sgnL (Int.toNat (92 : Int)).toUInt8 = -1 := by decide +kernel
  have hp := noPre s h1 (by omega)
  go_enter Tryz.func47, Tryz.ntmps47
  go_wp2_with (first | (go_at_call 84; refine (Tryz.strings_IndexByte _ _ _).mono ?_; rintro e w' ⟨rfl, rfl⟩; rw [show (⟨#[62, 59, 123, 125, 124, 94, 36, 46, 91, 93, 45, 61, 58]⟩ : ByteArray).data.toList = sgnL from rfl, hi]) | (go_at_call 88; refine (Tryz.strings_HasPrefix _ _ _).mono ?_; rintro e w' ⟨rfl, rfl⟩; rw [show (⟨#[91, 58]⟩ : ByteArray).data.toList = [91, 58] from rfl, hp]))
  refine (HV.out _).mono ?_
  rintro e w2 ⟨rfl, hb2⟩
  have HT2 := (TB.new w 0 0 0 0 ⟨#[]⟩ 0).below hb2 (by simp)
  have HB2 : Below w.heap.size w w2 := ((Below.refl _ w).alloc (Nat.le_refl _) _).trans (hb2.mono (by simp))
  obtain ⟨c0, c1, c2, c3, c4, c5⟩ := HT2.cells
  obtain ⟨f0, f1, f2, f3, f4, f5⟩ := HT2.frozen
  clear hb2
  go_wp2
  exact ret_tk rfl rfl rfl (HT2.set k a l u t n) ⟨rfl, below_set6 HB2 (Nat.le_refl _) _ _ _ _ _ _⟩
end Go.Proofs
