/-
  Several texts in one (Khr Kir).
-/
import Derived.Shelf.Abstract
import Derived.Shelf.RegionOpen
import Derived.WalkKit
import Derived.WalkSpells
import Derived.WalkLawsBesides
import Derived.BigQuiet
import Derived.Deep.QuietTactic
import Derived.Deep.LoopGhost
import Derived.Lib.OthersKept
import Derived.WalkMore
import Derived.Lib.ParseIntB
import Derived.Test.YtknaoahokopplaaGreatDoorKdr
namespace Go.Proofs
open Go.RowKit Go.Shelf

set_option maxRecDepth 100000
attribute [local go_sem] Oper.semAt_some

set_option maxHeartbeats 2000000 in
theorem rtok_varbad (s : ByteArray) (p n : Nat) (first : Bool) (hs : s.size ≤ 1000000) (hp : p < s.size) (hc : s[p].toNat = 36) (hn : spanN isNm (s.data.toList.drop (p + 1)) = n) (h32 : 32 < n) : Tells 45 #[.string s, .int .i64 p, .bool first] 0 0 0 0 ⟨#[]⟩ 0 42 := by
  intro w
  obtain ⟨z, hz⟩ : ∃ z, s.size = z := ⟨_, rfl⟩
  have hpI : (p : Int) ≤ 1000000 := by omega
  have hp0 : (0 : Int) ≤ (p : Int) := by omega
  have hlt : (p : Int) < (z : Int) := by omega
  have HN : Hid (∀ w, Calls Tryz.prog 77 #[.string s, .int .i64 ((p : Int) + 1)] w fun e w' => e = .returned (.int .i64 n) ∧ w' = w) := fun w => by
    have := rname_any s (p + 1) w (by omega) (by omega)
    rw [hn] at this
    simpa using this
  have h32' : (32 : Int) < (n : Int) := by omega
  clear hn
  go_enter Tryz.func45, Tryz.ntmps45
  go_wp2_with (go_at_call 77; refine (HN.out _).mono ?_; rintro e w1 ⟨rfl, rfl⟩)
  exact bodyPost_ret (v := .tuple #[tk0, .int .i64 42]) (by simp [results, Tryz.f45, go_sem]) rfl ⟨rfl, (Below.refl _ _).alloc (Nat.le_refl _) _⟩
set_option maxHeartbeats 2000000 in
theorem rtok_var (s : ByteArray) (p n : Nat) (first : Bool) (hs : s.size ≤ 1000000) (hp : p < s.size) (hc : s[p].toNat = 36) (hn : spanN isNm (s.data.toList.drop (p + 1)) = n) (h0 : 0 < n) (h32 : n ≤ 32) : Tells 45 #[.string s, .int .i64 p, .bool first] 2 p (n + 1) 0 (s.extract p (p + 1 + n)) 0 0 := by
  intro w
  have hle : p + 1 + n ≤ s.size := by
    have := spanN_le isNm (s.data.toList.drop (p + 1))
    simp at this
    omega
  obtain ⟨z, hz⟩ : ∃ z, s.size = z := ⟨_, rfl⟩
  have hpI : (p : Int) ≤ 1000000 := by omega
  have hp0 : (0 : Int) ≤ (p : Int) := by omega
  have hlt : (p : Int) < (z : Int) := by omega
  have HN : Hid (∀ w, Calls Tryz.prog 77 #[.string s, .int .i64 ((p : Int) + 1)] w fun e w' => e = .returned (.int .i64 n) ∧ w' = w) := fun w => by
    have := rname_any s (p + 1) w (by omega) (by omega)
    rw [hn] at this
    simpa using this
  have h32' : (n : Int) ≤ 32 := by omega
  have h0' : (0 : Int) < (n : Int) := by omega
  have hle' : (p : Int) + 1 + (n : Int) ≤ (z : Int) := by omega
  clear hn
  go_enter Tryz.func45, Tryz.ntmps45
  go_wp2_with (go_at_call 77; refine (HN.out _).mono ?_; rintro e w1 ⟨rfl, rfl⟩)
  exact bodyPost_ret (v := .tuple #[tk 2 p (n + 1) 0 (s.extract p (p + 1 + n)) 0, .int .i64 0]) (by simp [results, Tryz.f45, go_sem]) rfl ⟨rfl, (Below.refl _ _).alloc (Nat.le_refl _) _⟩
set_option maxHeartbeats 2000000 in
theorem rtok_class (s : ByteArray) (p : Nat) (first : Bool) (hs : s.size ≤ 1000000) (hp : p < s.size) (hc : s[p].toNat ≠ 36) (hb : Lib.hasPrefix (s.data.toList.drop p) [91, 58] = true) (k a l u : Int) (t : ByteArray) (n e0 : Int) (hv : Tells 79 #[.string s, .int .i64 p] k a l u t n e0) : Tells 45 #[.string s, .int .i64 p, .bool first] k a l u t n e0 := by
  intro w
  obtain ⟨z, hz⟩ : ∃ z, s.size = z := ⟨_, rfl⟩
  have hpI : (p : Int) ≤ 1000000 := by omega
  have hp0 : (0 : Int) ≤ (p : Int) := by omega
  have hlt : (p : Int) < (z : Int) := by omega
  have h36 : ((s[p].toNat : Int) == 36) = false := by simp only [beq_eq_false_iff_ne, ne_eq]; omega
  have HB : Hid (∀ w, Calls Tryz.prog 78 #[.string s, .int .i64 p, .string ⟨#[91, 58]⟩] w fun e w' => e = .returned (.bool true) ∧ w' = w) := fun w => by
    have := rbegins_any s ⟨#[91, 58]⟩ p w (by omega) (by omega) (by decide)
    simp only [hb] at this
    exact this
  clear hc
  have HV : Hid (Tells 79 #[.string s, .int .i64 p] k a l u t n e0) := hv
  clear hv
  go_enter Tryz.func45, Tryz.ntmps45
  go_wp2_with (first | (go_at_call 78; refine (HB.out _).mono ?_; rintro e w1 ⟨rfl, rfl⟩) | fail)
  refine (HV.out _).mono ?_
  rintro e w1 ⟨rfl, hb1⟩
  have HT := (TB.new w 0 0 0 0 ⟨#[]⟩ 0).below hb1 (by simp)
  have HB1 : Hid (Below w.heap.size w w1) := ((Below.refl _ w).alloc (Nat.le_refl _) _).trans (hb1.mono (by simp))
  obtain ⟨c0, c1, c2, c3, c4, c5⟩ := HT.cells
  obtain ⟨f0, f1, f2, f3, f4, f5⟩ := HT.frozen
  clear hb1
  go_wp2
  exact ret_tk rfl rfl rfl (HT.set k a l u t n) ⟨rfl, below_set6 HB1.out (Nat.le_refl _) _ _ _ _ _ _⟩
set_option maxHeartbeats 2000000 in
theorem rtok_copy (s : ByteArray) (p : Nat) (first : Bool) (hs : s.size ≤ 1000000) (hp : p < s.size) (hc : s[p].toNat = 64) (hb : Lib.hasPrefix (s.data.toList.drop p) [91, 58] = false) (hi : Lib.indexByte sgnL s[p] = -1) (k a l u : Int) (t : ByteArray) (n e0 : Int) (hv : Tells 81 #[.string s, .int .i64 p] k a l u t n e0) : Tells 45 #[.string s, .int .i64 p, .bool first] k a l u t n e0 := by
  intro w
  obtain ⟨z, hz⟩ : ∃ z, s.size = z := ⟨_, rfl⟩
  have hpI : (p : Int) ≤ 1000000 := by omega
  have hp0 : (0 : Int) ≤ (p : Int) := by omega
  have hlt : (p : Int) < (z : Int) := by omega
  have h36 : ((s[p].toNat : Int) == 36) = false := by simp [hc]
  have h64 : ((s[p].toNat : Int) == 64) = true := by simp [hc]
  have HB : Hid (∀ w, Calls Tryz.prog 78 #[.string s, .int .i64 p, .string ⟨#[91, 58]⟩] w fun e w' => e = .returned (.bool false) ∧ w' = w) := fun w => by
    have := rbegins_any s ⟨#[91, 58]⟩ p w (by omega) (by omega) (by decide)
    simp only [hb] at this
    exact this
  have HI : Hid (∀ w, Calls Tryz.prog 80 #[.int .u8 s[p].toNat, .string ⟨#[62, 59, 123, 125, 124, 94, 36, 46, 91, 93, 45, 61, 58]⟩] w fun e w' => e = .returned (.int .i64 (-1)) ∧ w' = w) := fun w => by
    have := rin_any s[p] ⟨#[62, 59, 123, 125, 124, 94, 36, 46, 91, 93, 45, 61, 58]⟩ w (by decide)
    rw [show (⟨#[62, 59, 123, 125, 124, 94, 36, 46, 91, 93, 45, 61, 58]⟩ : ByteArray).data.toList = sgnL from rfl, hi] at this
    exact this
  clear hc hi
  have HV : Hid (Tells 81 #[.string s, .int .i64 p] k a l u t n e0) := hv
  clear hv
  go_enter Tryz.func45, Tryz.ntmps45
  go_wp2_with (first | (go_at_call 78; refine (HB.out _).mono ?_; rintro e w1 ⟨rfl, rfl⟩)| (go_at_call 80; refine (HI.out _).mono ?_; rintro e w1 ⟨rfl, rfl⟩) | fail)
  refine (HV.out _).mono ?_
  rintro e w1 ⟨rfl, hb1⟩
  have HT := (TB.new w 0 0 0 0 ⟨#[]⟩ 0).below hb1 (by simp)
  have HB1 : Hid (Below w.heap.size w w1) := ((Below.refl _ w).alloc (Nat.le_refl _) _).trans (hb1.mono (by simp))
  obtain ⟨c0, c1, c2, c3, c4, c5⟩ := HT.cells
  obtain ⟨f0, f1, f2, f3, f4, f5⟩ := HT.frozen
  clear hb1
  go_wp2
  exact ret_tk rfl rfl rfl (HT.set k a l u t n) ⟨rfl, below_set6 HB1.out (Nat.le_refl _) _ _ _ _ _ _⟩
set_option maxHeartbeats 2000000 in
theorem rtok_esc (s : ByteArray) (p : Nat) (first : Bool) (hs : s.size ≤ 1000000) (hp : p < s.size) (hc : s[p].toNat = 92) (hb : Lib.hasPrefix (s.data.toList.drop p) [91, 58] = false) (hi : Lib.indexByte sgnL s[p] = -1) (k a l u : Int) (t : ByteArray) (n e0 : Int) (hv : Tells 82 #[.string s, .int .i64 p] k a l u t n e0) : Tells 45 #[.string s, .int .i64 p, .bool first] k a l u t n e0 := by
  intro w
  obtain ⟨z, hz⟩ : ∃ z, s.size = z := ⟨_, rfl⟩
  have hpI : (p : Int) ≤ 1000000 := by omega
  have hp0 : (0 : Int) ≤ (p : Int) := by omega
  have hlt : (p : Int) < (z : Int) := by omega
  have h36 : ((s[p].toNat : Int) == 36) = false := by simp [hc]
  have h64 : ((s[p].toNat : Int) == 64) = false := by simp [hc]
  have h92 : ((s[p].toNat : Int) == 92) = true := by simp [hc]
  have HB : Hid (∀ w, Calls Tryz.prog 78 #[.string s, .int .i64 p, .string ⟨#[91, 58]⟩] w fun e w' => e = .returned (.bool false) ∧ w' = w) := fun w => by
    have := rbegins_any s ⟨#[91, 58]⟩ p w (by omega) (by omega) (by decide)
    simp only [hb] at this
    exact this
  have HI : Hid (∀ w, Calls Tryz.prog 80 #[.int .u8 s[p].toNat, .string ⟨#[62, 59, 123, 125, 124, 94, 36, 46, 91, 93, 45, 61, 58]⟩] w fun e w' => e = .returned (.int .i64 (-1)) ∧ w' = w) := fun w => by
    have := rin_any s[p] ⟨#[62, 59, 123, 125, 124, 94, 36, 46, 91, 93, 45, 61, 58]⟩ w (by decide)
    rw [show (⟨#[62, 59, 123, 125, 124, 94, 36, 46, 91, 93, 45, 61, 58]⟩ : ByteArray).data.toList = sgnL from rfl, hi] at this
    exact this
  clear hc hi
  have HV : Hid (Tells 82 #[.string s, .int .i64 p] k a l u t n e0) := hv
  clear hv
  go_enter Tryz.func45, Tryz.ntmps45
  go_wp2_with (first | (go_at_call 78; refine (HB.out _).mono ?_; rintro e w1 ⟨rfl, rfl⟩)| (go_at_call 80; refine (HI.out _).mono ?_; rintro e w1 ⟨rfl, rfl⟩) | fail)
  refine (HV.out _).mono ?_
  rintro e w1 ⟨rfl, hb1⟩
  have HT := (TB.new w 0 0 0 0 ⟨#[]⟩ 0).below hb1 (by simp)
  have HB1 : Hid (Below w.heap.size w w1) := ((Below.refl _ w).alloc (Nat.le_refl _) _).trans (hb1.mono (by simp))
  obtain ⟨c0, c1, c2, c3, c4, c5⟩ := HT.cells
  obtain ⟨f0, f1, f2, f3, f4, f5⟩ := HT.frozen
  clear hb1
  go_wp2
  exact ret_tk rfl rfl rfl (HT.set k a l u t n) ⟨rfl, below_set6 HB1.out (Nat.le_refl _) _ _ _ _ _ _⟩
end Go.Proofs
namespace Go.Proofs
open Go.RowKit Go.Shelf

set_option maxRecDepth 100000
attribute [local go_sem] Oper.semAt_some

set_option maxHeartbeats 2000000 in
theorem rtok_sign (s : ByteArray) (p i : Nat) (first : Bool) (hs : s.size ≤ 1000000) (hp : p < s.size) (hc : s[p].toNat ≠ 36) (hb : Lib.hasPrefix (s.data.toList.drop p) [91, 58] = false) (hi : Lib.indexByte sgnL s[p] = (i : Int)) (hi13 : i < 13) : Tells 45 #[.string s, .int .i64 p, .bool first] (10 + i) p 1 0 ⟨#[]⟩ 0 0 := by
  intro w
  obtain ⟨z, hz⟩ : ∃ z, s.size = z := ⟨_, rfl⟩
  have hpI : (p : Int) ≤ 1000000 := by omega
  have hp0 : (0 : Int) ≤ (p : Int) := by omega
  have hlt : (p : Int) < (z : Int) := by omega
  have h36 : ((s[p].toNat : Int) == 36) = false := by simp only [beq_eq_false_iff_ne, ne_eq]; omega
  have HB : Hid (∀ w, Calls Tryz.prog 78 #[.string s, .int .i64 p, .string ⟨#[91, 58]⟩] w fun e w' => e = .returned (.bool false) ∧ w' = w) := fun w => by
    have := rbegins_any s ⟨#[91, 58]⟩ p w (by omega) (by omega) (by decide)
    simp only [hb] at this
    exact this
  have HI : Hid (∀ w, Calls Tryz.prog 80 #[.int .u8 s[p].toNat, .string ⟨#[62, 59, 123, 125, 124, 94, 36, 46, 91, 93, 45, 61, 58]⟩] w fun e w' => e = .returned (.int .i64 i) ∧ w' = w) := fun w => by
    have := rin_any s[p] ⟨#[62, 59, 123, 125, 124, 94, 36, 46, 91, 93, 45, 61, 58]⟩ w (by decide)
    rw [show (⟨#[62, 59, 123, 125, 124, 94, 36, 46, 91, 93, 45, 61, 58]⟩ : ByteArray).data.toList = sgnL from rfl, hi] at this
    exact this
  have hiI : (i : Int) ≤ 13 := by omega
  have hi0 : (0 : Int) ≤ (i : Int) := by omega
  clear hc hi
  go_enter Tryz.func45, Tryz.ntmps45
  go_wp2_with (first | (go_at_call 78; refine (HB.out _).mono ?_; rintro e w1 ⟨rfl, rfl⟩) | (go_at_call 80; refine (HI.out _).mono ?_; rintro e w1 ⟨rfl, rfl⟩))
  exact bodyPost_ret (v := .tuple #[tk (10 + i) p 1 0 ⟨#[]⟩ 0, .int .i64 0]) (by simp [results, Tryz.f45, go_sem]) rfl ⟨rfl, (Below.refl _ _).alloc (Nat.le_refl _) _⟩
set_option maxHeartbeats 2000000 in
theorem rtok_sign36 (s : ByteArray) (p : Nat) (first : Bool) (hs : s.size ≤ 1000000) (hp : p < s.size) (hc : s[p].toNat = 36) (hn : spanN isNm (s.data.toList.drop (p + 1)) = 0) (hb : Lib.hasPrefix (s.data.toList.drop p) [91, 58] = false) (hi : Lib.indexByte sgnL s[p] = 6) : Tells 45 #[.string s, .int .i64 p, .bool first] 16 p 1 0 ⟨#[]⟩ 0 0 := by
  intro w
  obtain ⟨n, hn0⟩ : ∃ n : Nat, n = 0 := ⟨_, rfl⟩
  rw [← hn0] at hn
  obtain ⟨z, hz⟩ : ∃ z, s.size = z := ⟨_, rfl⟩
  have hpI : (p : Int) ≤ 1000000 := by omega
  have hp0 : (0 : Int) ≤ (p : Int) := by omega
  have hlt : (p : Int) < (z : Int) := by omega
  have HN : Hid (∀ w, Calls Tryz.prog 77 #[.string s, .int .i64 ((p : Int) + 1)] w fun e w' => e = .returned (.int .i64 n) ∧ w' = w) := fun w => by
    have := rname_any s (p + 1) w (by omega) (by omega)
    rw [hn] at this
    simpa using this
  have HB : Hid (∀ w, Calls Tryz.prog 78 #[.string s, .int .i64 p, .string ⟨#[91, 58]⟩] w fun e w' => e = .returned (.bool false) ∧ w' = w) := fun w => by
    have := rbegins_any s ⟨#[91, 58]⟩ p w (by omega) (by omega) (by decide)
    simp only [hb] at this
    exact this
  have HI : Hid (∀ w, Calls Tryz.prog 80 #[.int .u8 s[p].toNat, .string ⟨#[62, 59, 123, 125, 124, 94, 36, 46, 91, 93, 45, 61, 58]⟩] w fun e w' => e = .returned (.int .i64 6) ∧ w' = w) := fun w => by
    have := rin_any s[p] ⟨#[62, 59, 123, 125, 124, 94, 36, 46, 91, 93, 45, 61, 58]⟩ w (by decide)
    rw [show (⟨#[62, 59, 123, 125, 124, 94, 36, 46, 91, 93, 45, 61, 58]⟩ : ByteArray).data.toList = sgnL from rfl, hi] at this
    exact this
  have h36 : ((s[p].toNat : Int) == 36) = true := by simp [hc]
  subst hn0
  clear hc hi hn
  go_enter Tryz.func45, Tryz.ntmps45
  go_wp2_with (first | (go_at_call 77; refine (HN.out _).mono ?_; rintro e w1 ⟨rfl, rfl⟩) | (go_at_call 78; refine (HB.out _).mono ?_; rintro e w1 ⟨rfl, rfl⟩) | (go_at_call 80; refine (HI.out _).mono ?_; rintro e w1 ⟨rfl, rfl⟩))
  exact bodyPost_ret (v := .tuple #[tk 16 p 1 0 ⟨#[]⟩ 0, .int .i64 0]) (by simp [results, Tryz.f45, go_sem]) rfl ⟨rfl, (Below.refl _ _).alloc (Nat.le_refl _) _⟩
set_option maxHeartbeats 2000000 in
theorem rtok_then (s : ByteArray) (p q : Nat) (hs : s.size ≤ 1000000) (hp : p < s.size) (hc : s[p].toNat ≠ 36 ∧ s[p].toNat ≠ 64 ∧ s[p].toNat ≠ 92) (hb : Lib.hasPrefix (s.data.toList.drop p) [91, 58] = false) (hi : Lib.indexByte sgnL s[p] = -1) (ht : Lib.hasPrefix (s.data.toList.drop p) [116, 104, 101, 110] = true) (h4 : p + 4 ≤ s.size) (hq : p + 4 + pastN false (s.data.toList.drop (p + 4)) = q) (he : Lib.hasPrefix (s.data.toList.drop q) [59] = true) : Tells 45 #[.string s, .int .i64 p, .bool true] 2 p 4 0 ⟨#[116, 104, 101, 110]⟩ 0 0 := by
  intro w
  have hqz : q ≤ s.size := by
    have := pastN_le false (s.data.toList.drop (p + 4))
    simp at this
    omega
  obtain ⟨z, hz⟩ : ∃ z, s.size = z := ⟨_, rfl⟩
  have hpI : (p : Int) ≤ 1000000 := by omega
  have hp0 : (0 : Int) ≤ (p : Int) := by omega
  have hlt : (p : Int) < (z : Int) := by omega
  have h36 : ((s[p].toNat : Int) == 36) = false := by simp only [beq_eq_false_iff_ne, ne_eq]; omega
  have h64 : ((s[p].toNat : Int) == 64) = false := by simp only [beq_eq_false_iff_ne, ne_eq]; omega
  have h92 : ((s[p].toNat : Int) == 92) = false := by simp only [beq_eq_false_iff_ne, ne_eq]; omega
  have HB : Hid (∀ w, Calls Tryz.prog 78 #[.string s, .int .i64 p, .string ⟨#[91, 58]⟩] w fun e w' => e = .returned (.bool false) ∧ w' = w) := fun w => by
    have := rbegins_any s ⟨#[91, 58]⟩ p w (by omega) (by omega) (by decide)
    simp only [hb] at this
    exact this
  have HI : Hid (∀ w, Calls Tryz.prog 80 #[.int .u8 s[p].toNat, .string ⟨#[62, 59, 123, 125, 124, 94, 36, 46, 91, 93, 45, 61, 58]⟩] w fun e w' => e = .returned (.int .i64 (-1)) ∧ w' = w) := fun w => by
    have := rin_any s[p] ⟨#[62, 59, 123, 125, 124, 94, 36, 46, 91, 93, 45, 61, 58]⟩ w (by decide)
    rw [show (⟨#[62, 59, 123, 125, 124, 94, 36, 46, 91, 93, 45, 61, 58]⟩ : ByteArray).data.toList = sgnL from rfl, hi] at this
    exact this
  have HT : Hid (∀ w, Calls Tryz.prog 78 #[.string s, .int .i64 p, .string ⟨#[116, 104, 101, 110]⟩] w fun e w' => e = .returned (.bool true) ∧ w' = w) := fun w => by
    have := rbegins_any s ⟨#[116, 104, 101, 110]⟩ p w (by omega) (by omega) (by decide)
    simp only [ht] at this
    exact this
  have HO : Hid (∀ w, Calls Tryz.prog 44 #[.string s, .int .i64 ((p : Int) + 4)] w fun e w' => e = .returned (.int .i64 q) ∧ w' = w) := fun w => by
    have := rover_any s (p + 4) w (by unfold maxLen; omega) h4
    rw [hq] at this
    simpa using this
  have HE : Hid (∀ w, Calls Tryz.prog 78 #[.string s, .int .i64 q, .string ⟨#[59]⟩] w fun e w' => e = .returned (.bool true) ∧ w' = w) := fun w => by
    have := rbegins_any s ⟨#[59]⟩ q w (by omega) hqz (by decide)
    simp only [he] at this
    exact this
  clear hc hi hq
  go_enter Tryz.func45, Tryz.ntmps45
  go_wp2_with fail
  refine (HB.out _).mono ?_
  rintro e w1 ⟨rfl, rfl⟩
  go_wp2_with fail
  refine (HI.out _).mono ?_
  rintro e w2 ⟨rfl, rfl⟩
  go_wp2_with fail
  refine (HT.out _).mono ?_
  rintro e w3 ⟨rfl, rfl⟩
  go_wp2_with fail
  refine (HO.out _).mono ?_
  rintro e w4 ⟨rfl, rfl⟩
  go_wp2_with fail
  refine (HE.out _).mono ?_
  rintro e w5 ⟨rfl, rfl⟩
  go_wp2
  exact bodyPost_ret (v := .tuple #[tk 2 p 4 0 ⟨#[116, 104, 101, 110]⟩ 0, .int .i64 0]) (by simp [results, Tryz.f45, go_sem]) rfl ⟨rfl, (Below.refl _ _).alloc (Nat.le_refl _) _⟩
end Go.Proofs
