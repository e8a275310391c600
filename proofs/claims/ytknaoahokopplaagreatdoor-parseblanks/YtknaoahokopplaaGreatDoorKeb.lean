/-
  The document's scanner: escapes.
-/
import Derived.Shelf.Abstract
import Derived.Shelf.RegionOpen
import Derived.WalkKit
import Derived.WalkSpells
import Derived.WalkLawsBesides
import Derived.BigQuiet
import Derived.Deep.QuietTactic
import Derived.Deep.LoopGhost
import Derived.Lib.OthersKept
import Derived.WalkMore
import Derived.Lib.ParseIntB
import Derived.Test.YtknaoahokopplaaGreatDoorKdb
namespace Go.Proofs
open Go.RowKit Go.Shelf

set_option maxRecDepth 100000
attribute [local go_sem] Oper.semAt_some

theorem dg16_nat (c : UInt8) (h : isHx c = true) : dg16 c = ((dg16 c).toNat : Int) ∧ (dg16 c).toNat ≤ 15 := by
  simp only [isHx, isDg, Bool.or_eq_true, Bool.and_eq_true, decide_eq_true_eq] at h
  unfold dg16
  simp only [isDg, Bool.and_eq_true, decide_eq_true_eq]
  split
  · omega
  · split
    · omega
    · split <;> omega
theorem dg16_no (c : UInt8) (h : isHx c = false) : dg16 c = -1 := by
  cases hd : isDg c
  · simp only [isHx, hd, Bool.false_or, Bool.or_eq_false_iff] at h
    simp [dg16, hd, h.1, h.2]
  · simp [isHx, hd] at h
/-- what digits to the base 16 count -/
def val16 : Nat → List UInt8 → Nat
  | a, [] => a
  | a, c :: l => val16 (a * 16 + (dg16 c).toNat) l
theorem val16_snoc (a : Nat) (l : List UInt8) (c : UInt8) : val16 a (l ++ [c]) = val16 a l * 16 + (dg16 c).toNat := by
  induction l generalizing a with
  | nil => rfl
  | cons b l ih => exact ih _
set_option maxHeartbeats 1000000 in
theorem resc_end (s : ByteArray) (p : Nat) (hs : s.size ≤ 1000000) (hp : p + 1 = s.size) : Tells 82 #[.string s, .int .i64 p] 0 0 0 0 ⟨#[]⟩ 0 44 := by
  intro w
  obtain ⟨z, hz⟩ : ∃ z, s.size = z := ⟨_, rfl⟩
  have hpI : (p : Int) ≤ 1000000 := by omega
  have hp0 : (0 : Int) ≤ (p : Int) := by omega
  have he : (p : Int) + 1 = (z : Int) := by omega
  go_enter Tryz.func82, Tryz.ntmps82
  go_wp2
  exact bodyPost_ret (v := .tuple #[tk0, .int .i64 44]) (by simp [results, Tryz.f82, go_sem]) rfl ⟨rfl, (Below.refl _ _).alloc (Nat.le_refl _) _⟩
set_option maxHeartbeats 2000000 in
theorem resc_plain (s : ByteArray) (p : Nat) (hs : s.size ≤ 1000000) (hp : p + 1 < s.size) (hx : s[p + 1].toNat ≠ 120) (hb : s[p + 1].toNat ≠ 98) :
    if s[p + 1].toNat < 32 ∨ 126 < s[p + 1].toNat ∨ (s[p + 1].toNat ≠ 95 ∧ isNm s[p + 1] = true) then Tells 82 #[.string s, .int .i64 p] 0 0 0 0 ⟨#[]⟩ 0 41 else Tells 82 #[.string s, .int .i64 p] 1 p 2 s[p + 1].toNat ⟨#[]⟩ 0 0 := by
  obtain ⟨z, hz⟩ : ∃ z, s.size = z := ⟨_, rfl⟩
  have hpI : (p : Int) ≤ 1000000 := by omega
  have hp0 : (0 : Int) ≤ (p : Int) := by omega
  have hlt : (p : Int) + 1 < (z : Int) := by omega
  have hne : ((p : Int) + 1 == (z : Int)) = false := by simp; omega
  have hx' : ((s[p + 1].toNat : Int) == 120) = false := by simp only [beq_eq_false_iff_ne, ne_eq]; omega
  have hx2 : ((s[p + 1].toNat : Int) != 120) = true := by simp only [bne_iff_ne, ne_eq]; omega
  have hb2 : ((s[p + 1].toNat : Int) != 98) = true := by simp only [bne_iff_ne, ne_eq]; omega
  by_cases h32 : s[p + 1].toNat < 32
  · rw [if_pos (.inl h32)]
    intro w
    have h32' : (s[p + 1].toNat : Int) < 32 := by omega
    go_enter Tryz.func82, Tryz.ntmps82
    go_wp2
    exact bodyPost_ret (v := .tuple #[tk0, .int .i64 41]) (by simp [results, Tryz.f82, go_sem]) rfl ⟨rfl, (Below.refl _ _).alloc (Nat.le_refl _) _⟩
  have h32' : (32 : Int) ≤ (s[p + 1].toNat : Int) := by omega
  by_cases h126 : 126 < s[p + 1].toNat
  · rw [if_pos (.inr (.inl h126))]
    intro w
    have h126' : (126 : Int) < (s[p + 1].toNat : Int) := by omega
    go_enter Tryz.func82, Tryz.ntmps82
    go_wp2
    exact bodyPost_ret (v := .tuple #[tk0, .int .i64 41]) (by simp [results, Tryz.f82, go_sem]) rfl ⟨rfl, (Below.refl _ _).alloc (Nat.le_refl _) _⟩
  have h126' : (s[p + 1].toNat : Int) ≤ 126 := by omega
  by_cases h95 : s[p + 1].toNat = 95
  · rw [if_neg (by omega)]
    intro w
    have h95' : ((s[p + 1].toNat : Int) != 95) = false := by simp [h95]
    go_enter Tryz.func82, Tryz.ntmps82
    go_wp2
    exact bodyPost_ret (v := .tuple #[tk 1 p 2 s[p + 1].toNat ⟨#[]⟩ 0, .int .i64 0]) (by simp [results, Tryz.f82, go_sem, h95]) rfl ⟨rfl, (Below.refl _ _).alloc (Nat.le_refl _) _⟩
  have h95' : ((s[p + 1].toNat : Int) != 95) = true := by simp only [bne_iff_ne, ne_eq]; omega
  cases hnm : isNm s[p + 1]
  · rw [if_neg (by simp; omega)]
    intro w
    go_enter Tryz.func82, Tryz.ntmps82
    go_wp2_with (go_at_call 123; refine (rnamed_any _ _).mono ?_; rintro e w1 ⟨rfl, rfl⟩; rw [hnm])
    exact bodyPost_ret (v := .tuple #[tk 1 p 2 s[p + 1].toNat ⟨#[]⟩ 0, .int .i64 0]) (by simp [results, Tryz.f82, go_sem]) rfl ⟨rfl, (Below.refl _ _).alloc (Nat.le_refl _) _⟩
  · rw [if_pos (.inr (.inr ⟨h95, rfl⟩))]
    intro w
    go_enter Tryz.func82, Tryz.ntmps82
    go_wp2_with (go_at_call 123; refine (rnamed_any _ _).mono ?_; rintro e w1 ⟨rfl, rfl⟩; rw [hnm])
    exact bodyPost_ret (v := .tuple #[tk0, .int .i64 41]) (by simp [results, Tryz.f82, go_sem]) rfl ⟨rfl, (Below.refl _ _).alloc (Nat.le_refl _) _⟩
set_option maxHeartbeats 2000000 in
theorem resc_xend (s : ByteArray) (p : Nat) (hs : s.size ≤ 1000000) (hp : p + 1 < s.size) (hc : s[p + 1].toNat = 120) (h2 : p + 2 = s.size) : Tells 82 #[.string s, .int .i64 p] 0 0 0 0 ⟨#[]⟩ 0 44 := by
  obtain ⟨z, hz⟩ : ∃ z, s.size = z := ⟨_, rfl⟩
  have hpI : (p : Int) ≤ 1000000 := by omega
  have hp0 : (0 : Int) ≤ (p : Int) := by omega
  have hlt : (p : Int) + 1 < (z : Int) := by omega
  have hne : ((p : Int) + 1 == (z : Int)) = false := by simp; omega
  have he : (p : Int) + 2 = (z : Int) := by omega
  intro w
  go_enter Tryz.func82, Tryz.ntmps82
  go_wp2
  exact bodyPost_ret (v := .tuple #[tk0, .int .i64 44]) (by simp [results, Tryz.f82, go_sem]) rfl ⟨rfl, (Below.refl _ _).alloc (Nat.le_refl _) _⟩
set_option maxHeartbeats 2000000 in
theorem resc_xno (s : ByteArray) (p : Nat) (hs : s.size ≤ 1000000) (hp : p + 2 < s.size) (hc : s[p + 1].toNat = 120) (h2 : s[p + 2].toNat ≠ 123) : Tells 82 #[.string s, .int .i64 p] 0 0 0 0 ⟨#[]⟩ 0 41 := by
  obtain ⟨z, hz⟩ : ∃ z, s.size = z := ⟨_, rfl⟩
  have hpI : (p : Int) ≤ 1000000 := by omega
  have hp0 : (0 : Int) ≤ (p : Int) := by omega
  have hlt : (p : Int) + 1 < (z : Int) := by omega
  have hne : ((p : Int) + 1 == (z : Int)) = false := by simp; omega
  have he : ((p : Int) + 2 == (z : Int)) = false := by simp; omega
  have hlt2 : (p : Int) + 2 < (z : Int) := by omega
  have h2' : ((s[p + 2].toNat : Int) == 123) = false := by simp only [beq_eq_false_iff_ne, ne_eq]; omega
  have h2b : ((s[p + 2].toNat : Int) != 123) = true := by simp only [bne_iff_ne, ne_eq]; omega
  intro w
  go_enter Tryz.func82, Tryz.ntmps82
  go_wp2
  go_loopw [8, 9] (fun vn vu wr => vn = .int .i64 0 ∧ vu = .int .i64 0 ∧ wr = w.alloc (.cells #[.int .i64 0, .int .i64 0, .int .i64 0, .int .i64 0, .string ⟨#[]⟩, .int .i64 0] 52)) (fun _ _ _ => 0)
  case atStart => exact ⟨rfl, rfl, rfl⟩
  case round =>
    obtain ⟨rfl, rfl, rfl⟩ := hrel
    go_wp2
    exact bodyPost_ret (v := .tuple #[tk0, .int .i64 41]) (by simp [results, Tryz.f82, go_sem]) rfl ⟨rfl, (Below.refl _ _).alloc (Nat.le_refl _) _⟩
set_option maxHeartbeats 2000000 in
theorem resc_bend (s : ByteArray) (p : Nat) (hs : s.size ≤ 1000000) (hp : p + 1 < s.size) (hc : s[p + 1].toNat = 98) (h2 : p + 2 = s.size) : Tells 82 #[.string s, .int .i64 p] 0 0 0 0 ⟨#[]⟩ 0 44 := by
  obtain ⟨z, hz⟩ : ∃ z, s.size = z := ⟨_, rfl⟩
  have hpI : (p : Int) ≤ 1000000 := by omega
  have hp0 : (0 : Int) ≤ (p : Int) := by omega
  have hlt : (p : Int) + 1 < (z : Int) := by omega
  have hne : ((p : Int) + 1 == (z : Int)) = false := by simp; omega
  have he : (p : Int) + 2 = (z : Int) := by omega
  intro w
  go_enter Tryz.func82, Tryz.ntmps82
  go_wp2
  exact bodyPost_ret (v := .tuple #[tk0, .int .i64 44]) (by simp [results, Tryz.f82, go_sem]) rfl ⟨rfl, (Below.refl _ _).alloc (Nat.le_refl _) _⟩
set_option maxHeartbeats 2000000 in
theorem resc_bno (s : ByteArray) (p : Nat) (hs : s.size ≤ 1000000) (hp : p + 2 < s.size) (hc : s[p + 1].toNat = 98) (h2 : s[p + 2].toNat ≠ 123) : Tells 82 #[.string s, .int .i64 p] 0 0 0 0 ⟨#[]⟩ 0 41 := by
  obtain ⟨z, hz⟩ : ∃ z, s.size = z := ⟨_, rfl⟩
  have hpI : (p : Int) ≤ 1000000 := by omega
  have hp0 : (0 : Int) ≤ (p : Int) := by omega
  have hlt : (p : Int) + 1 < (z : Int) := by omega
  have hne : ((p : Int) + 1 == (z : Int)) = false := by simp; omega
  have he : ((p : Int) + 2 == (z : Int)) = false := by simp; omega
  have hlt2 : (p : Int) + 2 < (z : Int) := by omega
  have h2' : ((s[p + 2].toNat : Int) == 123) = false := by simp only [beq_eq_false_iff_ne, ne_eq]; omega
  have h2b : ((s[p + 2].toNat : Int) != 123) = true := by simp only [bne_iff_ne, ne_eq]; omega
  intro w
  go_enter Tryz.func82, Tryz.ntmps82
  go_wp2
  go_loopw [8, 9] (fun vn vu wr => vn = .int .i64 0 ∧ vu = .int .i64 0 ∧ wr = w.alloc (.cells #[.int .i64 0, .int .i64 0, .int .i64 0, .int .i64 0, .string ⟨#[]⟩, .int .i64 0] 52)) (fun _ _ _ => 0)
  case atStart => exact ⟨rfl, rfl, rfl⟩
  case round =>
    obtain ⟨rfl, rfl, rfl⟩ := hrel
    go_wp2
    exact bodyPost_ret (v := .tuple #[tk0, .int .i64 41]) (by simp [results, Tryz.f82, go_sem]) rfl ⟨rfl, (Below.refl _ _).alloc (Nat.le_refl _) _⟩
end Go.Proofs
