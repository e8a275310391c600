/-
  The document's scanner: classes.
-/
import Derived.Shelf.Abstract
import Derived.Shelf.RegionOpen
import Derived.WalkKit
import Derived.WalkSpells
import Derived.WalkLawsBesides
import Derived.BigQuiet
import Derived.Deep.QuietTactic
import Derived.Deep.LoopGhost
import Derived.Lib.OthersKept
import Derived.WalkMore
import Derived.Test.YtknaoahokopplaaGreatDoorKcc
namespace Go.Proofs
open Go.RowKit Go.Shelf

set_option maxRecDepth 100000
attribute [local go_sem] Oper.semAt_some

set_option maxHeartbeats 1000000 in
theorem rclass_many (s : ByteArray) (p n : Nat) (hs : s.size ≤ 1000000) (hp : p + 2 ≤ s.size) (hn : spanN isNm (s.data.toList.drop (p + 2)) = n) (h : 32 < n) : Tells 79 #[.string s, .int .i64 p] 0 0 0 0 ⟨#[]⟩ 0 42 := by
  intro w
  have hle : p + 2 + n ≤ s.size := by
    have := spanN_le isNm (s.data.toList.drop (p + 2))
    simp at this
    omega
  have HN : Hid (∀ w, Calls Tryz.prog 77 #[.string s, .int .i64 ((p : Int) + 2)] w fun e w' => e = .returned (.int .i64 n) ∧ w' = w) := fun w => by
    have := rname_any s (p + 2) w (by omega) hp
    rw [hn] at this
    simpa using this
  obtain ⟨z, hz⟩ : ∃ z, s.size = z := ⟨_, rfl⟩
  rw [hz] at hle
  have hpI : (p : Int) ≤ 1000000 := by omega
  have hp0 : (0 : Int) ≤ (p : Int) := by omega
  have hnI : (n : Int) ≤ 1000000 := by omega
  have hn0 : (0 : Int) ≤ (n : Int) := by omega
  have h' : (32 : Int) < (n : Int) := by omega
  clear hn hs hp
  go_enter Tryz.func79, Tryz.ntmps79
  go_wp2_with (go_at_call 77; refine (HN.out _).mono ?_; rintro e w1 ⟨rfl, rfl⟩)
  exact bodyPost_ret (v := .tuple #[tk0, .int .i64 42]) (by simp [results, Tryz.f79, go_sem]) rfl ⟨rfl, (Below.refl _ _).alloc (Nat.le_refl _) _⟩
set_option maxHeartbeats 1000000 in
theorem rclass_open1 (s : ByteArray) (p n : Nat) (hs : s.size ≤ 1000000) (hp : p + 2 ≤ s.size) (hn : spanN isNm (s.data.toList.drop (p + 2)) = n) (h : n ≤ 32) (h2 : p + 2 + n = s.size) : Tells 79 #[.string s, .int .i64 p] 0 0 0 0 ⟨#[]⟩ 0 44 := by
  intro w
  have hle : p + 2 + n ≤ s.size := by
    have := spanN_le isNm (s.data.toList.drop (p + 2))
    simp at this
    omega
  have HN : Hid (∀ w, Calls Tryz.prog 77 #[.string s, .int .i64 ((p : Int) + 2)] w fun e w' => e = .returned (.int .i64 n) ∧ w' = w) := fun w => by
    have := rname_any s (p + 2) w (by omega) hp
    rw [hn] at this
    simpa using this
  obtain ⟨z, hz⟩ : ∃ z, s.size = z := ⟨_, rfl⟩
  rw [hz] at hle
  have hpI : (p : Int) ≤ 1000000 := by omega
  have hp0 : (0 : Int) ≤ (p : Int) := by omega
  have hnI : (n : Int) ≤ 1000000 := by omega
  have hn0 : (0 : Int) ≤ (n : Int) := by omega
  have h' : (n : Int) ≤ 32 := by omega
  have h2' : (p : Int) + 2 + (n : Int) = (z : Int) := by omega
  clear hn hs hp
  go_enter Tryz.func79, Tryz.ntmps79
  go_wp2_with (go_at_call 77; refine (HN.out _).mono ?_; rintro e w1 ⟨rfl, rfl⟩)
  exact bodyPost_ret (v := .tuple #[tk0, .int .i64 44]) (by simp [results, Tryz.f79, go_sem]) rfl ⟨rfl, (Below.refl _ _).alloc (Nat.le_refl _) _⟩
set_option maxHeartbeats 1000000 in
theorem rclass_open2 (s : ByteArray) (p n : Nat) (hs : s.size ≤ 1000000) (hp : p + 2 ≤ s.size) (hn : spanN isNm (s.data.toList.drop (p + 2)) = n) (h : n ≤ 32) (h0 : 0 < n) (h2 : p + 2 + n + 1 = s.size) (hc : s[p + 2 + n].toNat = 58) : Tells 79 #[.string s, .int .i64 p] 0 0 0 0 ⟨#[]⟩ 0 44 := by
  intro w
  have hle : p + 2 + n ≤ s.size := by
    have := spanN_le isNm (s.data.toList.drop (p + 2))
    simp at this
    omega
  have HN : Hid (∀ w, Calls Tryz.prog 77 #[.string s, .int .i64 ((p : Int) + 2)] w fun e w' => e = .returned (.int .i64 n) ∧ w' = w) := fun w => by
    have := rname_any s (p + 2) w (by omega) hp
    rw [hn] at this
    simpa using this
  obtain ⟨z, hz⟩ : ∃ z, s.size = z := ⟨_, rfl⟩
  rw [hz] at hle
  have hpI : (p : Int) ≤ 1000000 := by omega
  have hp0 : (0 : Int) ≤ (p : Int) := by omega
  have hnI : (n : Int) ≤ 1000000 := by omega
  have hn0 : (0 : Int) ≤ (n : Int) := by omega
  have h' : (n : Int) ≤ 32 := by omega
  have h2' : (p : Int) + 2 + (n : Int) + 1 = (z : Int) := by omega
  have h3' : ((p : Int) + 2 + (n : Int) == (z : Int)) = false := by simp; omega
  have h4' : (0 : Int) < (n : Int) := by omega
  have h5' : (p : Int) + 2 + (n : Int) < (z : Int) := by omega
  clear hn hs hp
  go_enter Tryz.func79, Tryz.ntmps79
  go_wp2_with (go_at_call 77; refine (HN.out _).mono ?_; rintro e w1 ⟨rfl, rfl⟩)
  exact bodyPost_ret (v := .tuple #[tk0, .int .i64 44]) (by simp [results, Tryz.f79, go_sem]) rfl ⟨rfl, (Below.refl _ _).alloc (Nat.le_refl _) _⟩
set_option maxHeartbeats 1000000 in
theorem rclass_bad0 (s : ByteArray) (p n : Nat) (hs : s.size ≤ 1000000) (hp : p + 2 ≤ s.size) (hn : spanN isNm (s.data.toList.drop (p + 2)) = n) (h0 : n = 0) (h2 : p + 2 < s.size) : Tells 79 #[.string s, .int .i64 p] 0 0 0 0 ⟨#[]⟩ 0 42 := by
  intro w
  have hle : p + 2 + n ≤ s.size := by
    have := spanN_le isNm (s.data.toList.drop (p + 2))
    simp at this
    omega
  have HN : Hid (∀ w, Calls Tryz.prog 77 #[.string s, .int .i64 ((p : Int) + 2)] w fun e w' => e = .returned (.int .i64 n) ∧ w' = w) := fun w => by
    have := rname_any s (p + 2) w (by omega) hp
    rw [hn] at this
    simpa using this
  obtain ⟨z, hz⟩ : ∃ z, s.size = z := ⟨_, rfl⟩
  rw [hz] at hle
  have hpI : (p : Int) ≤ 1000000 := by omega
  have hp0 : (0 : Int) ≤ (p : Int) := by omega
  have hnI : (n : Int) ≤ 1000000 := by omega
  have hn0 : (0 : Int) ≤ (n : Int) := by omega
  subst h0
  have h3' : ((p : Int) + 2 == (z : Int)) = false := by simp; omega
  have h5' : (p : Int) + 2 < (z : Int) := by omega
  clear hn hs hp
  go_enter Tryz.func79, Tryz.ntmps79
  go_wp2_with (go_at_call 77; refine (HN.out _).mono ?_; rintro e w1 ⟨rfl, rfl⟩)
  exact bodyPost_ret (v := .tuple #[tk0, .int .i64 42]) (by simp [results, Tryz.f79, go_sem]) rfl ⟨rfl, (Below.refl _ _).alloc (Nat.le_refl _) _⟩
set_option maxHeartbeats 1000000 in
theorem rclass_bad1 (s : ByteArray) (p n : Nat) (hs : s.size ≤ 1000000) (hp : p + 2 ≤ s.size) (hn : spanN isNm (s.data.toList.drop (p + 2)) = n) (h : n ≤ 32) (h0 : 0 < n) (h2 : p + 2 + n < s.size) (hc : p + 2 + n + 1 = s.size → s[p + 2 + n].toNat ≠ 58) (hb : Lib.hasPrefix (s.data.toList.drop (p + 2 + n)) [58, 93] = false) : Tells 79 #[.string s, .int .i64 p] 0 0 0 0 ⟨#[]⟩ 0 42 := by
  intro w
  have hle : p + 2 + n ≤ s.size := by
    have := spanN_le isNm (s.data.toList.drop (p + 2))
    simp at this
    omega
  have HN : Hid (∀ w, Calls Tryz.prog 77 #[.string s, .int .i64 ((p : Int) + 2)] w fun e w' => e = .returned (.int .i64 n) ∧ w' = w) := fun w => by
    have := rname_any s (p + 2) w (by omega) hp
    rw [hn] at this
    simpa using this
  obtain ⟨z, hz⟩ : ∃ z, s.size = z := ⟨_, rfl⟩
  rw [hz] at hle
  have hpI : (p : Int) ≤ 1000000 := by omega
  have hp0 : (0 : Int) ≤ (p : Int) := by omega
  have hnI : (n : Int) ≤ 1000000 := by omega
  have hn0 : (0 : Int) ≤ (n : Int) := by omega
  have HB : Hid (∀ w, Calls Tryz.prog 78 #[.string s, .int .i64 ((p : Int) + 2 + (n : Int)), .string ⟨#[58, 93]⟩] w fun e w' => e = .returned (.bool (Lib.hasPrefix (s.data.toList.drop (p + 2 + n)) [58, 93])) ∧ w' = w) := fun w => by
    have := rbegins_any s ⟨#[58, 93]⟩ (p + 2 + n) w (by omega) (by omega) (by decide)
    simpa using this
  have h' : (n : Int) ≤ 32 := by omega
  have h3' : ((p : Int) + 2 + (n : Int) == (z : Int)) = false := by simp; omega
  have h4' : (0 : Int) < (n : Int) := by omega
  have h5' : (p : Int) + 2 + (n : Int) < (z : Int) := by omega
  have h6 : (n == 0) = false := by simp; omega
  by_cases he : p + 2 + n + 1 = s.size
  · have hc' := hc he
    have he' : (p : Int) + 2 + (n : Int) + 1 = (z : Int) := by omega
    clear hn hs hp hc he
    go_enter Tryz.func79, Tryz.ntmps79
    go_wp2_with (first | (go_at_call 77; refine (HN.out _).mono ?_; rintro e w1 ⟨rfl, rfl⟩) | (go_at_call 78; refine (HB.out _).mono ?_; rintro e w1 ⟨rfl, rfl⟩; rw [hb]))
    exact bodyPost_ret (v := .tuple #[tk0, .int .i64 42]) (by simp [results, Tryz.f79, go_sem]) rfl ⟨rfl, (Below.refl _ _).alloc (Nat.le_refl _) _⟩
  · have he' : ((p : Int) + 2 + (n : Int) + 1 == (z : Int)) = false := by simp; omega
    clear hn hs hp hc he
    go_enter Tryz.func79, Tryz.ntmps79
    go_wp2_with (first | (go_at_call 77; refine (HN.out _).mono ?_; rintro e w1 ⟨rfl, rfl⟩) | (go_at_call 78; refine (HB.out _).mono ?_; rintro e w1 ⟨rfl, rfl⟩; rw [hb]))
    exact bodyPost_ret (v := .tuple #[tk0, .int .i64 42]) (by simp [results, Tryz.f79, go_sem]) rfl ⟨rfl, (Below.refl _ _).alloc (Nat.le_refl _) _⟩
set_option maxHeartbeats 1000000 in
theorem rclass_ok (s : ByteArray) (p n : Nat) (hs : s.size ≤ 1000000) (hp : p + 2 ≤ s.size) (hn : spanN isNm (s.data.toList.drop (p + 2)) = n) (h : n ≤ 32) (h0 : 0 < n) (hb : Lib.hasPrefix (s.data.toList.drop (p + 2 + n)) [58, 93] = true) (h2 : p + 2 + n + 2 ≤ s.size) : Tells 79 #[.string s, .int .i64 p] 2 p (n + 4) 0 (s.extract (p + 1) (p + 2 + n + 1)) 0 0 := by
  intro w
  have hle : p + 2 + n ≤ s.size := by
    have := spanN_le isNm (s.data.toList.drop (p + 2))
    simp at this
    omega
  have HN : Hid (∀ w, Calls Tryz.prog 77 #[.string s, .int .i64 ((p : Int) + 2)] w fun e w' => e = .returned (.int .i64 n) ∧ w' = w) := fun w => by
    have := rname_any s (p + 2) w (by omega) hp
    rw [hn] at this
    simpa using this
  obtain ⟨z, hz⟩ : ∃ z, s.size = z := ⟨_, rfl⟩
  rw [hz] at hle
  have hpI : (p : Int) ≤ 1000000 := by omega
  have hp0 : (0 : Int) ≤ (p : Int) := by omega
  have hnI : (n : Int) ≤ 1000000 := by omega
  have hn0 : (0 : Int) ≤ (n : Int) := by omega
  have HB : Hid (∀ w, Calls Tryz.prog 78 #[.string s, .int .i64 ((p : Int) + 2 + (n : Int)), .string ⟨#[58, 93]⟩] w fun e w' => e = .returned (.bool (Lib.hasPrefix (s.data.toList.drop (p + 2 + n)) [58, 93])) ∧ w' = w) := fun w => by
    have := rbegins_any s ⟨#[58, 93]⟩ (p + 2 + n) w (by omega) (by omega) (by decide)
    simpa using this
  have h' : (n : Int) ≤ 32 := by omega
  have h3' : ((p : Int) + 2 + (n : Int) == (z : Int)) = false := by simp; omega
  have h4' : (0 : Int) < (n : Int) := by omega
  have h5' : (p : Int) + 2 + (n : Int) + 1 < (z : Int) := by omega
  have h6 : (n == 0) = false := by simp; omega
  have he' : ((p : Int) + 2 + (n : Int) + 1 == (z : Int)) = false := by simp; omega
  clear hn hs hp
  go_enter Tryz.func79, Tryz.ntmps79
  go_wp2_with (first | (go_at_call 77; refine (HN.out _).mono ?_; rintro e w1 ⟨rfl, rfl⟩) | (go_at_call 78; refine (HB.out _).mono ?_; rintro e w1 ⟨rfl, rfl⟩; rw [hb]))
  exact bodyPost_ret (v := .tuple #[tk 2 p (n + 4) 0 (s.extract (p + 1) (p + 2 + n + 1)) 0, .int .i64 0]) (by simp [results, Tryz.f79, go_sem]) rfl ⟨rfl, (Below.refl _ _).alloc (Nat.le_refl _) _⟩
end Go.Proofs
