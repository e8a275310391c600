/-
  The bytes that names, numbers and escapes are made of; how many of them stand at a text's beginning; what is let by.
-/
import Derived.Shelf.Abstract
import Derived.Shelf.RegionOpen
import Derived.WalkKit
import Derived.WalkSpells
import Derived.WalkLawsBesides
import Derived.BigQuiet
import Derived.Deep.QuietTactic
import Derived.Deep.LoopGhost
import Derived.Lib.OthersKept
import Derived.ScopeJumps
import Derived.WalkMore
import Derived.Test.YtknaoahokopplaaGreatDoorProg
namespace Go.Proofs
open Go.RowKit Go.Shelf

set_option maxRecDepth 100000
attribute [local go_sem] Oper.semAt_some

def isDg (b : UInt8) : Bool := decide (48 ≤ b.toNat) && decide (b.toNat ≤ 57)
def isLt (b : UInt8) : Bool := (decide (97 ≤ b.toNat) && decide (b.toNat ≤ 122)) || (decide (65 ≤ b.toNat) && decide (b.toNat ≤ 90))
def isHx (b : UInt8) : Bool := isDg b || ((decide (97 ≤ b.toNat) && decide (b.toNat ≤ 102)) || (decide (65 ≤ b.toNat) && decide (b.toNat ≤ 70)))
def isNm (b : UInt8) : Bool := isLt b || isDg b || decide (b.toNat = 95)
set_option maxHeartbeats 1000000 in
theorem digit_any (b : UInt8) (w : World) : Calls Tryz.prog 129 #[.int .u8 b.toNat] w fun e w' => e = .returned (.bool (isDg b)) ∧ w' = w := by
  go_enter Tryz.func129, Tryz.ntmps129
  go_wp2
  all_goals (go_ret; refine ⟨?_, rfl⟩; simp [isDg]; first | done | omega | (try rw [Bool.eq_iff_iff]; simp; omega))
set_option maxHeartbeats 1000000 in
theorem letter_any (b : UInt8) (w : World) : Calls Tryz.prog 128 #[.int .u8 b.toNat] w fun e w' => e = .returned (.bool (isLt b)) ∧ w' = w := by
  go_enter Tryz.func128, Tryz.ntmps128
  go_wp2
  all_goals (go_ret; refine ⟨?_, rfl⟩; simp [isLt]; first | done | omega | (try rw [Bool.eq_iff_iff]; simp; omega))
set_option maxHeartbeats 1000000 in
theorem hex_any (b : UInt8) (w : World) : Calls Tryz.prog 178 #[.int .u8 b.toNat] w fun e w' => e = .returned (.bool (isHx b)) ∧ w' = w := by
  cases hd : isDg b
  · go_enter Tryz.func178, Tryz.ntmps178
    go_wp2_with (go_at_call 129; refine (digit_any _ _).mono ?_; rintro e w' ⟨rfl, rfl⟩; rw [hd])
    all_goals (go_ret; refine ⟨?_, rfl⟩; simp [isHx, hd]; first | done | omega | (try rw [Bool.eq_iff_iff]; simp; omega))
  · go_enter Tryz.func178, Tryz.ntmps178
    go_wp2_with (go_at_call 129; refine (digit_any _ _).mono ?_; rintro e w' ⟨rfl, rfl⟩; rw [hd])
    all_goals (go_ret; refine ⟨?_, rfl⟩; simp [isHx, hd])
set_option maxHeartbeats 1000000 in
theorem name_any (b : UInt8) (w : World) : Calls Tryz.prog 86 #[.int .u8 b.toNat] w fun e w' => e = .returned (.bool (isNm b)) ∧ w' = w := by
  cases hl : isLt b <;> cases hd : isDg b
  all_goals
    go_enter Tryz.func86, Tryz.ntmps86
    go_wp2_with (first | (go_at_call 128; refine (letter_any _ _).mono ?_; rintro e w' ⟨rfl, rfl⟩; rw [hl]) | (go_at_call 129; refine (digit_any _ _).mono ?_; rintro e w' ⟨rfl, rfl⟩; rw [hd]))
    all_goals (go_ret; refine ⟨?_, rfl⟩; simp [isNm, hl, hd]; first | done | omega | (try rw [Bool.eq_iff_iff]; simp; omega))
/-! how many bytes at a text's beginning are such -/
def spanN (f : UInt8 → Bool) (l : List UInt8) : Nat := (l.takeWhile f).length
theorem spanN_nil (f : UInt8 → Bool) : spanN f [] = 0 := rfl
theorem spanN_cons (f : UInt8 → Bool) (b : UInt8) (l : List UInt8) : spanN f (b :: l) = if f b then spanN f l + 1 else 0 := by
  unfold spanN; rw [List.takeWhile_cons]; split <;> rfl
theorem spanN_le (f : UInt8 → Bool) (l : List UInt8) : spanN f l ≤ l.length := (List.takeWhile_sublist f).length_le
theorem drop_at {s : ByteArray} {k : Nat} (h : k < s.size) : s.data.toList.drop k = s[k] :: s.data.toList.drop (k + 1) := by
  have h' : k < s.data.toList.length := by simpa using h
  rw [List.drop_eq_getElem_cons h']; rfl
set_option maxHeartbeats 1000000 in
theorem span_name (s : ByteArray) (w : World) (hs : s.size ≤ maxLen) :
    Calls Tryz.prog 85 #[.string s, .func (.func 86) #[] #[]] w fun e w' => e = .returned (.int .i64 (spanN isNm s.data.toList)) ∧ w' = w := by
  obtain ⟨n, hn⟩ : ∃ n, s.size = n := ⟨_, rfl⟩
  have hm : n ≤ 9223372036854775807 := by rw [← hn]; exact hs
  clear hs
  go_enter Tryz.func85, Tryz.ntmps85
  go_wp2
  go_loopw [8] (fun vi wr => ∃ k : Nat, vi = .int .i64 k ∧ k ≤ n ∧ Hid (spanN isNm s.data.toList = k + spanN isNm (s.data.toList.drop k)) ∧ wr = w) (fun vi _ => n - (intOf vi).toNat)
  case atStart => exact ⟨0, rfl, by omega, by show _ = _; simp, rfl⟩
  case round =>
    obtain ⟨k, rfl, hk, hS, rfl⟩ := hrel
    by_cases hlt : k < n
    · have hlt' : (k : Int) < (n : Int) := by omega
      have hks : k < s.size := by omega
      have HD := drop_at hks
      have hS2 := hS.out
      rw [HD, spanN_cons] at hS2
      cases hb : isNm s[k]
      · rw [hb] at hS2
        have HS : Hid (spanN isNm s.data.toList = k) := by show _ = _; simpa using hS2
        clear hS hS2 HD
        go_wp2_with (go_at_call 86; refine (name_any _ _).mono ?_; rintro e w' ⟨rfl, rfl⟩; rw [hb])
        go_ret
        exact ⟨by rw [HS.out]; rfl, rfl⟩
      · rw [hb] at hS2
        have HS : Hid (spanN isNm s.data.toList = (k + 1) + spanN isNm (s.data.toList.drop (k + 1))) := by
          show _ = _
          rw [hS2]; simp; omega
        clear hS hS2 HD
        go_wp2_with (go_at_call 86; refine (name_any _ _).mono ?_; rintro e w' ⟨rfl, rfl⟩; rw [hb])
        exact ⟨⟨k + 1, by go_num, by omega, HS, (by first | rfl | trivial)⟩, by simp [intOf]; omega⟩
    · have hkn : k = n := by omega
      have HS : Hid (spanN isNm s.data.toList = n) := by
        have := hS.out
        rw [List.drop_of_length_le (by simp; omega), spanN_nil] at this
        show _ = _
        omega
      clear hS
      go_wp2
      go_ret
      exact ⟨by rw [HS.out]; rfl, rfl⟩
set_option maxHeartbeats 1000000 in
theorem span_digit (s : ByteArray) (w : World) (hs : s.size ≤ maxLen) :
    Calls Tryz.prog 85 #[.string s, .func (.func 129) #[] #[]] w fun e w' => e = .returned (.int .i64 (spanN isDg s.data.toList)) ∧ w' = w := by
  obtain ⟨n, hn⟩ : ∃ n, s.size = n := ⟨_, rfl⟩
  have hm : n ≤ 9223372036854775807 := by rw [← hn]; exact hs
  clear hs
  go_enter Tryz.func85, Tryz.ntmps85
  go_wp2
  go_loopw [8] (fun vi wr => ∃ k : Nat, vi = .int .i64 k ∧ k ≤ n ∧ Hid (spanN isDg s.data.toList = k + spanN isDg (s.data.toList.drop k)) ∧ wr = w) (fun vi _ => n - (intOf vi).toNat)
  case atStart => exact ⟨0, rfl, by omega, by show _ = _; simp, rfl⟩
  case round =>
    obtain ⟨k, rfl, hk, hS, rfl⟩ := hrel
    by_cases hlt : k < n
    · have hlt' : (k : Int) < (n : Int) := by omega
      have hks : k < s.size := by omega
      have HD := drop_at hks
      have hS2 := hS.out
      rw [HD, spanN_cons] at hS2
      cases hb : isDg s[k]
      · rw [hb] at hS2
        have HS : Hid (spanN isDg s.data.toList = k) := by show _ = _; simpa using hS2
        clear hS hS2 HD
        go_wp2_with (go_at_call 129; refine (digit_any _ _).mono ?_; rintro e w' ⟨rfl, rfl⟩; rw [hb])
        go_ret
        exact ⟨by rw [HS.out]; rfl, rfl⟩
      · rw [hb] at hS2
        have HS : Hid (spanN isDg s.data.toList = (k + 1) + spanN isDg (s.data.toList.drop (k + 1))) := by
          show _ = _
          rw [hS2]; simp; omega
        clear hS hS2 HD
        go_wp2_with (go_at_call 129; refine (digit_any _ _).mono ?_; rintro e w' ⟨rfl, rfl⟩; rw [hb])
        exact ⟨⟨k + 1, by go_num, by omega, HS, (by first | rfl | trivial)⟩, by simp [intOf]; omega⟩
    · have hkn : k = n := by omega
      have HS : Hid (spanN isDg s.data.toList = n) := by
        have := hS.out
        rw [List.drop_of_length_le (by simp; omega), spanN_nil] at this
        show _ = _
        omega
      clear hS
      go_wp2
      go_ret
      exact ⟨by rw [HS.out]; rfl, rfl⟩
set_option maxHeartbeats 1000000 in
theorem span_hex (s : ByteArray) (w : World) (hs : s.size ≤ maxLen) :
    Calls Tryz.prog 85 #[.string s, .func (.func 178) #[] #[]] w fun e w' => e = .returned (.int .i64 (spanN isHx s.data.toList)) ∧ w' = w := by
  obtain ⟨n, hn⟩ : ∃ n, s.size = n := ⟨_, rfl⟩
  have hm : n ≤ 9223372036854775807 := by rw [← hn]; exact hs
  clear hs
  go_enter Tryz.func85, Tryz.ntmps85
  go_wp2
  go_loopw [8] (fun vi wr => ∃ k : Nat, vi = .int .i64 k ∧ k ≤ n ∧ Hid (spanN isHx s.data.toList = k + spanN isHx (s.data.toList.drop k)) ∧ wr = w) (fun vi _ => n - (intOf vi).toNat)
  case atStart => exact ⟨0, rfl, by omega, by show _ = _; simp, rfl⟩
  case round =>
    obtain ⟨k, rfl, hk, hS, rfl⟩ := hrel
    by_cases hlt : k < n
    · have hlt' : (k : Int) < (n : Int) := by omega
      have hks : k < s.size := by omega
      have HD := drop_at hks
      have hS2 := hS.out
      rw [HD, spanN_cons] at hS2
      cases hb : isHx s[k]
      · rw [hb] at hS2
        have HS : Hid (spanN isHx s.data.toList = k) := by show _ = _; simpa using hS2
        clear hS hS2 HD
        go_wp2_with (go_at_call 178; refine (hex_any _ _).mono ?_; rintro e w' ⟨rfl, rfl⟩; rw [hb])
        go_ret
        exact ⟨by rw [HS.out]; rfl, rfl⟩
      · rw [hb] at hS2
        have HS : Hid (spanN isHx s.data.toList = (k + 1) + spanN isHx (s.data.toList.drop (k + 1))) := by
          show _ = _
          rw [hS2]; simp; omega
        clear hS hS2 HD
        go_wp2_with (go_at_call 178; refine (hex_any _ _).mono ?_; rintro e w' ⟨rfl, rfl⟩; rw [hb])
        exact ⟨⟨k + 1, by go_num, by omega, HS, (by first | rfl | trivial)⟩, by simp [intOf]; omega⟩
    · have hkn : k = n := by omega
      have HS : Hid (spanN isHx s.data.toList = n) := by
        have := hS.out
        rw [List.drop_of_length_le (by simp; omega), spanN_nil] at this
        show _ = _
        omega
      clear hS
      go_wp2
      go_ret
      exact ⟨by rw [HS.out]; rfl, rfl⟩
end Go.Proofs
