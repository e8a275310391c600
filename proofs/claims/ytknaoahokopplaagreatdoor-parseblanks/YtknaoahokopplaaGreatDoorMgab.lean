/-
  Several texts in one (Xab Xbb).
-/
import Derived.Shelf.Abstract
import Derived.Shelf.RegionOpen
import Derived.WalkKit
import Derived.WalkSpells
import Derived.WalkLawsBesides
import Derived.BigQuiet
import Derived.Deep.QuietTactic
import Derived.Deep.LoopGhost
import Derived.Lib.OthersKept
import Derived.ScopeJumps
import Derived.WalkMore
import Derived.Test.YtknaoahokopplaaGreatDoorProg
namespace Go.Proofs
open Go.RowKit Go.Shelf

set_option maxRecDepth 100000
attribute [local go_sem] Oper.semAt_some

def isDg (b : UInt8) : Bool := decide (48 ≤ b.toNat) && decide (b.toNat ≤ 57)
def isLt (b : UInt8) : Bool := (decide (97 ≤ b.toNat) && decide (b.toNat ≤ 122)) || (decide (65 ≤ b.toNat) && decide (b.toNat ≤ 90))
def isHx (b : UInt8) : Bool := isDg b || ((decide (97 ≤ b.toNat) && decide (b.toNat ≤ 102)) || (decide (65 ≤ b.toNat) && decide (b.toNat ≤ 70)))
def isNm (b : UInt8) : Bool := isLt b || isDg b || decide (b.toNat = 95)
set_option maxHeartbeats 1000000 in
theorem digit_any (b : UInt8) (w : World) : Calls Tryz.prog 129 #[.int .u8 b.toNat] w fun e w' => e = .returned (.bool (isDg b)) ∧ w' = w := by
  go_enter Tryz.func129, Tryz.ntmps129
  go_wp2
  all_goals (go_ret; refine ⟨?_, rfl⟩; simp [isDg]; first | done | omega | (try rw [Bool.eq_iff_iff]; simp; omega))
set_option maxHeartbeats 1000000 in
theorem letter_any (b : UInt8) (w : World) : Calls Tryz.prog 128 #[.int .u8 b.toNat] w fun e w' => e = .returned (.bool (isLt b)) ∧ w' = w := by
  go_enter Tryz.func128, Tryz.ntmps128
  go_wp2
  all_goals (go_ret; refine ⟨?_, rfl⟩; simp [isLt]; first | done | omega | (try rw [Bool.eq_iff_iff]; simp; omega))
set_option maxHeartbeats 1000000 in
theorem hex_any (b : UInt8) (w : World) : Calls Tryz.prog 178 #[.int .u8 b.toNat] w fun e w' => e = .returned (.bool (isHx b)) ∧ w' = w := by
  cases hd : isDg b
  · go_enter Tryz.func178, Tryz.ntmps178
    go_wp2_with (go_at_call 129; refine (digit_any _ _).mono ?_; rintro e w' ⟨rfl, rfl⟩; rw [hd])
    all_goals (go_ret; refine ⟨?_, rfl⟩; simp [isHx, hd]; first | done | omega | (try rw [Bool.eq_iff_iff]; simp; omega))
  · go_enter Tryz.func178, Tryz.ntmps178
    go_wp2_with (go_at_call 129; refine (digit_any _ _).mono ?_; rintro e w' ⟨rfl, rfl⟩; rw [hd])
    all_goals (go_ret; refine ⟨?_, rfl⟩; simp [isHx, hd])
set_option maxHeartbeats 1000000 in
theorem name_any (b : UInt8) (w : World) : Calls Tryz.prog 86 #[.int .u8 b.toNat] w fun e w' => e = .returned (.bool (isNm b)) ∧ w' = w := by
  cases hl : isLt b <;> cases hd : isDg b
  all_goals
    go_enter Tryz.func86, Tryz.ntmps86
    go_wp2_with (first | (go_at_call 128; refine (letter_any _ _).mono ?_; rintro e w' ⟨rfl, rfl⟩; rw [hl]) | (go_at_call 129; refine (digit_any _ _).mono ?_; rintro e w' ⟨rfl, rfl⟩; rw [hd]))
    all_goals (go_ret; refine ⟨?_, rfl⟩; simp [isNm, hl, hd]; first | done | omega | (try rw [Bool.eq_iff_iff]; simp; omega))
/-! how many bytes at a text's beginning are such -/
def spanN (f : UInt8 → Bool) (l : List UInt8) : Nat := (l.takeWhile f).length
theorem spanN_nil (f : UInt8 → Bool) : spanN f [] = 0 := rfl
theorem spanN_cons (f : UInt8 → Bool) (b : UInt8) (l : List UInt8) : spanN f (b :: l) = if f b then spanN f l + 1 else 0 := by
  unfold spanN; rw [List.takeWhile_cons]; split <;> rfl
theorem spanN_le (f : UInt8 → Bool) (l : List UInt8) : spanN f l ≤ l.length := (List.takeWhile_sublist f).length_le
theorem drop_at {s : ByteArray} {k : Nat} (h : k < s.size) : s.data.toList.drop k = s[k] :: s.data.toList.drop (k + 1) := by
  have h' : k < s.data.toList.length := by simpa using h
  rw [List.drop_eq_getElem_cons h']; rfl
set_option maxHeartbeats 1000000 in
theorem span_name (s : ByteArray) (w : World) (hs : s.size ≤ maxLen) :
    Calls Tryz.prog 85 #[.string s, .func (.func 86) #[] #[]] w fun e w' => e = .returned (.int .i64 (spanN isNm s.data.toList)) ∧ w' = w := by
  obtain ⟨n, hn⟩ : ∃ n, s.size = n := ⟨_, rfl⟩
  have hm : n ≤ 9223372036854775807 := by rw [← hn]; exact hs
  clear hs
  go_enter Tryz.func85, Tryz.ntmps85
  go_wp2
  go_loopw [8] (fun vi wr => ∃ k : Nat, vi = .int .i64 k ∧ k ≤ n ∧ Hid (spanN isNm s.data.toList = k + spanN isNm (s.data.toList.drop k)) ∧ wr = w) (fun vi _ => n - (intOf vi).toNat)
  case atStart => exact ⟨0, rfl, by omega, by show _ = _; simp, rfl⟩
  case round =>
    obtain ⟨k, rfl, hk, hS, rfl⟩ := hrel
    by_cases hlt : k < n
    · have hlt' : (k : Int) < (n : Int) := by omega
      have hks : k < s.size := by omega
      have HD := drop_at hks
      have hS2 := hS.out
      rw [HD, spanN_cons] at hS2
      cases hb : isNm s[k]
      · rw [hb] at hS2
        have HS : Hid (spanN isNm s.data.toList = k) := by show _ = _; simpa using hS2
        clear hS hS2 HD
        go_wp2_with (go_at_call 86; refine (name_any _ _).mono ?_; rintro e w' ⟨rfl, rfl⟩; rw [hb])
        go_ret
        exact ⟨by rw [HS.out]; rfl, rfl⟩
      · rw [hb] at hS2
        have HS : Hid (spanN isNm s.data.toList = (k + 1) + spanN isNm (s.data.toList.drop (k + 1))) := by
          show _ = _
          rw [hS2]; simp; omega
        clear hS hS2 HD
        go_wp2_with (go_at_call 86; refine (name_any _ _).mono ?_; rintro e w' ⟨rfl, rfl⟩; rw [hb])
        exact ⟨⟨k + 1, by go_num, by omega, HS, (by first | rfl | trivial)⟩, by simp [intOf]; omega⟩
    · have hkn : k = n := by omega
      have HS : Hid (spanN isNm s.data.toList = n) := by
        have := hS.out
        rw [List.drop_of_length_le (by simp; omega), spanN_nil] at this
        show _ = _
        omega
      clear hS
      go_wp2
      go_ret
      exact ⟨by rw [HS.out]; rfl, rfl⟩
set_option maxHeartbeats 1000000 in
theorem span_digit (s : ByteArray) (w : World) (hs : s.size ≤ maxLen) :
    Calls Tryz.prog 85 #[.string s, .func (.func 129) #[] #[]] w fun e w' => e = .returned (.int .i64 (spanN isDg s.data.toList)) ∧ w' = w := by
  obtain ⟨n, hn⟩ : ∃ n, s.size = n := ⟨_, rfl⟩
  have hm : n ≤ 9223372036854775807 := by rw [← hn]; exact hs
  clear hs
  go_enter Tryz.func85, Tryz.ntmps85
  go_wp2
  go_loopw [8] (fun vi wr => ∃ k : Nat, vi = .int .i64 k ∧ k ≤ n ∧ Hid (spanN isDg s.data.toList = k + spanN isDg (s.data.toList.drop k)) ∧ wr = w) (fun vi _ => n - (intOf vi).toNat)
  case atStart => exact ⟨0, rfl, by omega, by show _ = _; simp, rfl⟩
  case round =>
    obtain ⟨k, rfl, hk, hS, rfl⟩ := hrel
    by_cases hlt : k < n
    · have hlt' : (k : Int) < (n : Int) := by omega
      have hks : k < s.size := by omega
      have HD := drop_at hks
      have hS2 := hS.out
      rw [HD, spanN_cons] at hS2
      cases hb : isDg s[k]
      · rw [hb] at hS2
        have HS : Hid (spanN isDg s.data.toList = k) := by show _ = _; simpa using hS2
        clear hS hS2 HD
        go_wp2_with (go_at_call 129; refine (digit_any _ _).mono ?_; rintro e w' ⟨rfl, rfl⟩; rw [hb])
        go_ret
        exact ⟨by rw [HS.out]; rfl, rfl⟩
      · rw [hb] at hS2
        have HS : Hid (spanN isDg s.data.toList = (k + 1) + spanN isDg (s.data.toList.drop (k + 1))) := by
          show _ = _
          rw [hS2]; simp; omega
        clear hS hS2 HD
        go_wp2_with (go_at_call 129; refine (digit_any _ _).mono ?_; rintro e w' ⟨rfl, rfl⟩; rw [hb])
        exact ⟨⟨k + 1, by go_num, by omega, HS, (by first | rfl | trivial)⟩, by simp [intOf]; omega⟩
    · have hkn : k = n := by omega
      have HS : Hid (spanN isDg s.data.toList = n) := by
        have := hS.out
        rw [List.drop_of_length_le (by simp; omega), spanN_nil] at this
        show _ = _
        omega
      clear hS
      go_wp2
      go_ret
      exact ⟨by rw [HS.out]; rfl, rfl⟩
set_option maxHeartbeats 1000000 in
theorem span_hex (s : ByteArray) (w : World) (hs : s.size ≤ maxLen) :
    Calls Tryz.prog 85 #[.string s, .func (.func 178) #[] #[]] w fun e w' => e = .returned (.int .i64 (spanN isHx s.data.toList)) ∧ w' = w := by
  obtain ⟨n, hn⟩ : ∃ n, s.size = n := ⟨_, rfl⟩
  have hm : n ≤ 9223372036854775807 := by rw [← hn]; exact hs
  clear hs
  go_enter Tryz.func85, Tryz.ntmps85
  go_wp2
  go_loopw [8] (fun vi wr => ∃ k : Nat, vi = .int .i64 k ∧ k ≤ n ∧ Hid (spanN isHx s.data.toList = k + spanN isHx (s.data.toList.drop k)) ∧ wr = w) (fun vi _ => n - (intOf vi).toNat)
  case atStart => exact ⟨0, rfl, by omega, by show _ = _; simp, rfl⟩
  case round =>
    obtain ⟨k, rfl, hk, hS, rfl⟩ := hrel
    by_cases hlt : k < n
    · have hlt' : (k : Int) < (n : Int) := by omega
      have hks : k < s.size := by omega
      have HD := drop_at hks
      have hS2 := hS.out
      rw [HD, spanN_cons] at hS2
      cases hb : isHx s[k]
      · rw [hb] at hS2
        have HS : Hid (spanN isHx s.data.toList = k) := by show _ = _; simpa using hS2
        clear hS hS2 HD
        go_wp2_with (go_at_call 178; refine (hex_any _ _).mono ?_; rintro e w' ⟨rfl, rfl⟩; rw [hb])
        go_ret
        exact ⟨by rw [HS.out]; rfl, rfl⟩
      · rw [hb] at hS2
        have HS : Hid (spanN isHx s.data.toList = (k + 1) + spanN isHx (s.data.toList.drop (k + 1))) := by
          show _ = _
          rw [hS2]; simp; omega
        clear hS hS2 HD
        go_wp2_with (go_at_call 178; refine (hex_any _ _).mono ?_; rintro e w' ⟨rfl, rfl⟩; rw [hb])
        exact ⟨⟨k + 1, by go_num, by omega, HS, (by first | rfl | trivial)⟩, by simp [intOf]; omega⟩
    · have hkn : k = n := by omega
      have HS : Hid (spanN isHx s.data.toList = n) := by
        have := hS.out
        rw [List.drop_of_length_le (by simp; omega), spanN_nil] at this
        show _ = _
        omega
      clear hS
      go_wp2
      go_ret
      exact ⟨by rw [HS.out]; rfl, rfl⟩
end Go.Proofs
namespace Go.Proofs
open Go.RowKit Go.Shelf

set_option maxRecDepth 100000
attribute [local go_sem] Oper.semAt_some

/-! what is let by -/
def isWs (b : UInt8) : Bool := b.toNat == 32 || b.toNat == 9 || b.toNat == 10 || b.toNat == 13
/-- how many bytes are let by at a text's beginning; r: it is within a remark -/
def pastN : Bool → List UInt8 → Nat
  | _, [] => 0
  | true, c :: l => 1 + pastN (c.toNat != 10) l
  | false, c :: l => if isWs c then 1 + pastN false l else if c.toNat = 35 then 1 + pastN true l else 0
theorem pastN_le : ∀ (r : Bool) (l : List UInt8), pastN r l ≤ l.length
  | r, [] => by cases r <;> simp [pastN]
  | true, c :: l => by have := pastN_le (c.toNat != 10) l; simp [pastN]; omega
  | false, c :: l => by
    have h1 := pastN_le false l
    have h2 := pastN_le true l
    simp only [pastN, List.length_cons]; split
    · omega
    · split <;> omega
theorem pastN_ws {c : UInt8} (h : isWs c = true) (l : List UInt8) : pastN false (c :: l) = 1 + pastN false l := by simp [pastN, h]
theorem pastN_sharp {c : UInt8} (h : c.toNat = 35) (l : List UInt8) : pastN false (c :: l) = pastN true (c :: l) := by simp [pastN, h, isWs]
theorem pastN_stop {c : UInt8} (h : isWs c = false) (h2 : c.toNat ≠ 35) (l : List UInt8) : pastN false (c :: l) = 0 := by simp [pastN, h, h2]
theorem pastN_nl {c : UInt8} (h : c.toNat = 10) (l : List UInt8) : pastN true (c :: l) = pastN false (c :: l) := by simp [pastN, h, isWs]
theorem pastN_in {c : UInt8} (h : c.toNat ≠ 10) (l : List UInt8) : pastN true (c :: l) = 1 + pastN true l := by
  have e : (c.toNat != 10) = true := by simpa using h
  simp only [pastN, e]
set_option maxHeartbeats 2000000 in
theorem past_any (s : ByteArray) (p : Nat) (w : World) (hs : s.size ≤ maxLen) (hp : p ≤ s.size) :
    Calls Tryz.prog 46 #[.string s, .int .i64 p] w fun e w' => e = .returned (.int .i64 (p + pastN false (s.data.toList.drop p) : Nat)) ∧ w' = w := by
  obtain ⟨n, hn⟩ : ∃ n, s.size = n := ⟨_, rfl⟩
  have hm : n ≤ 9223372036854775807 := by rw [← hn]; exact hs
  obtain ⟨q, hq⟩ : ∃ q, p + pastN false (s.data.toList.drop p) = q := ⟨_, rfl⟩
  have HQ : Hid (q = p + pastN false (s.data.toList.drop p)) := hq.symm
  rw [hq]
  have hp' : p ≤ n := by omega
  clear hs hq hp
  go_enter Tryz.func46, Tryz.ntmps46
  go_wp2
  go_step3
  go_wp2
  go_step3
  go_wp2
  go_loopw [1] (fun vi wr => ∃ k : Nat, vi = .int .i64 k ∧ k ≤ n ∧ Hid (q = k + pastN false (s.data.toList.drop k)) ∧ wr = w) (fun vi _ => n - (intOf vi).toNat)
  case atStart => exact ⟨p, rfl, by omega, HQ, rfl⟩
  case round =>
    obtain ⟨k, rfl, hk, hS, rfl⟩ := hrel
    clear HQ
    by_cases hlt : k < n
    · have hlt' : (k : Int) < (n : Int) := by omega
      have hks : k < s.size := by omega
      have HD := drop_at hks
      have hS2 := hS.out
      rw [HD] at hS2
      by_cases hws : isWs s[k] = true
      · rw [pastN_ws hws] at hS2
        have HS : Hid (q = (k + 1) + pastN false (s.data.toList.drop (k + 1))) := by show _ = _; omega
        have hws' : s[k].toNat = 32 ∨ s[k].toNat = 9 ∨ s[k].toNat = 10 ∨ s[k].toNat = 13 := by simpa [isWs, or_assoc] using hws
        clear hS hS2 HD hws
        rcases hws' with e | e | e | e
        all_goals
          go_wp2
          exact ⟨⟨k + 1, by go_num, by omega, HS, (by first | rfl | trivial)⟩, by simp [intOf]; omega⟩
      · have hws0 : isWs s[k] = false := by simpa using hws
        obtain ⟨n32, n9, n10, n13⟩ : s[k].toNat ≠ 32 ∧ s[k].toNat ≠ 9 ∧ s[k].toNat ≠ 10 ∧ s[k].toNat ≠ 13 := by simpa [isWs, and_assoc] using hws0
        by_cases hsh : s[k].toNat = 35
        · rw [pastN_sharp hsh, ← HD] at hS2
          have HS : Hid (q = k + pastN true (s.data.toList.drop k)) := hS2
          have HK : Hid (s[k].toNat = 35) := hsh
          clear hS hS2 HD hws hws0
          go_wp2
          go_loopw [1] (fun vi wx => ∃ m : Nat, vi = .int .i64 m ∧ k ≤ m ∧ m ≤ n ∧ Hid (q = m + pastN true (s.data.toList.drop m)) ∧ wx = wr) (fun vi _ => n - (intOf vi).toNat)
          case atStart => exact ⟨k, rfl, by omega, by omega, HS, rfl⟩
          case round =>
            obtain ⟨m, rfl, hkm, hmn, hS3, rfl⟩ := hrel
            clear HS
            by_cases hlt2 : m < n
            · have hlt2' : (m : Int) < (n : Int) := by omega
              have hms : m < s.size := by omega
              have hS4 := hS3.out
              rw [drop_at hms] at hS4
              by_cases h10 : s[m].toNat = 10
              · rw [pastN_nl h10, ← drop_at hms] at hS4
                have HS : Hid (q = m + pastN false (s.data.toList.drop m)) := hS4
                have hne : k ≠ m := by rintro rfl; have := HK.out; omega
                clear hS3 hS4
                go_wp2
                exact ⟨⟨m, by go_num, by omega, HS, (by first | rfl | trivial)⟩, by simp [intOf]; omega⟩
              · rw [pastN_in h10] at hS4
                have HS : Hid (q = (m + 1) + pastN true (s.data.toList.drop (m + 1))) := by show _ = _; omega
                clear hS3 hS4
                go_wp2
                exact ⟨⟨m + 1, by go_num, by omega, by omega, HS, (by first | rfl | trivial)⟩, by simp [intOf]; omega⟩
            · have hmn' : m = n := by omega
              subst hmn'
              have HS : Hid (q = m + pastN false (s.data.toList.drop m)) := by
                have := hS3.out
                rw [List.drop_of_length_le (by simp; omega)] at this ⊢
                exact this
              clear hS3
              go_wp2
              exact ⟨⟨m, by go_num, by omega, HS, (by first | rfl | trivial)⟩, by simp [intOf]; omega⟩
        · rw [pastN_stop hws0 hsh] at hS2
          have HS : Hid (q = k) := hS2
          clear hS hS2 HD hws hws0
          go_wp2
          try rw [Exit.noGoto_ret]
          go_ret
          exact ⟨by rw [HS.out]; rfl, rfl⟩
    · have HS : Hid (q = k) := by
        have := hS.out
        rw [List.drop_of_length_le (by simp; omega)] at this
        exact this
      clear hS
      go_wp2
      try rw [Exit.noGoto_ret]
      go_ret
      exact ⟨by rw [HS.out]; rfl, rfl⟩
end Go.Proofs
