/-
  Several texts in one (Kcr Kbr).
-/
import Derived.Shelf.Abstract
import Derived.Shelf.RegionOpen
import Derived.WalkKit
import Derived.WalkSpells
import Derived.WalkLawsBesides
import Derived.BigQuiet
import Derived.Deep.QuietTactic
import Derived.Deep.LoopGhost
import Derived.Lib.OthersKept
import Derived.WalkMore
import Derived.Test.YtknaoahokopplaaGreatDoorMgmr
namespace Go.Proofs
open Go.RowKit Go.Shelf

set_option maxRecDepth 100000
attribute [local go_sem] Oper.semAt_some

theorem extract_list (s : ByteArray) (a b : Nat) : (s.extract a b).data.toList = (s.data.toList.drop a).take (b - a) := by
  simp only [ByteArray.data_extract, Array.toList_extract, List.extract]
theorem pre_take (l t : List UInt8) : Lib.hasPrefix l t = (l.take t.length == t) := by
  unfold Lib.hasPrefix
  induction t generalizing l with
  | nil => simp
  | cons a t ih =>
    cases l with
    | nil => simp
    | cons b l =>
      simp only [List.isPrefixOf, List.length_cons, List.take_succ_cons, ih]
      rw [Bool.eq_iff_iff, Bool.and_eq_true, beq_iff_eq, beq_iff_eq, beq_iff_eq, List.cons.injEq]
      exact ⟨fun h => ⟨h.1.symm, h.2⟩, fun h => ⟨h.1.symm, h.2⟩⟩
set_option maxHeartbeats 1000000 in
theorem rbegins_any (s t : ByteArray) (p : Nat) (w : World) (hs : s.size ≤ 1000000) (hp : p ≤ s.size) (ht : t.size ≤ 100) : Calls Tryz.prog 78 #[.string s, .int .i64 p, .string t] w fun e w' => e = .returned (.bool (Lib.hasPrefix (s.data.toList.drop p) t.data.toList)) ∧ w' = w := by
  obtain ⟨m, hm⟩ : ∃ m, t.size = m := ⟨_, rfl⟩
  obtain ⟨n, hn⟩ : ∃ n, s.size = n := ⟨_, rfl⟩
  have hpI : (p : Int) ≤ 1000000 := by omega
  have hp0 : (0 : Int) ≤ (p : Int) := by omega
  have hmI : (m : Int) ≤ 100 := by omega
  have hm0 : (0 : Int) ≤ (m : Int) := by omega
  have htl : t.data.toList.length = m := by simpa using hm
  by_cases hlt : p + m ≤ n
  · have hlt' : (p : Int) + (m : Int) ≤ (n : Int) := by omega
    have hR : Hid (Lib.hasPrefix (s.data.toList.drop p) t.data.toList = ((s.extract p (p + m)).data.toList == t.data.toList)) := by
      show _ = _
      rw [pre_take, htl, extract_list]
      simp
    rw [hR.out, ← ByteArray.toList_eq, ← ByteArray.toList_eq]
    go_enter Tryz.func78, Tryz.ntmps78
    go_wp2
    go_ret
    exact ⟨rfl, rfl⟩
  · have hlt' : (n : Int) < (p : Int) + (m : Int) := by omega
    have hR : Lib.hasPrefix (s.data.toList.drop p) t.data.toList = false := by
      rw [pre_take]
      rw [beq_eq_false_iff_ne]
      intro e
      have := congrArg List.length e
      simp at this
      omega
    rw [hR]
    go_enter Tryz.func78, Tryz.ntmps78
    go_wp2
    go_ret
    exact ⟨rfl, rfl⟩
theorem idx_none {l : List UInt8} {c : UInt8} : Lib.indexByte l c = -1 ↔ c ∉ l := by
  induction l with
  | nil => simp [Lib.indexByte]
  | cons b l ih =>
    simp only [Lib.indexByte, List.mem_cons, not_or]
    have hpos : -1 ≤ Lib.indexByte l c := by
      clear ih
      induction l with
      | nil => simp [Lib.indexByte]
      | cons d l ih2 => simp only [Lib.indexByte]; split <;> (try split) <;> omega
    split
    · rename_i h
      simp at h
      constructor
      · intro h2; omega
      · intro h2; exact absurd h.symm h2.1
    · rename_i h
      simp at h
      split
      · rename_i h2
        simp at h2
        simp only [true_iff]
        exact ⟨fun e => h e.symm, ih.1 h2⟩
      · rename_i h2
        simp at h2
        constructor
        · intro h3; omega
        · intro h3; exact absurd (ih.2 h3.2) h2
theorem idx_step (l : List UInt8) (c : UInt8) (k : Nat) (hk : k < l.length) (hn : c ∉ l.take k) (hc : l[k] = c) : Lib.indexByte l c = k := by
  induction l generalizing k with
  | nil => simp at hk
  | cons b l ih =>
    cases k with
    | zero => simp at hc; simp [Lib.indexByte, hc]
    | succ k =>
      simp only [List.take_succ_cons, List.mem_cons, not_or] at hn
      have h1 := ih k (by simpa using hk) hn.2 (by simpa using hc)
      have hb : (b == c) = false := by simpa using fun e => hn.1 e.symm
      simp only [Lib.indexByte, hb, h1]
      have : ((k : Int) == -1) = false := by simp
      simp [this]
set_option maxHeartbeats 1000000 in
theorem rin_any (c : UInt8) (t : ByteArray) (w : World) (ht : t.size ≤ 100) : Calls Tryz.prog 80 #[.int .u8 c.toNat, .string t] w fun e w' => e = .returned (.int .i64 (Lib.indexByte t.data.toList c)) ∧ w' = w := by
  obtain ⟨n, hn⟩ : ∃ n, t.size = n := ⟨_, rfl⟩
  have hnI : (n : Int) ≤ 100 := by omega
  go_enter Tryz.func80, Tryz.ntmps80
  go_wp2
  go_loopw [5] (fun vi wr => ∃ k : Nat, vi = .int .i64 k ∧ k ≤ n ∧ Hid (c ∉ t.data.toList.take k) ∧ wr = w) (fun vi _ => n - (intOf vi).toNat)
  case atStart => exact ⟨0, rfl, by omega, by show _; simp [Hid], rfl⟩
  case round =>
    obtain ⟨k, rfl, hk, hS, rfl⟩ := hrel
    by_cases hlt : k < n
    · have hlt' : (k : Int) < (n : Int) := by omega
      have hkt : k < t.size := by omega
      have hkl : k < t.data.toList.length := by simpa using hkt
      have hge : t.data.toList[k] = t[k] := by simp [ByteArray.getElem_eq_getElem_data]
      by_cases hc : t[k] = c
      · have hd : ((t[k].toNat : Int) == (c.toNat : Int)) = true := by simp [hc]
        have HS : Hid (Lib.indexByte t.data.toList c = k) := idx_step _ _ k hkl hS.out (hge.trans hc)
        clear hS hge
        go_wp2
        go_ret
        exact ⟨by rw [HS.out]; rfl, rfl⟩
      · have hd : ((t[k].toNat : Int) == (c.toNat : Int)) = false := by
          simp only [beq_eq_false_iff_ne, ne_eq, Int.natCast_inj]
          exact fun e => hc (UInt8.toNat_inj.1 e)
        have HS : Hid (c ∉ t.data.toList.take (k + 1)) := by
          show _ ∉ _
          rw [List.take_succ_eq_append_getElem hkl, List.mem_append, not_or, hge]
          exact ⟨hS.out, by simpa using fun e => hc e.symm⟩
        clear hS hge
        go_wp2
        exact ⟨⟨k + 1, by go_num, by omega, HS, (by first | rfl | trivial)⟩, by simp [intOf]; omega⟩
    · have HS : Hid (Lib.indexByte t.data.toList c = -1) := by
        have := hS.out
        rw [List.take_of_length_le (by simp; omega)] at this
        exact idx_none.2 this
      clear hS
      go_wp2
      go_ret
      exact ⟨by rw [HS.out]; rfl, rfl⟩
end Go.Proofs
namespace Go.Proofs
open Go.RowKit Go.Shelf

set_option maxRecDepth 100000
attribute [local go_sem] Oper.semAt_some

set_option maxHeartbeats 1000000 in
theorem rclass_many (s : ByteArray) (p n : Nat) (hs : s.size ≤ 1000000) (hp : p + 2 ≤ s.size) (hn : spanN isNm (s.data.toList.drop (p + 2)) = n) (h : 32 < n) : Tells 79 #[.string s, .int .i64 p] 0 0 0 0 ⟨#[]⟩ 0 42 := by
  intro w
  have hle : p + 2 + n ≤ s.size := by
    have := spanN_le isNm (s.data.toList.drop (p + 2))
    simp at this
    omega
  have HN : Hid (∀ w, Calls Tryz.prog 77 #[.string s, .int .i64 ((p : Int) + 2)] w fun e w' => e = .returned (.int .i64 n) ∧ w' = w) := fun w => by
    have := rname_any s (p + 2) w (by omega) hp
    rw [hn] at this
    simpa using this
  obtain ⟨z, hz⟩ : ∃ z, s.size = z := ⟨_, rfl⟩
  rw [hz] at hle
  have hpI : (p : Int) ≤ 1000000 := by omega
  have hp0 : (0 : Int) ≤ (p : Int) := by omega
  have hnI : (n : Int) ≤ 1000000 := by omega
  have hn0 : (0 : Int) ≤ (n : Int) := by omega
  have h' : (32 : Int) < (n : Int) := by omega
  clear hn hs hp
  go_enter Tryz.func79, Tryz.ntmps79
  go_wp2_with (go_at_call 77; refine (HN.out _).mono ?_; rintro e w1 ⟨rfl, rfl⟩)
  exact bodyPost_ret (v := .tuple #[tk0, .int .i64 42]) (by simp [results, Tryz.f79, go_sem]) rfl ⟨rfl, (Below.refl _ _).alloc (Nat.le_refl _) _⟩
set_option maxHeartbeats 1000000 in
theorem rclass_open1 (s : ByteArray) (p n : Nat) (hs : s.size ≤ 1000000) (hp : p + 2 ≤ s.size) (hn : spanN isNm (s.data.toList.drop (p + 2)) = n) (h : n ≤ 32) (h2 : p + 2 + n = s.size) : Tells 79 #[.string s, .int .i64 p] 0 0 0 0 ⟨#[]⟩ 0 44 := by
  intro w
  have hle : p + 2 + n ≤ s.size := by
    have := spanN_le isNm (s.data.toList.drop (p + 2))
    simp at this
    omega
  have HN : Hid (∀ w, Calls Tryz.prog 77 #[.string s, .int .i64 ((p : Int) + 2)] w fun e w' => e = .returned (.int .i64 n) ∧ w' = w) := fun w => by
    have := rname_any s (p + 2) w (by omega) hp
    rw [hn] at this
    simpa using this
  obtain ⟨z, hz⟩ : ∃ z, s.size = z := ⟨_, rfl⟩
  rw [hz] at hle
  have hpI : (p : Int) ≤ 1000000 := by omega
  have hp0 : (0 : Int) ≤ (p : Int) := by omega
  have hnI : (n : Int) ≤ 1000000 := by omega
  have hn0 : (0 : Int) ≤ (n : Int) := by omega
  have h' : (n : Int) ≤ 32 := by omega
  have h2' : (p : Int) + 2 + (n : Int) = (z : Int) := by omega
  clear hn hs hp
  go_enter Tryz.func79, Tryz.ntmps79
  go_wp2_with (go_at_call 77; refine (HN.out _).mono ?_; rintro e w1 ⟨rfl, rfl⟩)
  exact bodyPost_ret (v := .tuple #[tk0, .int .i64 44]) (by simp [results, Tryz.f79, go_sem]) rfl ⟨rfl, (Below.refl _ _).alloc (Nat.le_refl _) _⟩
set_option maxHeartbeats 1000000 in
theorem rclass_open2 (s : ByteArray) (p n : Nat) (hs : s.size ≤ 1000000) (hp : p + 2 ≤ s.size) (hn : spanN isNm (s.data.toList.drop (p + 2)) = n) (h : n ≤ 32) (h0 : 0 < n) (h2 : p + 2 + n + 1 = s.size) (hc : s[p + 2 + n].toNat = 58) : Tells 79 #[.string s, .int .i64 p] 0 0 0 0 ⟨#[]⟩ 0 44 := by
  intro w
  have hle : p + 2 + n ≤ s.size := by
    have := spanN_le isNm (s.data.toList.drop (p + 2))
    simp at this
    omega
  have HN : Hid (∀ w, Calls Tryz.prog 77 #[.string s, .int .i64 ((p : Int) + 2)] w fun e w' => e = .returned (.int .i64 n) ∧ w' = w) := fun w => by
    have := rname_any s (p + 2) w (by omega) hp
    rw [hn] at this
    simpa using this
  obtain ⟨z, hz⟩ : ∃ z, s.size = z := ⟨_, rfl⟩
  rw [hz] at hle
  have hpI : (p : Int) ≤ 1000000 := by omega
  have hp0 : (0 : Int) ≤ (p : Int) := by omega
  have hnI : (n : Int) ≤ 1000000 := by omega
  have hn0 : (0 : Int) ≤ (n : Int) := by omega
  have h' : (n : Int) ≤ 32 := by omega
  have h2' : (p : Int) + 2 + (n : Int) + 1 = (z : Int) := by omega
  have h3' : ((p : Int) + 2 + (n : Int) == (z : Int)) = false := by simp; omega
  have h4' : (0 : Int) < (n : Int) := by omega
  have h5' : (p : Int) + 2 + (n : Int) < (z : Int) := by omega
  clear hn hs hp
  go_enter Tryz.func79, Tryz.ntmps79
  go_wp2_with (go_at_call 77; refine (HN.out _).mono ?_; rintro e w1 ⟨rfl, rfl⟩)
  exact bodyPost_ret (v := .tuple #[tk0, .int .i64 44]) (by simp [results, Tryz.f79, go_sem]) rfl ⟨rfl, (Below.refl _ _).alloc (Nat.le_refl _) _⟩
set_option maxHeartbeats 1000000 in
theorem rclass_bad0 (s : ByteArray) (p n : Nat) (hs : s.size ≤ 1000000) (hp : p + 2 ≤ s.size) (hn : spanN isNm (s.data.toList.drop (p + 2)) = n) (h0 : n = 0) (h2 : p + 2 < s.size) : Tells 79 #[.string s, .int .i64 p] 0 0 0 0 ⟨#[]⟩ 0 42 := by
  intro w
  have hle : p + 2 + n ≤ s.size := by
    have := spanN_le isNm (s.data.toList.drop (p + 2))
    simp at this
    omega
  have HN : Hid (∀ w, Calls Tryz.prog 77 #[.string s, .int .i64 ((p : Int) + 2)] w fun e w' => e = .returned (.int .i64 n) ∧ w' = w) := fun w => by
    have := rname_any s (p + 2) w (by omega) hp
    rw [hn] at this
    simpa using this
  obtain ⟨z, hz⟩ : ∃ z, s.size = z := ⟨_, rfl⟩
  rw [hz] at hle
  have hpI : (p : Int) ≤ 1000000 := by omega
  have hp0 : (0 : Int) ≤ (p : Int) := by omega
  have hnI : (n : Int) ≤ 1000000 := by omega
  have hn0 : (0 : Int) ≤ (n : Int) := by omega
  subst h0
  have h3' : ((p : Int) + 2 == (z : Int)) = false := by simp; omega
  have h5' : (p : Int) + 2 < (z : Int) := by omega
  clear hn hs hp
  go_enter Tryz.func79, Tryz.ntmps79
  go_wp2_with (go_at_call 77; refine (HN.out _).mono ?_; rintro e w1 ⟨rfl, rfl⟩)
  exact bodyPost_ret (v := .tuple #[tk0, .int .i64 42]) (by simp [results, Tryz.f79, go_sem]) rfl ⟨rfl, (Below.refl _ _).alloc (Nat.le_refl _) _⟩
set_option maxHeartbeats 1000000 in
theorem rclass_bad1 (s : ByteArray) (p n : Nat) (hs : s.size ≤ 1000000) (hp : p + 2 ≤ s.size) (hn : spanN isNm (s.data.toList.drop (p + 2)) = n) (h : n ≤ 32) (h0 : 0 < n) (h2 : p + 2 + n < s.size) (hc : p + 2 + n + 1 = s.size → s[p + 2 + n].toNat ≠ 58) (hb : Lib.hasPrefix (s.data.toList.drop (p + 2 + n)) [58, 93] = false) : Tells 79 #[.string s, .int .i64 p] 0 0 0 0 ⟨#[]⟩ 0 42 := by
  intro w
  have hle : p + 2 + n ≤ s.size := by
    have := spanN_le isNm (s.data.toList.drop (p + 2))
    simp at this
    omega
  have HN : Hid (∀ w, Calls Tryz.prog 77 #[.string s, .int .i64 ((p : Int) + 2)] w fun e w' => e = .returned (.int .i64 n) ∧ w' = w) := fun w => by
    have := rname_any s (p + 2) w (by omega) hp
    rw [hn] at this
    simpa using this
  obtain ⟨z, hz⟩ : ∃ z, s.size = z := ⟨_, rfl⟩
  rw [hz] at hle
  have hpI : (p : Int) ≤ 1000000 := by omega
  have hp0 : (0 : Int) ≤ (p : Int) := by omega
  have hnI : (n : Int) ≤ 1000000 := by omega
  have hn0 : (0 : Int) ≤ (n : Int) := by omega
  have HB : Hid (∀ w, Calls Tryz.prog 78 #[.string s, .int .i64 ((p : Int) + 2 + (n : Int)), .string ⟨#[58, 93]⟩] w fun e w' => e = .returned (.bool (Lib.hasPrefix (s.data.toList.drop (p + 2 + n)) [58, 93])) ∧ w' = w) := fun w => by
    have := rbegins_any s ⟨#[58, 93]⟩ (p + 2 + n) w (by omega) (by omega) (by decide)
    simpa using this
  have h' : (n : Int) ≤ 32 := by omega
  have h3' : ((p : Int) + 2 + (n : Int) == (z : Int)) = false := by simp; omega
  have h4' : (0 : Int) < (n : Int) := by omega
  have h5' : (p : Int) + 2 + (n : Int) < (z : Int) := by omega
  have h6 : (n == 0) = false := by simp; omega
  by_cases he : p + 2 + n + 1 = s.size
  · have hc' := hc he
    have he' : (p : Int) + 2 + (n : Int) + 1 = (z : Int) := by omega
    clear hn hs hp hc he
    go_enter Tryz.func79, Tryz.ntmps79
    go_wp2_with (first | (go_at_call 77; refine (HN.out _).mono ?_; rintro e w1 ⟨rfl, rfl⟩) | (go_at_call 78; refine (HB.out _).mono ?_; rintro e w1 ⟨rfl, rfl⟩; rw [hb]))
    exact bodyPost_ret (v := .tuple #[tk0, .int .i64 42]) (by simp [results, Tryz.f79, go_sem]) rfl ⟨rfl, (Below.refl _ _).alloc (Nat.le_refl _) _⟩
  · have he' : ((p : Int) + 2 + (n : Int) + 1 == (z : Int)) = false := by simp; omega
    clear hn hs hp hc he
    go_enter Tryz.func79, Tryz.ntmps79
    go_wp2_with (first | (go_at_call 77; refine (HN.out _).mono ?_; rintro e w1 ⟨rfl, rfl⟩) | (go_at_call 78; refine (HB.out _).mono ?_; rintro e w1 ⟨rfl, rfl⟩; rw [hb]))
    exact bodyPost_ret (v := .tuple #[tk0, .int .i64 42]) (by simp [results, Tryz.f79, go_sem]) rfl ⟨rfl, (Below.refl _ _).alloc (Nat.le_refl _) _⟩
set_option maxHeartbeats 1000000 in
theorem rclass_ok (s : ByteArray) (p n : Nat) (hs : s.size ≤ 1000000) (hp : p + 2 ≤ s.size) (hn : spanN isNm (s.data.toList.drop (p + 2)) = n) (h : n ≤ 32) (h0 : 0 < n) (hb : Lib.hasPrefix (s.data.toList.drop (p + 2 + n)) [58, 93] = true) (h2 : p + 2 + n + 2 ≤ s.size) : Tells 79 #[.string s, .int .i64 p] 2 p (n + 4) 0 (s.extract (p + 1) (p + 2 + n + 1)) 0 0 := by
  intro w
  have hle : p + 2 + n ≤ s.size := by
    have := spanN_le isNm (s.data.toList.drop (p + 2))
    simp at this
    omega
  have HN : Hid (∀ w, Calls Tryz.prog 77 #[.string s, .int .i64 ((p : Int) + 2)] w fun e w' => e = .returned (.int .i64 n) ∧ w' = w) := fun w => by
    have := rname_any s (p + 2) w (by omega) hp
    rw [hn] at this
    simpa using this
  obtain ⟨z, hz⟩ : ∃ z, s.size = z := ⟨_, rfl⟩
  rw [hz] at hle
  have hpI : (p : Int) ≤ 1000000 := by omega
  have hp0 : (0 : Int) ≤ (p : Int) := by omega
  have hnI : (n : Int) ≤ 1000000 := by omega
  have hn0 : (0 : Int) ≤ (n : Int) := by omega
  have HB : Hid (∀ w, Calls Tryz.prog 78 #[.string s, .int .i64 ((p : Int) + 2 + (n : Int)), .string ⟨#[58, 93]⟩] w fun e w' => e = .returned (.bool (Lib.hasPrefix (s.data.toList.drop (p + 2 + n)) [58, 93])) ∧ w' = w) := fun w => by
    have := rbegins_any s ⟨#[58, 93]⟩ (p + 2 + n) w (by omega) (by omega) (by decide)
    simpa using this
  have h' : (n : Int) ≤ 32 := by omega
  have h3' : ((p : Int) + 2 + (n : Int) == (z : Int)) = false := by simp; omega
  have h4' : (0 : Int) < (n : Int) := by omega
  have h5' : (p : Int) + 2 + (n : Int) + 1 < (z : Int) := by omega
  have h6 : (n == 0) = false := by simp; omega
  have he' : ((p : Int) + 2 + (n : Int) + 1 == (z : Int)) = false := by simp; omega
  clear hn hs hp
  go_enter Tryz.func79, Tryz.ntmps79
  go_wp2_with (first | (go_at_call 77; refine (HN.out _).mono ?_; rintro e w1 ⟨rfl, rfl⟩) | (go_at_call 78; refine (HB.out _).mono ?_; rintro e w1 ⟨rfl, rfl⟩; rw [hb]))
  exact bodyPost_ret (v := .tuple #[tk 2 p (n + 4) 0 (s.extract (p + 1) (p + 2 + n + 1)) 0, .int .i64 0]) (by simp [results, Tryz.f79, go_sem]) rfl ⟨rfl, (Below.refl _ _).alloc (Nat.le_refl _) _⟩
end Go.Proofs
