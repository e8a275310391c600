/-
  The document's scanner: beginnings, signs, digits.
-/
import Derived.Shelf.Abstract
import Derived.Shelf.RegionOpen
import Derived.WalkKit
import Derived.WalkSpells
import Derived.WalkLawsBesides
import Derived.BigQuiet
import Derived.Deep.QuietTactic
import Derived.Deep.LoopGhost
import Derived.Lib.OthersKept
import Derived.WalkMore
import Derived.Test.YtknaoahokopplaaGreatDoorKac
namespace Go.Proofs
open Go.RowKit Go.Shelf

set_option maxRecDepth 100000
attribute [local go_sem] Oper.semAt_some

theorem extract_list (s : ByteArray) (a b : Nat) : (s.extract a b).data.toList = (s.data.toList.drop a).take (b - a) := by
  simp only [ByteArray.data_extract, Array.toList_extract, List.extract]
theorem pre_take (l t : List UInt8) : Lib.hasPrefix l t = (l.take t.length == t) := by
  unfold Lib.hasPrefix
  induction t generalizing l with
  | nil => simp
  | cons a t ih =>
    cases l with
    | nil => simp
    | cons b l =>
      simp only [List.isPrefixOf, List.length_cons, List.take_succ_cons, ih]
      rw [Bool.eq_iff_iff, Bool.and_eq_true, beq_iff_eq, beq_iff_eq, beq_iff_eq, List.cons.injEq]
      exact ⟨fun h => ⟨h.1.symm, h.2⟩, fun h => ⟨h.1.symm, h.2⟩⟩
set_option maxHeartbeats 1000000 in
theorem rbegins_any (s t : ByteArray) (p : Nat) (w : World) (hs : s.size ≤ 1000000) (hp : p ≤ s.size) (ht : t.size ≤ 100) : Calls Tryz.prog 78 #[.string s, .int .i64 p, .string t] w fun e w' => e = .returned (.bool (Lib.hasPrefix (s.data.toList.drop p) t.data.toList)) ∧ w' = w := by
  obtain ⟨m, hm⟩ : ∃ m, t.size = m := ⟨_, rfl⟩
  obtain ⟨n, hn⟩ : ∃ n, s.size = n := ⟨_, rfl⟩
  have hpI : (p : Int) ≤ 1000000 := by omega
  have hp0 : (0 : Int) ≤ (p : Int) := by omega
  have hmI : (m : Int) ≤ 100 := by omega
  have hm0 : (0 : Int) ≤ (m : Int) := by omega
  have htl : t.data.toList.length = m := by simpa using hm
  by_cases hlt : p + m ≤ n
  · have hlt' : (p : Int) + (m : Int) ≤ (n : Int) := by omega
    have hR : Hid (Lib.hasPrefix (s.data.toList.drop p) t.data.toList = ((s.extract p (p + m)).data.toList == t.data.toList)) := by
      show _ = _
      rw [pre_take, htl, extract_list]
      simp
    rw [hR.out, ← ByteArray.toList_eq, ← ByteArray.toList_eq]
    go_enter Tryz.func78, Tryz.ntmps78
    go_wp2
    go_ret
    exact ⟨rfl, rfl⟩
  · have hlt' : (n : Int) < (p : Int) + (m : Int) := by omega
    have hR : Lib.hasPrefix (s.data.toList.drop p) t.data.toList = false := by
      rw [pre_take]
      rw [beq_eq_false_iff_ne]
      intro e
      have := congrArg List.length e
      simp at this
      omega
    rw [hR]
    go_enter Tryz.func78, Tryz.ntmps78
    go_wp2
    go_ret
    exact ⟨rfl, rfl⟩
theorem idx_none {l : List UInt8} {c : UInt8} : Lib.indexByte l c = -1 ↔ c ∉ l := by
  induction l with
  | nil => simp [Lib.indexByte]
  | cons b l ih =>
    simp only [Lib.indexByte, List.mem_cons, not_or]
    have hpos : -1 ≤ Lib.indexByte l c := by
      clear ih
      induction l with
      | nil => simp [Lib.indexByte]
      | cons d l ih2 => simp only [Lib.indexByte]; split <;> (try split) <;> omega
    split
    · rename_i h
      simp at h
      constructor
      · intro h2; omega
      · intro h2; exact absurd h.symm h2.1
    · rename_i h
      simp at h
      split
      · rename_i h2
        simp at h2
        simp only [true_iff]
        exact ⟨fun e => h e.symm, ih.1 h2⟩
      · rename_i h2
        simp at h2
        constructor
        · intro h3; omega
        · intro h3; exact absurd (ih.2 h3.2) h2
theorem idx_step (l : List UInt8) (c : UInt8) (k : Nat) (hk : k < l.length) (hn : c ∉ l.take k) (hc : l[k] = c) : Lib.indexByte l c = k := by
  induction l generalizing k with
  | nil => simp at hk
  | cons b l ih =>
    cases k with
    | zero => simp at hc; simp [Lib.indexByte, hc]
    | succ k =>
      simp only [List.take_succ_cons, List.mem_cons, not_or] at hn
      have h1 := ih k (by simpa using hk) hn.2 (by simpa using hc)
      have hb : (b == c) = false := by simpa using fun e => hn.1 e.symm
      simp only [Lib.indexByte, hb, h1]
      have : ((k : Int) == -1) = false := by simp
      simp [this]
set_option maxHeartbeats 1000000 in
theorem rin_any (c : UInt8) (t : ByteArray) (w : World) (ht : t.size ≤ 100) : Calls Tryz.prog 80 #[.int .u8 c.toNat, .string t] w fun e w' => e = .returned (.int .i64 (Lib.indexByte t.data.toList c)) ∧ w' = w := by
  obtain ⟨n, hn⟩ : ∃ n, t.size = n := ⟨_, rfl⟩
  have hnI : (n : Int) ≤ 100 := by omega
  go_enter Tryz.func80, Tryz.ntmps80
  go_wp2
  go_loopw [5] (fun vi wr => ∃ k : Nat, vi = .int .i64 k ∧ k ≤ n ∧ Hid (c ∉ t.data.toList.take k) ∧ wr = w) (fun vi _ => n - (intOf vi).toNat)
  case atStart => exact ⟨0, rfl, by omega, by show _; simp [Hid], rfl⟩
  case round =>
    obtain ⟨k, rfl, hk, hS, rfl⟩ := hrel
    by_cases hlt : k < n
    · have hlt' : (k : Int) < (n : Int) := by omega
      have hkt : k < t.size := by omega
      have hkl : k < t.data.toList.length := by simpa using hkt
      have hge : t.data.toList[k] = t[k] := by simp [ByteArray.getElem_eq_getElem_data]
      by_cases hc : t[k] = c
      · have hd : ((t[k].toNat : Int) == (c.toNat : Int)) = true := by simp [hc]
        have HS : Hid (Lib.indexByte t.data.toList c = k) := idx_step _ _ k hkl hS.out (hge.trans hc)
        clear hS hge
        go_wp2
        go_ret
        exact ⟨by rw [HS.out]; rfl, rfl⟩
      · have hd : ((t[k].toNat : Int) == (c.toNat : Int)) = false := by
          simp only [beq_eq_false_iff_ne, ne_eq, Int.natCast_inj]
          exact fun e => hc (UInt8.toNat_inj.1 e)
        have HS : Hid (c ∉ t.data.toList.take (k + 1)) := by
          show _ ∉ _
          rw [List.take_succ_eq_append_getElem hkl, List.mem_append, not_or, hge]
          exact ⟨hS.out, by simpa using fun e => hc e.symm⟩
        clear hS hge
        go_wp2
        exact ⟨⟨k + 1, by go_num, by omega, HS, (by first | rfl | trivial)⟩, by simp [intOf]; omega⟩
    · have HS : Hid (Lib.indexByte t.data.toList c = -1) := by
        have := hS.out
        rw [List.take_of_length_le (by simp; omega)] at this
        exact idx_none.2 this
      clear hS
      go_wp2
      go_ret
      exact ⟨by rw [HS.out]; rfl, rfl⟩
end Go.Proofs
