/-
  What is let by, as the statement asks it; a text that is too long.
-/
import Derived.Shelf.Abstract
import Derived.Shelf.RegionOpen
import Derived.WalkKit
import Derived.WalkSpells
import Derived.WalkLawsBesides
import Derived.BigQuiet
import Derived.Deep.QuietTactic
import Derived.Deep.LoopGhost
import Derived.Lib.OthersKept
import Derived.ScopeJumps
import Derived.WalkMore
import Derived.Maps.AppendAt
import Derived.Lib.SmallJoins
import Derived.Test.YthjjkenmlkekbaaDoorPo
namespace Go.Proofs
open Go.RowKit Go.Shelf

set_option maxRecDepth 100000
attribute [local go_sem] Oper.semAt_some


set_option maxHeartbeats 1000000 in
theorem letBy_any (s : ByteArray) (w : World) (hs : s.size ≤ 1000000000000) (h : pastN false s.data.toList = s.size) : Calls Tryd.prog 16 #[.string s] w fun e w' => e = .returned (.bool true) ∧ w' = w := by
  have HP : Hid (pastN false s.data.toList = s.size) := h
  clear h
  go_enter Tryd.func16, Tryd.ntmps16
  go_wp2
  go_loopw [3] (fun vi wr => ∃ i : Nat, vi = .int .i64 i ∧ i ≤ s.size + 1 ∧ Hid (i ≤ s.size → pastN false (s.data.toList.drop i) = s.size - i) ∧ wr = w) (fun vi _ => s.size + 1 - (intOf vi).toNat)
  case atStart => exact ⟨0, rfl, by omega, fun _ => by rw [List.drop_zero, HP.out]; omega, rfl⟩
  case round =>
    obtain ⟨i, rfl, hi, hS, rfl⟩ := hrel
    clear HP
    by_cases hlt : i < s.size
    · have hlti : (i : Int) < (s.size : Int) := by omega
      have hS2 := hS.out (by omega)
      rw [drop_at hlt] at hS2
      by_cases hws : isWs s[i] = true
      · rw [pastN_ws hws] at hS2
        have HS : Hid (i + 1 ≤ s.size → pastN false (s.data.toList.drop (i + 1)) = s.size - (i + 1)) := fun _ => by omega
        have hws' : s[i].toNat = 32 ∨ s[i].toNat = 9 ∨ s[i].toNat = 10 ∨ s[i].toNat = 13 := by simpa [isWs, or_assoc] using hws
        clear hS hS2 hws
        rcases hws' with e | e | e | e
        all_goals
          go_wp2
          exact ⟨⟨i + 1, by go_num, by omega, HS, (by first | rfl | trivial)⟩, by simp [intOf]; omega⟩
      · have hws0 : isWs s[i] = false := by simpa using hws
        obtain ⟨n32, n9, n10, n13⟩ : s[i].toNat ≠ 32 ∧ s[i].toNat ≠ 9 ∧ s[i].toNat ≠ 10 ∧ s[i].toNat ≠ 13 := by simpa [isWs, and_assoc] using hws0
        have hsh : s[i].toNat = 35 := by
          apply Classical.byContradiction
          intro hn
          rw [pastN_stop hws0 hn] at hS2
          omega
        rw [pastN_sharp hsh, ← drop_at hlt] at hS2
        have HS : Hid (pastN true (s.data.toList.drop i) = s.size - i) := hS2
        clear hS hS2 hws hws0
        go_wp2
        go_loopw [3] (fun vi wx => ∃ m : Nat, vi = .int .i64 m ∧ i ≤ m ∧ m ≤ s.size ∧ Hid (pastN true (s.data.toList.drop m) = s.size - m) ∧ wx = wr) (fun vi _ => s.size - (intOf vi).toNat)
        case atStart => exact ⟨i, rfl, by omega, by omega, HS, rfl⟩
        case round =>
          obtain ⟨m, rfl, him, hm, hS3, rfl⟩ := hrel
          clear HS
          by_cases hlt2 : m < s.size
          · have hlt2i : (m : Int) < (s.size : Int) := by omega
            have hS4 := hS3.out
            rw [drop_at hlt2] at hS4
            by_cases h10 : s[m].toNat = 10
            · rw [pastN_nl h10, pastN_ws (by simp [isWs, h10])] at hS4
              have HS : Hid (m + 1 ≤ s.size → pastN false (s.data.toList.drop (m + 1)) = s.size - (m + 1)) := fun _ => by omega
              clear hS3 hS4
              go_wp2
              exact ⟨⟨m + 1, by go_num, by omega, HS, (by first | rfl | trivial)⟩, by simp [intOf]; omega⟩
            · rw [pastN_in h10] at hS4
              have HS : Hid (pastN true (s.data.toList.drop (m + 1)) = s.size - (m + 1)) := by show _ = _; omega
              have h10i : ((s[m].toNat : Int) != 10) = true := by simp; omega
              clear hS3 hS4
              go_wp2
              exact ⟨⟨m + 1, by go_num, by omega, by omega, HS, (by first | rfl | trivial)⟩, by simp [intOf]; omega⟩
          · obtain rfl : m = s.size := by omega
            have HS : Hid (s.size + 1 ≤ s.size → pastN false (s.data.toList.drop (s.size + 1)) = s.size - (s.size + 1)) := fun h => by omega
            clear hS3
            go_wp2
            exact ⟨⟨s.size + 1, by go_num, by omega, HS, (by first | rfl | trivial)⟩, by simp [intOf]; omega⟩
    · have hlti : decide ((i : Int) < (s.size : Int)) = false := by simp; omega
      clear hS
      go_wp2
      go_ret
      exact ⟨rfl, rfl⟩
set_option maxHeartbeats 1000000 in
theorem scan_long (s : ByteArray) (hs : 32768 < s.size) (w : World) : Calls Tryd.prog 12 #[.string s] w fun e w' => e = .returned (.tuple #[.slice none 0 0, .agg #[.int .i64 32768, .int .i64 2]]) ∧ Below w.heap.size w w' := by
  have hd : decide ((32768 : Int) < (s.size : Int)) = true := by simp; omega
  go_enter Tryd.func12, Tryd.ntmps12
  go_wp2
  go_step3
  go_wp2
  rw [Exit.noGoto_ret]
  exact bodyPost_ret (v := .tuple #[.slice none 0 0, .agg #[.int .i64 32768, .int .i64 2]]) (by simp [results, Tryd.f12, go_sem]) rfl ⟨rfl, (Below.refl _ _).alloc (Nat.le_refl _) _⟩
end Go.Proofs
