/-
  What the reference says of writing.
-/
import Derived.Shelf.Abstract
import Derived.Shelf.RegionOpen
import Derived.WalkKit
import Derived.WalkSpells
import Derived.WalkLawsBesides
import Derived.BigQuiet
import Derived.Deep.QuietTactic
import Derived.Deep.LoopGhost
import Derived.Lib.OthersKept
import Derived.ScopeJumps
import Derived.WalkMore
import Derived.Maps.AppendAt
import Derived.Lib.SmallJoins
import Derived.Test.YthjjkenmlkekbaaDoorWa
namespace Go.Proofs
open Go.RowKit Go.Shelf

set_option maxRecDepth 100000
attribute [local go_sem] Oper.semAt_some


theorem wd_1 {u : Int} (h : (0 ≤ u ∧ u ≤ 127) ∨ (1114240 ≤ u ∧ u ≤ 1114367)) : wd u = 1 := by
  unfold wd Lib.runeLen
  repeat' split
  all_goals omega
theorem wd_2 {u : Int} (h : 128 ≤ u ∧ u ≤ 2047) : wd u = 2 := by
  unfold wd Lib.runeLen
  repeat' split
  all_goals omega
theorem wd_3 {u : Int} (h : 2048 ≤ u ∧ u ≤ 65535 ∧ (u < 55296 ∨ 57343 < u)) : wd u = 3 := by
  unfold wd Lib.runeLen
  repeat' split
  all_goals omega
theorem wd_4 {u : Int} (h : 65536 ≤ u ∧ u ≤ 1114111) : wd u = 4 := by
  unfold wd Lib.runeLen
  repeat' split
  all_goals omega
set_option maxHeartbeats 1000000 in
theorem rwidth_any (u : Int) (w : World) : Calls Tryd.prog 21 #[.int .i64 u] w fun e w' => e = .returned (.int .i64 (wd u)) ∧ w' = w := by
  go_enter Tryd.func21, Tryd.ntmps21
  go_wp2
  all_goals (go_ret; refine ⟨?_, rfl⟩; first | (rw [wd_1 (by omega)]; rfl) | (rw [wd_2 (by omega)]; rfl) | (rw [wd_3 (by omega)]; rfl) | (rw [wd_4 (by omega)]; rfl) | (rw [wd_no (by omega) (by omega)]; rfl))
theorem app_mk (a b : Array UInt8) : (⟨a⟩ : ByteArray) ++ ⟨b⟩ = ⟨a ++ b⟩ := ByteArray.ext (by simp)
theorem hexDig : ∀ d : Fin 16, (⟨#[48, 49, 50, 51, 52, 53, 54, 55, 56, 57, 65, 66, 67, 68, 69, 70]⟩ : ByteArray).extract d.val (d.val + 1) = ⟨#[Lib.upperB (dgc d.val)]⟩ := by decide +kernel
theorem quo16 (n : Nat) (hn : n ≤ 16777215) (W : World) : (binOp .quo 3 (.int .i64 n) (.int .i64 16)).run Tryd.prog W = .ok (.int .i64 ((n / 16 : Nat) : Int)) W := by
  go_simp
  simp [IntKind.wrap, IntKind.signed, IntKind.bits]
  omega
theorem rem16 (n : Nat) (W : World) : (binOp .rem 3 (.int .i64 n) (.int .i64 16)).run Tryd.prog W = .ok (.int .i64 ((n % 16 : Nat) : Int)) W := by
  go_simp
  exact Int.tmod_eq_emod_of_nonneg (by omega)
set_option maxHeartbeats 1000000 in
theorem hexR_one (n : Nat) (w : World) (hn16 : n < 16) : Calls Tryd.prog 22 #[.int .i64 n] w fun e w' => e = .returned (.string ⟨#[Lib.upperB (dgc n)]⟩) ∧ w' = w := by
  have hni : (n : Int) < 16 := by omega
  have he := hexDig ⟨n, hn16⟩
  simp only at he
  go_enter Tryd.func22, Tryd.ntmps22
  go_wp2
  go_ret
  exact ⟨rfl, rfl⟩
set_option maxHeartbeats 1000000 in
theorem hexR_any : ∀ (k n : Nat) (w : World), n < 16 ^ (k + 1) → k ≤ 5 → Calls Tryd.prog 22 #[.int .i64 n] w fun e w' => e = .returned (.string ⟨(Lib.toUpperA (hexF (k + 1) n)).toArray⟩) ∧ w' = w := by
  intro k
  induction k with
  | zero =>
    intro n w hn _
    have hn16 : n < 16 := by simpa using hn
    rw [hexF_last hn16]
    exact hexR_one n w hn16
  | succ k ih =>
    intro n w hn hk
    by_cases hn16 : n < 16
    · rw [hexF_last hn16]
      exact hexR_one n w hn16
    · rw [hexF_step (by omega)]
      have hd : decide ((n : Int) < 16) = false := by simp; omega
      have hdiv : n / 16 < 16 ^ (k + 1) := by rw [Nat.pow_succ] at hn; omega
      have hnb : n ≤ 16777215 := by
        have : 16 ^ (k + 1 + 1) ≤ 16 ^ 6 := Nat.pow_le_pow_right (by omega) (by omega)
        omega
      have hq := quo16 n hnb
      have hrm := rem16 n
      have HI : Hid (∀ W : World, Calls Tryd.prog 22 #[.int .i64 ((n / 16 : Nat) : Int)] W fun e w' => e = .returned (.string ⟨(Lib.toUpperA (hexF (k + 1) (n / 16))).toArray⟩) ∧ w' = W) := fun W => ih (n / 16) W hdiv (by omega)
      have HO : Hid (∀ W : World, Calls Tryd.prog 22 #[.int .i64 ((n % 16 : Nat) : Int)] W fun e w' => e = .returned (.string ⟨#[Lib.upperB (dgc (n % 16))]⟩) ∧ w' = W) := fun W => hexR_one (n % 16) W (by omega)
      have hz : (hexF (k + 1) (n / 16)).length ≤ 6 := by have := hexF_len (k + 1) (n / 16); omega
      have ht : Lib.toUpperA (hexF (k + 1) (n / 16) ++ [dgc (n % 16)]) = Lib.toUpperA (hexF (k + 1) (n / 16)) ++ [Lib.upperB (dgc (n % 16))] := by simp [Lib.toUpperA]
      rw [ht]
      have hz2 : (Lib.toUpperA (hexF (k + 1) (n / 16))).length ≤ 6 := by simpa [Lib.toUpperA] using hz
      generalize Lib.toUpperA (hexF (k + 1) (n / 16)) = L at HI hz2 ⊢
      generalize Lib.upperB (dgc (n % 16)) = c at HO ⊢
      clear ih ht hz
      go_enter Tryd.func22, Tryd.ntmps22
      go_wp2_with fail
      refine (HI.out _).mono ?_
      rintro e w1 ⟨rfl, rfl⟩
      go_wp2_with fail
      refine (HO.out _).mono ?_
      rintro e w2 ⟨rfl, rfl⟩
      go_wp2_with fail
      go_ret
      refine ⟨?_, rfl⟩
      show Ending.returned (.string (⟨L.toArray⟩ ++ ⟨#[c]⟩)) = _
      rw [app_mk]
      simp
/-! which byte of a text -/
theorem idx_eq (c : UInt8) (l : List UInt8) : Lib.indexByte (c :: l) c = 0 := by rw [Lib.indexByte, if_pos (by simp)]
theorem idx_ne {b c : UInt8} (h : b ≠ c) (l : List UInt8) : Lib.indexByte (b :: l) c = if Lib.indexByte l c = -1 then -1 else Lib.indexByte l c + 1 := by
  rw [Lib.indexByte, if_neg (by simpa using h)]
  simp only [beq_iff_eq]
set_option maxHeartbeats 1000000 in
theorem in_any (c : UInt8) (s : ByteArray) (w : World) (hs : s.size ≤ 1000) : Calls Tryd.prog 23 #[.int .u8 c.toNat, .string s] w fun e w' => e = .returned (.int .i64 (Lib.indexByte s.data.toList c)) ∧ w' = w := by
  obtain ⟨r, hr⟩ : ∃ r, Lib.indexByte s.data.toList c = r := ⟨_, rfl⟩
  have HR : Hid (Lib.indexByte s.data.toList c = r) := hr
  rw [hr]
  clear hr
  go_enter Tryd.func23, Tryd.ntmps23
  go_wp2
  go_loopw [5] (fun vi wr => ∃ k : Nat, vi = .int .i64 k ∧ k ≤ s.size ∧ Hid (r = if Lib.indexByte (s.data.toList.drop k) c = -1 then -1 else (k : Int) + Lib.indexByte (s.data.toList.drop k) c) ∧ wr = w) (fun vi _ => s.size - (intOf vi).toNat)
  case atStart =>
    refine ⟨0, rfl, by omega, ?_, rfl⟩
    show r = _
    rw [← HR.out, List.drop_zero]
    split
    · assumption
    · simp
  case round =>
    obtain ⟨k, rfl, hk, hS, rfl⟩ := hrel
    clear HR
    by_cases hkn : k < s.size
    · have hki : (k : Int) < (s.size : Int) := by omega
      have hS2 := hS.out
      rw [drop_at hkn] at hS2
      by_cases he : s[k] = c
      · rw [he, idx_eq, if_neg (by decide)] at hS2
        have HS : Hid (r = (k : Int)) := by show r = _; simpa using hS2
        have hcc : ((s[k].toNat : Int) == (c.toNat : Int)) = true := by rw [he]; simp
        clear hS hS2
        go_wp2
        go_ret
        exact ⟨by rw [HS.out]; rfl, rfl⟩
      · rw [idx_ne he] at hS2
        have HS : Hid (r = if Lib.indexByte (s.data.toList.drop (k + 1)) c = -1 then -1 else ((k + 1 : Nat) : Int) + Lib.indexByte (s.data.toList.drop (k + 1)) c) := by
          show r = _
          rw [hS2]
          have hb := (idx_bound (s.data.toList.drop (k + 1)) c).1
          generalize Lib.indexByte (s.data.toList.drop (k + 1)) c = i at hb ⊢
          by_cases h1 : i = -1
          · subst h1; rfl
          · rw [if_neg h1, if_neg h1, if_neg (by omega)]
            push_cast
            omega
        have hcc : ((s[k].toNat : Int) == (c.toNat : Int)) = false := by
          rw [beq_eq_false_iff_ne]
          intro e
          exact he (UInt8.toNat_inj.1 (Int.ofNat_inj.1 e))
        clear hS hS2
        go_wp2
        exact ⟨⟨k + 1, by go_num, by omega, HS, (by first | rfl | trivial)⟩, by simp [intOf]; omega⟩
    · have HS : Hid (r = -1) := by
        have := hS.out
        rw [List.drop_of_length_le (by simp; omega)] at this
        show r = _
        simpa [Lib.indexByte] using this
      clear hS
      go_wp2
      go_ret
      exact ⟨by rw [HS.out]; rfl, rfl⟩
/-! signs -/
theorem sgn_at : ∀ d : Fin 13, (⟨#[62, 59, 123, 125, 124, 94, 36, 46, 91, 93, 45, 61, 58]⟩ : ByteArray).extract d.val (d.val + 1) = ⟨#[sgnL[d.val]'d.isLt]⟩ := by decide +kernel
/-- the sign of a kind -/
def signB (k : Int) : ByteArray := if 10 ≤ k ∧ k < 23 then ⟨#[sgnL.getD (k - 10).toNat 0]⟩ else ⟨#[]⟩
end Go.Proofs
