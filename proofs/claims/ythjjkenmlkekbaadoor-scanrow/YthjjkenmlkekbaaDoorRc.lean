/-
  Digits to the base 10, there and back.
-/
import Derived.Shelf.Abstract
import Derived.Shelf.RegionOpen
import Derived.WalkKit
import Derived.WalkSpells
import Derived.WalkLawsBesides
import Derived.BigQuiet
import Derived.Deep.QuietTactic
import Derived.Deep.LoopGhost
import Derived.Lib.OthersKept
import Derived.ScopeJumps
import Derived.WalkMore
import Derived.Maps.AppendAt
import Derived.Lib.SmallJoins
import Derived.Deep.DrawnRows
import Derived.Test.YthjjkenmlkekbaaDoorBq
namespace Go.Proofs
open Go.RowKit Go.Shelf

set_option maxRecDepth 100000
attribute [local go_sem] Oper.semAt_some
attribute [local go_sem ↓] Go.wp_at_zero Go.wp_at_succ


def decF : Nat → Nat → List UInt8
  | 0, _ => []
  | k + 1, n => if n < 10 then [UInt8.ofNat (48 + n)] else decF k (n / 10) ++ [UInt8.ofNat (48 + n % 10)]
theorem decF_last {k n : Nat} (h : n < 10) : decF (k + 1) n = [UInt8.ofNat (48 + n)] := by rw [decF, if_pos h]
theorem decF_step {k n : Nat} (h : 10 ≤ n) : decF (k + 1) n = decF k (n / 10) ++ [UInt8.ofNat (48 + n % 10)] := by rw [decF, if_neg (by omega)]
theorem decF_len : ∀ (k n : Nat), (decF k n).length ≤ k
  | 0, n => by simp [decF]
  | k + 1, n => by
    have := decF_len k (n / 10)
    rw [decF]; split <;> simp <;> omega
theorem dig_facts : ∀ d : Fin 10, isDg (UInt8.ofNat (48 + d.val)) = true ∧ (UInt8.ofNat (48 + d.val)).toNat - 48 = d.val := by decide +kernel
theorem decF_dig : ∀ (k n : Nat), ∀ c ∈ decF k n, isDg c = true
  | 0, n, c, h => by simp [decF] at h
  | k + 1, n, c, h => by
    by_cases h10 : n < 10
    · rw [decF_last h10] at h
      have e : c = UInt8.ofNat (48 + n) := by simpa using h
      rw [e]; exact (dig_facts ⟨n, h10⟩).1
    · rw [decF_step (by omega), List.mem_append] at h
      rcases h with h | h
      · exact decF_dig k _ c h
      · have e : c = UInt8.ofNat (48 + n % 10) := by simpa using h
        rw [e]; exact (dig_facts ⟨n % 10, by omega⟩).1
def valD (l : List UInt8) : Nat := l.foldl (fun n c => n * 10 + (c.toNat - 48)) 0
theorem valD_snoc (l : List UInt8) (c : UInt8) : valD (l ++ [c]) = valD l * 10 + (c.toNat - 48) := by simp [valD]
theorem val_dec : ∀ (k n : Nat), n < 10 ^ (k + 1) → valD (decF (k + 1) n) = n
  | 0, n, h => by
    have h10 : n < 10 := by simpa using h
    rw [decF_last h10]
    have := (dig_facts ⟨n, h10⟩).2
    simpa [valD] using this
  | k + 1, n, h => by
    by_cases h10 : n < 10
    · rw [decF_last h10]
      have := (dig_facts ⟨n, h10⟩).2
      simpa [valD] using this
    · have hd : n / 10 < 10 ^ (k + 1) := by rw [Nat.pow_succ] at h; omega
      rw [decF_step (by omega), valD_snoc, val_dec k (n / 10) hd, (dig_facts ⟨n % 10, by omega⟩).2]
      simp only
      omega
theorem dec_first : ∀ (k n : Nat), 0 < n → n < 10 ^ (k + 1) → ∃ c r, decF (k + 1) n = c :: r ∧ c.toNat ≠ 48
  | 0, n, h0, h => by
    have h10 : n < 10 := by simpa using h
    refine ⟨_, [], decF_last h10, ?_⟩
    have := (dig_facts ⟨n, h10⟩).2
    simp only at this
    omega
  | k + 1, n, h0, h => by
    by_cases h10 : n < 10
    · refine ⟨_, [], decF_last h10, ?_⟩
      have := (dig_facts ⟨n, h10⟩).2
      simp only at this
      omega
    · have hd : n / 10 < 10 ^ (k + 1) := by rw [Nat.pow_succ] at h; omega
      obtain ⟨c, r, e, hc⟩ := dec_first k (n / 10) (by omega) hd
      exact ⟨c, r ++ [UInt8.ofNat (48 + n % 10)], by rw [decF_step (by omega), e]; rfl, hc⟩
theorem uintM_val : ∀ (l : List UInt8) (acc : Nat), (∀ c ∈ l, isDg c = true) → (acc + 1) * 10 ^ l.length ≤ 1000000000000000000 → Lib.parseUintM (2 ^ 64 - 1) acc l = .ok (l.foldl (fun n c => n * 10 + (c.toNat - 48)) acc)
  | [], acc, _, _ => rfl
  | c :: l, acc, h, hb => by
    have hc := h c (by simp)
    simp only [isDg, Bool.and_eq_true, decide_eq_true_eq] at hc
    have hb2 : (acc * 10 + (c.toNat - 48) + 1) * 10 ^ l.length ≤ (acc + 1) * 10 ^ (c :: l).length := by
      rw [List.length_cons, Nat.pow_succ, Nat.mul_comm (10 ^ l.length), ← Nat.mul_assoc]
      exact Nat.mul_le_mul_right _ (by omega)
    have hp : 1 ≤ 10 ^ l.length := Nat.one_le_pow _ _ (by omega)
    have hac : acc + 1 ≤ 1000000000000000000 := by
      have : (acc + 1) * 1 ≤ (acc + 1) * 10 ^ (c :: l).length := Nat.mul_le_mul_left _ (Nat.one_le_pow _ _ (by omega))
      omega
    have h1 := uintM_val l (acc * 10 + (c.toNat - 48)) (fun x hx => h x (by simp [hx])) (by omega)
    have hlt : acc * 10 + (c.toNat - 48) < 1000000000000000000 := by
      have : (acc * 10 + (c.toNat - 48) + 1) * 1 ≤ (acc * 10 + (c.toNat - 48) + 1) * 10 ^ l.length := Nat.mul_le_mul_left _ hp
      omega
    rw [Lib.parseUintM, if_pos hc, if_neg (by omega), if_neg (by omega), List.foldl_cons]
    exact h1
theorem int_dec (n : Nat) (h0 : 0 < n) (h : n < 1000000000) : Lib.parseIntB 64 (decF 9 n) = .ok (n : Int) := by
  obtain ⟨c, r, e, _⟩ := dec_first 8 n h0 h
  have hdg := decF_dig 9 n
  have hv := val_dec 8 n h
  have hlen := decF_len 9 n
  rw [e] at hdg hv hlen ⊢
  have hc := hdg c (by simp)
  simp only [isDg, Bool.and_eq_true, decide_eq_true_eq] at hc
  have hp : 10 ^ (c :: r).length ≤ 10 ^ 9 := Nat.pow_le_pow_right (by omega) hlen
  have h1 := uintM_val (c :: r) 0 hdg (by omega)
  unfold Lib.parseIntB Lib.parseUintB
  simp only
  rw [if_neg (show ¬ (c.toNat = 43 ∨ c.toNat = 45) by omega), if_neg (by simp), h1]
  simp only
  rw [show List.foldl (fun n c => n * 10 + (c.toNat - 48)) 0 (c :: r) = n from hv]
  rw [if_neg (by omega), if_neg (by omega), if_neg (by omega)]
theorem quo10 (n : Nat) (hn : n ≤ 1000000000) (W : World) : (binOp .quo 3 (.int .i64 n) (.int .i64 10)).run Tryd.prog W = .ok (.int .i64 ((n / 10 : Nat) : Int)) W := by
  go_simp
  simp [IntKind.wrap, IntKind.signed, IntKind.bits]
  omega
theorem rem10 (n : Nat) (W : World) : (binOp .rem 3 (.int .i64 n) (.int .i64 10)).run Tryd.prog W = .ok (.int .i64 ((n % 10 : Nat) : Int)) W := by
  go_simp
  exact Int.tmod_eq_emod_of_nonneg (by omega)
theorem convD (n : Nat) (h : n < 10) : ∀ w : World, (convert 38 9 (.slice (some ⟨w.heap.size, 0, none⟩) 1 1)).run Tryd.prog (w.alloc (.cells #[.int .u8 (48 + (n : Int))] 5)) = .ok (.string ⟨#[UInt8.ofNat (48 + n)]⟩) (w.alloc (.cells #[.int .u8 (48 + (n : Int))] 5)) := fun w => by
  have := conv1 (48 + n) (by omega) w
  rw [show ((48 + n : Nat) : Int) = 48 + (n : Int) by omega] at this
  exact this
theorem convG (n : Nat) (h : n < 10) : ∀ (W : World) (g : Nat), W.cell? ⟨g, 0, none⟩ = some (.int .u8 (48 + (n : Int))) → (convert 38 9 (.slice (some ⟨g, 0, none⟩) 1 1)).run Tryd.prog W = .ok (.string ⟨#[UInt8.ofNat (48 + n)]⟩) W := fun W g hc => by
  have := run_convert_bytes_back (P := Tryd.prog) W 38 9 5 ⟨g, 0, none⟩ 1 [UInt8.ofNat (48 + n)] Tryd.underlying38 Tryd.underlying5 Tryd.underlying9 (fun j hj => by
    match j, hj with
    | 0, _ =>
      have e : (UInt8.ofNat (48 + n)).toNat = 48 + n := by simp; omega
      show W.cell? ⟨g, 0 + 0, none⟩ = some (.int .u8 ((UInt8.ofNat (48 + n)).toNat : Int))
      rw [e, show ((48 + n : Nat) : Int) = 48 + (n : Int) by omega]
      exact hc)
  exact this
set_option maxHeartbeats 400000 in
theorem digitsR_any : ∀ (k n : Nat) (w : World), n < 10 ^ (k + 1) → k ≤ 8 → Calls Tryd.prog 30 #[.int .i64 n] w fun e w' => e = .returned (.string ⟨(decF (k + 1) n).toArray⟩) ∧ Below w.heap.size w w' := by
  intro k
  have one : ∀ (n : Nat) (w : World), n < 10 → Calls Tryd.prog 30 #[.int .i64 n] w fun e w' => e = .returned (.string ⟨#[UInt8.ofNat (48 + n)]⟩) ∧ Below w.heap.size w w' := by
    intro n w h10
    have hni : (n : Int) < 10 := by omega
    have hcv := convD n h10
    generalize UInt8.ofNat (48 + n) = c at hcv ⊢
    go_enter Tryd.func30, Tryd.ntmps30
    go_wp2
    go_ret
    exact ⟨rfl, (Below.refl _ _).alloc (Nat.le_refl _) _⟩
  induction k with
  | zero =>
    intro n w hn _
    have h10 : n < 10 := by simpa using hn
    rw [decF_last h10]
    exact one n w h10
  | succ k ih =>
    intro n w hn hk
    by_cases h10 : n < 10
    · rw [decF_last h10]
      exact one n w h10
    · rw [decF_step (by omega)]
      have hd : decide ((n : Int) < 10) = false := by simp; omega
      have hdiv : n / 10 < 10 ^ (k + 1) := by rw [Nat.pow_succ] at hn; omega
      have hnb : n ≤ 1000000000 := by
        have : 10 ^ (k + 1 + 1) ≤ 10 ^ 9 := Nat.pow_le_pow_right (by omega) (by omega)
        omega
      have hq : Int.tdiv (n : Int) 10 = ((n / 10 : Nat) : Int) := by rw [Int.tdiv_eq_ediv_of_nonneg (by omega)]; rfl
      have hrm : Int.tmod (n : Int) 10 = ((n % 10 : Nat) : Int) := by rw [Int.tmod_eq_emod_of_nonneg (by omega)]; rfl
      have hwm : IntKind.i64.wrap ((n / 10 : Nat) : Int) = ((n / 10 : Nat) : Int) := IntWalk.i64_in _ (by omega)
      have HI : Hid (∀ W : World, Calls Tryd.prog 30 #[.int .i64 ((n / 10 : Nat) : Int)] W fun e w' => e = .returned (.string ⟨(decF (k + 1) (n / 10)).toArray⟩) ∧ Below W.heap.size W w') := fun W => ih (n / 10) W hdiv (by omega)
      have hz : (decF (k + 1) (n / 10)).length ≤ 9 := by have := decF_len (k + 1) (n / 10); omega
      have hm : n % 10 < 10 := Nat.mod_lt _ (by omega)
      have hcv := convG (n % 10) hm
      generalize decF (k + 1) (n / 10) = L at HI hz ⊢
      generalize n % 10 = d at hm hcv hrm ⊢
      generalize n / 10 = m at HI hq hwm hdiv
      have hw1 : IntKind.i64.wrap (48 + (d : Int)) = 48 + (d : Int) := IntWalk.i64_in _ (by omega)
      have hw2 : IntKind.u8.wrap (48 + (d : Int)) = 48 + (d : Int) := by simp [IntKind.wrap, IntKind.signed, IntKind.bits]; omega
      have hzz : ¬ 9223372036854775807 < L.length + 1 := by omega
      clear hn hdiv hnb
      generalize UInt8.ofNat (48 + d) = c at hcv ⊢
      clear ih one
      go_enter Tryd.func30, Tryd.ntmps30
      go_wp2_with fail
      go_region_with (first | (go_at_call 30; refine (HI.out _).mono ?_; rintro e w1 ⟨rfl, hb⟩; have hcl := hb.cell (p := ⟨w.heap.size, 0, none⟩); simp at hcl))
      all_goals go_wp2_with fail
      all_goals go_ret
      · exact ⟨by show Ending.returned (.string (⟨L.toArray⟩ ++ ⟨#[c]⟩)) = _; rw [app_mk]; simp, ((Below.refl _ w).drew.trans hb).alloc hb.size _⟩
      · refine ⟨by show Ending.returned (.string (⟨L.toArray⟩ ++ ⟨#[c]⟩)) = _; rw [app_mk]; simp, ?_⟩
        exact (((Below.refl _ w).alloc (Nat.le_refl _) (.cells #[.int .u8 (48 + (d : Int))] 5)).drew).trans (hb.mono (by simp))
      · refine ⟨by show Ending.returned (.string (⟨L.toArray⟩ ++ ⟨#[c]⟩)) = _; rw [app_mk]; simp, ?_⟩
        exact (((Below.refl _ w).alloc (Nat.le_refl _) (.cells #[.int .u8 (48 + (d : Int))] 5)).drew).trans (hb.mono (by simp))
end Go.Proofs
