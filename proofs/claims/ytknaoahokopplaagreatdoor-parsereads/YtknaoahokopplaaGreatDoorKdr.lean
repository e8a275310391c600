/-
  The document's scanner: digits, copies.
-/
import Derived.Shelf.Abstract
import Derived.Shelf.RegionOpen
import Derived.WalkKit
import Derived.WalkSpells
import Derived.WalkLawsBesides
import Derived.BigQuiet
import Derived.Deep.QuietTactic
import Derived.Deep.LoopGhost
import Derived.Lib.OthersKept
import Derived.WalkMore
import Derived.Lib.ParseIntB
import Derived.Test.YtknaoahokopplaaGreatDoorMgnr
namespace Go.Proofs
open Go.RowKit Go.Shelf

set_option maxRecDepth 100000
attribute [local go_sem] Oper.semAt_some

def dg10 (c : UInt8) : Int := if isDg c then (c.toNat : Int) - 48 else -1
set_option maxHeartbeats 2000000 in
theorem rdigit10_any (c : UInt8) (w : World) : Calls Tryz.prog 124 #[.int .u8 c.toNat, .int .i64 10] w fun e w' => e = .returned (.int .i64 (dg10 c)) ∧ w' = w := by
  have hc := c.toNat_lt
  go_enter Tryz.func124, Tryz.ntmps124
  go_wp2
  all_goals (go_ret; refine ⟨?_, rfl⟩; simp [dg10, isDg]; omega)
def dg16 (c : UInt8) : Int := if isDg c then (c.toNat : Int) - 48 else if decide (97 ≤ c.toNat) && decide (c.toNat ≤ 102) then (c.toNat : Int) - 87 else if decide (65 ≤ c.toNat) && decide (c.toNat ≤ 70) then (c.toNat : Int) - 55 else -1
set_option maxHeartbeats 2000000 in
theorem rdigit16_any (c : UInt8) (w : World) : Calls Tryz.prog 124 #[.int .u8 c.toNat, .int .i64 16] w fun e w' => e = .returned (.int .i64 (dg16 c)) ∧ w' = w := by
  have hc := c.toNat_lt
  go_enter Tryz.func124, Tryz.ntmps124
  go_wp2
  all_goals (go_ret; refine ⟨?_, rfl⟩; simp [dg16, isDg]; omega)
/-- what digits count -/
def val10 : Nat → List UInt8 → Nat
  | a, [] => a
  | a, c :: l => val10 (a * 10 + (c.toNat - 48)) l
theorem val10_snoc (a : Nat) (l : List UInt8) (c : UInt8) : val10 a (l ++ [c]) = val10 a l * 10 + (c.toNat - 48) := by
  induction l generalizing a with
  | nil => rfl
  | cons b l ih => exact ih _
theorem uintM_val : ∀ (l : List UInt8) (acc : Nat), (∀ c ∈ l, isDg c = true) → (acc + 1) * 10 ^ l.length ≤ 1000000000000000000 → Lib.parseUintM (2 ^ 64 - 1) acc l = .ok (val10 acc l)
  | [], acc, _, _ => rfl
  | c :: l, acc, h, hb => by
    have hc := h c (by simp)
    simp only [isDg, Bool.and_eq_true, decide_eq_true_eq] at hc
    have hb2 : (acc * 10 + (c.toNat - 48) + 1) * 10 ^ l.length ≤ (acc + 1) * 10 ^ (c :: l).length := by
      rw [List.length_cons, Nat.pow_succ, Nat.mul_comm (10 ^ l.length), ← Nat.mul_assoc]
      exact Nat.mul_le_mul_right _ (by omega)
    have hp : 1 ≤ 10 ^ l.length := Nat.one_le_pow _ _ (by omega)
    have hac : acc + 1 ≤ 1000000000000000000 := by
      have : (acc + 1) * 1 ≤ (acc + 1) * 10 ^ (c :: l).length := Nat.mul_le_mul_left _ (Nat.one_le_pow _ _ (by omega))
      omega
    have h1 := uintM_val l (acc * 10 + (c.toNat - 48)) (fun x hx => h x (by simp [hx])) (by omega)
    have hlt : acc * 10 + (c.toNat - 48) < 1000000000000000000 := by
      have : (acc * 10 + (c.toNat - 48) + 1) * 1 ≤ (acc * 10 + (c.toNat - 48) + 1) * 10 ^ l.length := Nat.mul_le_mul_left _ hp
      omega
    rw [Lib.parseUintM, if_pos hc, if_neg (by omega), if_neg (by omega)]
    exact h1
theorem int_val (l : List UInt8) (h0 : l ≠ []) (h : ∀ c ∈ l, isDg c = true) (h9 : l.length ≤ 9) (hv : val10 0 l < 1000000000000000000) : Lib.parseIntB 64 l = .ok (val10 0 l : Int) := by
  cases l with
  | nil => exact absurd rfl h0
  | cons c l =>
    have hc := h c (by simp)
    simp only [isDg, Bool.and_eq_true, decide_eq_true_eq] at hc
    have hp : 10 ^ (c :: l).length ≤ 10 ^ 9 := Nat.pow_le_pow_right (by omega) h9
    have h1 := uintM_val (c :: l) 0 h (by omega)
    unfold Lib.parseIntB Lib.parseUintB
    simp only
    rw [if_neg (show ¬ (c.toNat = 43 ∨ c.toNat = 45) by omega), if_neg (by simp), h1]
    simp only
    rw [if_neg (by omega), if_neg (by omega), if_neg (by omega)]
/-- how far the digits are read -/
def CopRel (D : List UInt8) (z p q k m : Nat) : Prop := p + 1 + k ≤ z ∧ q = k + spanN isDg (D.drop (p + 1 + k)) ∧ m = val10 0 ((D.drop (p + 1)).take (min k 10)) ∧ m < 10 ^ (min k 10)
set_option maxHeartbeats 2000000 in
theorem rcopied_walk (s : ByteArray) (p q : Nat) (hs : s.size ≤ 1000000) (hp : p + 1 ≤ s.size) (hq : spanN isDg (s.data.toList.drop (p + 1)) = q) (w : World) (R : Ending → World → Prop)
    (h43 : (q = 0 ∨ 9 < q ∨ ∃ h : p + 1 < s.size, s[p + 1].toNat = 48) → ∀ w', Below w.heap.size w w' → R (.returned (.tuple #[tk0, .int .i64 43])) w')
    (hok : 0 < q → q ≤ 9 → (∀ h : p + 1 < s.size, s[p + 1].toNat ≠ 48) → ∀ w', Below w.heap.size w w' → R (.returned (.tuple #[tk 3 p (q + 1) 0 ⟨#[]⟩ (val10 0 ((s.data.toList.drop (p + 1)).take q)), .int .i64 0])) w') :
    Calls Tryz.prog 81 #[.string s, .int .i64 p] w R := by
  obtain ⟨z, hz⟩ : ∃ z, s.size = z := ⟨_, rfl⟩
  have H43 : Hid ((q = 0 ∨ 9 < q ∨ ∃ h : p + 1 < s.size, s[p + 1].toNat = 48) → ∀ w', Below w.heap.size w w' → R (.returned (.tuple #[tk0, .int .i64 43])) w') := h43
  have HOK : Hid (0 < q → q ≤ 9 → (∀ h : p + 1 < s.size, s[p + 1].toNat ≠ 48) → ∀ w', Below w.heap.size w w' → R (.returned (.tuple #[tk 3 p (q + 1) 0 ⟨#[]⟩ (val10 0 ((s.data.toList.drop (p + 1)).take q)), .int .i64 0])) w') := hok
  have H0 : Hid (CopRel s.data.toList z p q 0 0) := ⟨by omega, by simpa using hq.symm, rfl, by decide⟩
  clear h43 hok hq
  go_enter Tryz.func81, Tryz.ntmps81
  go_wp2
  go_loopw [6, 7] (fun vi vm wr => ∃ k m : Nat, vi = .int .i64 k ∧ vm = .int .i64 m ∧ Hid (CopRel s.data.toList z p q k m) ∧ wr = w.alloc (.cells #[.int .i64 0, .int .i64 0, .int .i64 0, .int .i64 0, .string ⟨#[]⟩, .int .i64 0] 52)) (fun vi _ _ => z - (intOf vi).toNat)
  case atStart => exact ⟨0, 0, rfl, rfl, H0, rfl⟩
  case round =>
    obtain ⟨k, m, rfl, rfl, HR, rfl⟩ := hrel
    obtain ⟨hk, hS, hm, hml⟩ := HR.out
    have hpI : (p : Int) ≤ 1000000 := by omega
    have hp0 : (0 : Int) ≤ (p : Int) := by omega
    have hkI : (k : Int) ≤ 1000000 := by omega
    have hk0 : (0 : Int) ≤ (k : Int) := by omega
    have hm10 : m < 10000000000 := Nat.lt_of_lt_of_le hml (Nat.le_trans (Nat.pow_le_pow_right (by omega) (Nat.min_le_right _ _)) (by decide))
    have hmI : (m : Int) ≤ 10000000000 := by omega
    have hm0 : (0 : Int) ≤ (m : Int) := by omega
    by_cases hdig : ∃ h : p + 1 + k < s.size, isDg s[p + 1 + k] = true
    · obtain ⟨hks, hb⟩ := hdig
      have hlt' : (p : Int) + 1 + (k : Int) < (z : Int) := by omega
      have hS2 := hS
      rw [drop_at hks, spanN_cons, hb] at hS2
      have hbn := hb
      simp only [isDg, Bool.and_eq_true, decide_eq_true_eq] at hbn
      have hdv : dg10 s[p + 1 + k] = ((s[p + 1 + k].toNat - 48 : Nat) : Int) := by simp [dg10, hb]; omega
      have hdI : ((s[p + 1 + k].toNat - 48 : Nat) : Int) ≤ 9 := by omega
      have hd0 : (0 : Int) ≤ ((s[p + 1 + k].toNat - 48 : Nat) : Int) := by omega
      obtain ⟨dd, hdd⟩ : ∃ dd : Nat, s[p + 1 + k].toNat - 48 = dd := ⟨_, rfl⟩
      rw [hdd] at hdv hdI hd0
      have HD : Hid (dg10 s[p + 1 + k] = (dd : Int)) := hdv
      by_cases h10 : k < 10
      · have h10' : (k : Int) < 10 := by omega
        have H2 : Hid (CopRel s.data.toList z p q (k + 1) (10 * m + dd)) := by
          refine ⟨by omega, ?_, ?_, ?_⟩
          · rw [hS2, show p + 1 + (k + 1) = p + 1 + k + 1 by omega]; simp; omega
          · rw [show min (k + 1) 10 = k + 1 by omega]
            have : (s.data.toList.drop (p + 1)).take (k + 1) = (s.data.toList.drop (p + 1)).take k ++ [s[p + 1 + k]] := by
              rw [List.take_succ_eq_append_getElem (by simp; omega)]
              simp [ByteArray.getElem_eq_getElem_data]
            rw [this, val10_snoc, hdd, ← show min k 10 = k by omega, ← hm]
            omega
          · rw [show min (k + 1) 10 = k + 1 by omega, Nat.pow_succ]
            rw [show min k 10 = k by omega] at hml
            omega
        clear hS hS2 hm hml HR H0 hbn hb hdv
        go_wp2_with (go_at_call 124; refine (rdigit10_any _ _).mono ?_; rintro e w1 ⟨rfl, rfl⟩; rw [HD.out])
        exact ⟨⟨k + 1, 10 * m + dd, by go_num, by go_num, H2, (by first | rfl | trivial)⟩, by simp [intOf]; omega⟩
      · have h10' : (10 : Int) ≤ (k : Int) := by omega
        have H2 : Hid (CopRel s.data.toList z p q (k + 1) m) := by
          refine ⟨by omega, ?_, ?_, ?_⟩
          · rw [hS2, show p + 1 + (k + 1) = p + 1 + k + 1 by omega]; simp; omega
          · rw [hm, show min (k + 1) 10 = min k 10 by omega]
          · rw [show min (k + 1) 10 = min k 10 by omega]; exact hml
        clear hS hS2 hm hml HR H0 hbn hb hdv
        go_wp2_with (go_at_call 124; refine (rdigit10_any _ _).mono ?_; rintro e w1 ⟨rfl, rfl⟩; rw [HD.out])
        exact ⟨⟨k + 1, m, by go_num, rfl, H2, (by first | rfl | trivial)⟩, by simp [intOf]; omega⟩
    · have hqk : q = k := by
        by_cases hks : p + 1 + k < s.size
        · have hb : isDg s[p + 1 + k] = false := by
            cases hb : isDg s[p + 1 + k]
            · rfl
            · exact absurd ⟨hks, hb⟩ hdig
          rw [drop_at hks, spanN_cons, hb] at hS
          simpa using hS
        · rw [List.drop_of_length_le (by simp; omega), spanN_nil] at hS
          omega
      have HBl : Hid (Below w.heap.size w (w.alloc (.cells #[.int .i64 0, .int .i64 0, .int .i64 0, .int .i64 0, .string ⟨#[]⟩, .int .i64 0] 52))) := (Below.refl _ w).alloc (Nat.le_refl _) _
      have HE : Hid (m = val10 0 ((s.data.toList.drop (p + 1)).take (min q 10))) := by rw [hqk]; exact hm
      have HST : Hid ((p + 1 + k < s.size → ∃ h : p + 1 + k < s.size, isDg s[p + 1 + k] = false)) := fun h => ⟨h, by
        cases hb : isDg s[p + 1 + k]
        · rfl
        · exact absurd ⟨h, hb⟩ hdig⟩
      clear hS hm hml HR H0 hdig
      subst hqk
      by_cases c0 : q = 0
      · subst c0
        by_cases hks : p + 1 + 0 < s.size
        · obtain ⟨_, hb⟩ := HST.out hks
          have hks2 : p + 1 < s.size := by omega
          have hlt' : (p : Int) + 1 < (z : Int) := by omega
          have HD : Hid (dg10 s[p + 1] = -1) := by
            have : isDg s[p + 1] = false := hb
            show _ = _
            simp [dg10, this]
          clear hb HST
          go_wp2_with (go_at_call 124; refine (rdigit10_any _ _).mono ?_; rintro e w1 ⟨rfl, rfl⟩; rw [HD.out])
          exact bodyPost_ret (v := .tuple #[tk0, .int .i64 43]) (by simp [results, Tryz.f81, go_sem]) rfl (H43.out (.inl trivial) _ HBl.out)
        · have hlt' : (z : Int) ≤ (p : Int) + 1 := by omega
          clear HST
          go_wp2
          exact bodyPost_ret (v := .tuple #[tk0, .int .i64 43]) (by simp [results, Tryz.f81, go_sem]) rfl (H43.out (.inl trivial) _ HBl.out)
      have hq0 : (q == 0) = false := by simpa using c0
      have hq0' : ((q : Int) == 0) = false := by simp; omega
      have hp1 : p + 1 < s.size := by omega
      have hp1' : (p : Int) + 1 < (z : Int) := by omega
      have hcase : 9 < q ∨ (q ≤ 9 ∧ s[p + 1].toNat = 48) ∨ (q ≤ 9 ∧ s[p + 1].toNat ≠ 48) := by omega
      have hq1 : (1 : Int) ≤ (q : Int) := by omega
      by_cases hks : p + 1 + q < s.size
      · obtain ⟨_, hb⟩ := HST.out hks
        have hlt' : (p : Int) + 1 + (q : Int) < (z : Int) := by omega
        have HD : Hid (dg10 s[p + 1 + q] = -1) := by
          show _ = _
          simp [dg10, hb]
        clear hb HST
        rcases hcase with h | ⟨h, h48⟩ | ⟨h, h48⟩
        · have h' : (9 : Int) < (q : Int) := by omega
          go_wp2_with (go_at_call 124; refine (rdigit10_any _ _).mono ?_; rintro e w1 ⟨rfl, rfl⟩; rw [HD.out])
          exact bodyPost_ret (v := .tuple #[tk0, .int .i64 43]) (by simp [results, Tryz.f81, go_sem]) rfl (H43.out (.inr (.inl h)) _ HBl.out)
        · have h' : (q : Int) ≤ 9 := by omega
          go_wp2_with (go_at_call 124; refine (rdigit10_any _ _).mono ?_; rintro e w1 ⟨rfl, rfl⟩; rw [HD.out])
          exact bodyPost_ret (v := .tuple #[tk0, .int .i64 43]) (by simp [results, Tryz.f81, go_sem]) rfl (H43.out (.inr (.inr ⟨hp1, h48⟩)) _ HBl.out)
        · have h' : (q : Int) ≤ 9 := by omega
          have h48' : ((s[p + 1].toNat : Int) == 48) = false := by
            simp only [beq_eq_false_iff_ne, ne_eq]
            omega
          have h9' : decide ((9 : Int) < (q : Int)) = false := by simp; omega
          have HF : Hid (R (.returned (.tuple #[tk 3 p (q + 1) 0 ⟨#[]⟩ m, .int .i64 0])) (w.alloc (.cells #[.int .i64 3, .int .i64 p, .int .i64 (q + 1), .int .i64 0, .string ⟨#[]⟩, .int .i64 m] 52))) := by
            have := HOK.out (by omega) h (fun _ => h48) (w.alloc (.cells #[.int .i64 3, .int .i64 p, .int .i64 (q + 1), .int .i64 0, .string ⟨#[]⟩, .int .i64 m] 52)) ((Below.refl _ w).alloc (Nat.le_refl _) _)
            rwa [← show min q 10 = q by omega, ← HE.out, show min q 10 = q by omega] at this
          go_wp2_with (go_at_call 124; refine (rdigit10_any _ _).mono ?_; rintro e w1 ⟨rfl, rfl⟩; rw [HD.out])
          exact bodyPost_ret (v := .tuple #[tk 3 p (q + 1) 0 ⟨#[]⟩ m, .int .i64 0]) (by simp [results, Tryz.f81, go_sem]) rfl HF.out
      · have hlt' : (z : Int) ≤ (p : Int) + 1 + (q : Int) := by omega
        clear HST
        rcases hcase with h | ⟨h, h48⟩ | ⟨h, h48⟩
        · have h' : (9 : Int) < (q : Int) := by omega
          go_wp2
          exact bodyPost_ret (v := .tuple #[tk0, .int .i64 43]) (by simp [results, Tryz.f81, go_sem]) rfl (H43.out (.inr (.inl h)) _ HBl.out)
        · have h' : (q : Int) ≤ 9 := by omega
          go_wp2
          exact bodyPost_ret (v := .tuple #[tk0, .int .i64 43]) (by simp [results, Tryz.f81, go_sem]) rfl (H43.out (.inr (.inr ⟨hp1, h48⟩)) _ HBl.out)
        · have h' : (q : Int) ≤ 9 := by omega
          have h48' : ((s[p + 1].toNat : Int) == 48) = false := by
            simp only [beq_eq_false_iff_ne, ne_eq]
            omega
          have h9' : decide ((9 : Int) < (q : Int)) = false := by simp; omega
          have HF : Hid (R (.returned (.tuple #[tk 3 p (q + 1) 0 ⟨#[]⟩ m, .int .i64 0])) (w.alloc (.cells #[.int .i64 3, .int .i64 p, .int .i64 (q + 1), .int .i64 0, .string ⟨#[]⟩, .int .i64 m] 52))) := by
            have := HOK.out (by omega) h (fun _ => h48) (w.alloc (.cells #[.int .i64 3, .int .i64 p, .int .i64 (q + 1), .int .i64 0, .string ⟨#[]⟩, .int .i64 m] 52)) ((Below.refl _ w).alloc (Nat.le_refl _) _)
            rwa [← show min q 10 = q by omega, ← HE.out, show min q 10 = q by omega] at this
          go_wp2
          exact bodyPost_ret (v := .tuple #[tk 3 p (q + 1) 0 ⟨#[]⟩ m, .int .i64 0]) (by simp [results, Tryz.f81, go_sem]) rfl HF.out
end Go.Proofs
