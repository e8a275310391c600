/-
  Where units begin, plainly: the borders of a text, and that three bytes on either side tell them.
-/


import Derived.Test.YtknaoahokopplaaGreatDoorMgbb
import Derived.Test.YtknaoahokopplaaGreatDoorMggb
namespace Go.Proofs
open Go.RowKit Go.Shelf
set_option maxRecDepth 100000
/-! where units begin -/
theorem uw_le (s : ByteArray) (p : Nat) : uw s p ≤ 4 := by
  unfold uw Utf8.decode
  simp only
  repeat' split
  all_goals simp
/-- what a rune of several bytes is made of -/
theorem uw_many (s : ByteArray) (p : Nat) (h : 1 < uw s p) : p + uw s p ≤ s.size ∧ (s.get! p).toNat / 64 = 3 ∧ ∀ k, 1 ≤ k → k < uw s p → (s.get! (p + k)).toNat / 64 = 2 := by
  have h0 := (s.get! p).toNat_lt
  unfold uw Utf8.decode at *
  simp only [Nat.add_zero] at *
  split at h
  · simp at h
  · split at h
    · rename_i h1 h2
      simp only [Bool.and_eq_true, decide_eq_true_eq, beq_iff_eq] at h2
      split at h
      · rename_i h3
        rw [if_neg h1, if_pos (by simpa using h2), if_pos h3]
        refine ⟨by simp only; omega, by omega, fun k hk1 hk2 => ?_⟩
        simp only at hk2
        obtain rfl : k = 1 := by omega
        omega
      · simp at h
    · split at h
      · rename_i h1 h2 h3
        split at h
        · rename_i h4
          rw [if_neg h1, if_neg h2, if_pos h3, if_pos h4]
          simp only [Bool.and_eq_true, decide_eq_true_eq, beq_iff_eq] at h3
          refine ⟨by simp only; omega, by omega, fun k hk1 hk2 => ?_⟩
          simp only at hk2
          have : k = 1 ∨ k = 2 := by omega
          rcases this with rfl | rfl <;> omega
        · simp at h
      · split at h
        · rename_i h1 h2 h3 h5
          split at h
          · rename_i h4
            rw [if_neg h1, if_neg h2, if_neg h3, if_pos h5, if_pos h4]
            simp only [Bool.and_eq_true, decide_eq_true_eq, beq_iff_eq] at h5
            refine ⟨by simp only; omega, by omega, fun k hk1 hk2 => ?_⟩
            simp only at hk2
            have : k = 1 ∨ k = 2 ∨ k = 3 := by omega
            rcases this with rfl | rfl | rfl <;> omega
          · simp at h
        · simp at h

/-- a rune of several bytes, by its number -/
def Form (s : ByteArray) (p c n : Nat) : Prop := p + n ≤ s.size ∧ Utf8.decode s p = (c, n) ∧
  ((n = 2 ∧ 128 ≤ c ∧ c < 2048 ∧ (s.get! p).toNat = 192 + c / 64 ∧ (s.get! (p + 1)).toNat = 128 + c % 64) ∨
   (n = 3 ∧ 2048 ≤ c ∧ c < 65536 ∧ (c < 55296 ∨ 57344 ≤ c) ∧ (s.get! p).toNat = 224 + c / 4096 ∧ (s.get! (p + 1)).toNat = 128 + c / 64 % 64 ∧ (s.get! (p + 2)).toNat = 128 + c % 64) ∨
   (n = 4 ∧ 65536 ≤ c ∧ c < 1114112 ∧ (s.get! p).toNat = 240 + c / 262144 ∧ (s.get! (p + 1)).toNat = 128 + c / 4096 % 64 ∧ (s.get! (p + 2)).toNat = 128 + c / 64 % 64 ∧ (s.get! (p + 3)).toNat = 128 + c % 64))
theorem form_of (s : ByteArray) (p : Nat) (h : 1 < uw s p) : ∃ c, Form s p c (uw s p) := by
  have h0 := (s.get! p).toNat_lt
  have h1' := (s.get! (p + 1)).toNat_lt
  have h2' := (s.get! (p + 2)).toNat_lt
  have h3' := (s.get! (p + 3)).toNat_lt
  have hle := (uw_many s p h).1
  obtain ⟨c, n, hd⟩ : ∃ c n, Utf8.decode s p = (c, n) := ⟨_, _, rfl⟩
  have hn : uw s p = n := by unfold uw; rw [hd]
  rw [hn] at h hle ⊢
  refine ⟨c, hle, hd, ?_⟩
  unfold Utf8.decode at hd
  simp only [Nat.add_zero] at hd
  split at hd
  · simp only [Prod.mk.injEq] at hd; omega
  · split at hd
    · rename_i h1 h2
      simp only [Bool.and_eq_true, decide_eq_true_eq, beq_iff_eq] at h2
      split at hd
      · simp only [Prod.mk.injEq] at hd
        left; omega
      · simp only [Prod.mk.injEq] at hd; omega
    · split at hd
      · rename_i h1 h2 h3
        simp only [Bool.and_eq_true, decide_eq_true_eq, beq_iff_eq] at h3
        split at hd
        · rename_i h4
          simp only [Prod.mk.injEq] at hd
          simp only [Utf8.valid, Bool.and_eq_true, Bool.or_eq_true, decide_eq_true_eq] at h4
          right; left; omega
        · simp only [Prod.mk.injEq] at hd; omega
      · split at hd
        · rename_i h1 h2 h3 h5
          simp only [Bool.and_eq_true, decide_eq_true_eq, beq_iff_eq] at h5
          split at hd
          · rename_i h4
            simp only [Prod.mk.injEq] at hd
            simp only [Utf8.valid, Bool.and_eq_true, Bool.or_eq_true, decide_eq_true_eq] at h4
            right; right; omega
          · simp only [Prod.mk.injEq] at hd; omega
        · simp only [Prod.mk.injEq] at hd; omega
/-- the same bytes elsewhere are the same rune -/
theorem Form.move {s t : ByteArray} {p r c n : Nat} (h : Form s p c n) (hr : r + n ≤ t.size) (he : ∀ k, k < n → (t.get! (r + k)).toNat = (s.get! (p + k)).toNat) : Form t r c n := by
  obtain ⟨_, _, h⟩ := h
  have e0 := he 0
  have e1 := he 1
  have e2 := he 2
  have e3 := he 3
  simp only [Nat.add_zero] at e0
  rcases h with ⟨rfl, a, b, b0, b1⟩ | ⟨rfl, a, b, v, b0, b1, b2⟩ | ⟨rfl, a, b, b0, b1, b2, b3⟩
  · have c0 := (e0 (by omega)).trans b0
    have c1 := (e1 (by omega)).trans b1
    exact ⟨hr, dec2 t r c a b (by omega) c0 c1, .inl ⟨rfl, a, b, c0, c1⟩⟩
  · have c0 := (e0 (by omega)).trans b0
    have c1 := (e1 (by omega)).trans b1
    have c2 := (e2 (by omega)).trans b2
    exact ⟨hr, dec3 t r c a b v (by omega) c0 c1 c2, .inr (.inl ⟨rfl, a, b, v, c0, c1, c2⟩)⟩
  · have c0 := (e0 (by omega)).trans b0
    have c1 := (e1 (by omega)).trans b1
    have c2 := (e2 (by omega)).trans b2
    have c3 := (e3 (by omega)).trans b3
    exact ⟨hr, dec4 t r c a b (by omega) c0 c1 c2 c3, .inr (.inr ⟨rfl, a, b, c0, c1, c2, c3⟩)⟩
theorem Form.uw {s : ByteArray} {p c n : Nat} (h : Form s p c n) : uw s p = n := by unfold Go.Proofs.uw; rw [h.2.1]
/-- a border: nothing that begins ahead reaches beyond -/
def bord (s : ByteArray) (p : Nat) : Prop := ∀ q, q < p → q + uw s q ≤ p
theorem bord_size (s : ByteArray) : bord s s.size := fun q h => by
  by_cases h1 : 1 < uw s q
  · exact (uw_many s q h1).1
  · omega
/-! reading within a piece -/
theorem get_ext (s : ByteArray) (f e r : Nat) (h : f + r < e) (he : e ≤ s.size) : (s.extract f e).get! r = s.get! (f + r) := by
  have hz : (s.extract f e).size = e - f := by simp [ByteArray.size_extract]; omega
  rw [get_bang _ _ (by omega), get_bang _ _ (by omega)]
  simp [ByteArray.getElem_extract]
theorem one_wide (s : ByteArray) (p : Nat) (h : uw s p = 1) : ((s.get! p).toNat < 128 ∧ Utf8.decode s p = ((s.get! p).toNat, 1)) ∨ (128 ≤ (s.get! p).toNat ∧ Utf8.decode s p = (65533, 1)) := by
  by_cases hb : (s.get! p).toNat < 128
  · exact .inl ⟨hb, dec1 s p hb⟩
  · refine .inr ⟨by omega, ?_⟩
    obtain ⟨c, n, hd⟩ : ∃ c n, Utf8.decode s p = (c, n) := ⟨_, _, rfl⟩
    have hn : n = 1 := by rw [← h]; unfold uw; rw [hd]
    subst hn
    have hc : c = 65533 := by
      unfold Utf8.decode at hd
      simp only [Nat.add_zero] at hd
      rw [if_neg hb] at hd
      repeat' split at hd
      all_goals (simp only [Prod.mk.injEq, Utf8.runeError] at hd; omega)
    rw [hd, hc]
theorem prefix_bytes (s : ByteArray) (p : Nat) (h : Lib.hasPrefix (s.data.toList.drop p) fffd = true) : Form s p 65533 3 := by
  unfold Lib.hasPrefix at h
  rw [List.isPrefixOf_iff_prefix] at h
  obtain ⟨t, ht⟩ := h
  have hl : (s.data.toList.drop p).length = 3 + t.length := by rw [← ht]; simp [fffd]; omega
  rw [List.length_drop, ← Lib.size_eq] at hl
  have hg : ∀ k (hk : k < 3), s.get! (p + k) = fffd.getD k 0 := fun k hk => by
    rw [get_bang s _ (by omega)]
    have e : (s.data.toList.drop p)[k]? = fffd[k]? := by rw [← ht, List.getElem?_append_left (by simpa [fffd] using hk)]
    rw [List.getElem?_drop] at e
    have e2 : s.data.toList[p + k]? = some s[p + k] := by
      rw [List.getElem?_eq_getElem (by rw [← Lib.size_eq]; omega)]; rfl
    rw [e2] at e
    simp [List.getD, ← e]
  have g0 := hg 0 (by omega)
  have g1 := hg 1 (by omega)
  have g2 := hg 2 (by omega)
  rw [Nat.add_zero] at g0
  have b0 : (s.get! p).toNat = 224 + 65533 / 4096 := by rw [g0]; decide
  have b1 : (s.get! (p + 1)).toNat = 128 + 65533 / 64 % 64 := by rw [g1]; decide
  have b2 : (s.get! (p + 2)).toNat = 128 + 65533 % 64 := by rw [g2]; decide
  exact ⟨by omega, dec3 s p 65533 (by omega) (by omega) (by omega) (by omega) b0 b1 b2, .inr (.inl ⟨rfl, by omega, by omega, by omega, b0, b1, b2⟩)⟩
theorem bytes_prefix (s : ByteArray) (p : Nat) (h : Form s p 65533 3) : Lib.hasPrefix (s.data.toList.drop p) fffd = true := by
  obtain ⟨hz, _, h⟩ := h
  have hb : (s.get! p).toNat = 239 ∧ (s.get! (p + 1)).toNat = 191 ∧ (s.get! (p + 2)).toNat = 189 := by omega
  unfold Lib.hasPrefix
  rw [List.isPrefixOf_iff_prefix]
  have e : ∀ k (hk : p + k < s.size), s.data.toList[p + k]'(by rw [← Lib.size_eq]; exact hk) = s.get! (p + k) := fun k hk => by rw [get_bang s _ hk]; rfl
  rw [List.drop_eq_getElem_cons (by rw [← Lib.size_eq]; omega), List.drop_eq_getElem_cons (by rw [← Lib.size_eq]; omega), List.drop_eq_getElem_cons (by rw [← Lib.size_eq]; omega)]
  have e0 := e 0 (by omega)
  have e1 := e 1 (by omega)
  have e2 := e 2 (by omega)
  simp only [Nat.add_zero] at e0
  have u0 : s.get! p = 239 := UInt8.toNat_inj.1 hb.1
  have u1 : s.get! (p + 1) = 191 := UInt8.toNat_inj.1 hb.2.1
  have u2 : s.get! (p + 2) = 189 := UInt8.toNat_inj.1 hb.2.2
  rw [e0, u0]
  refine ⟨s.data.toList.drop (p + 1 + 1 + 1), ?_⟩
  simp only [fffd, List.cons_append, List.nil_append, List.cons.injEq, and_true, true_and]
  exact ⟨by rw [← u1]; exact e1.symm, by rw [← u2]; exact e2.symm⟩
theorem stray_iff (s : ByteArray) (p : Nat) : strayAt s p = true ↔ Utf8.decode s p = (65533, 1) := by
  unfold strayAt
  rw [Bool.and_eq_true, beq_iff_eq, Bool.not_eq_true']
  constructor
  · rintro ⟨h1, h2⟩
    by_cases h : 1 < uw s p
    · obtain ⟨c, F⟩ := form_of s p h
      have hd := F.2.1
      rw [hd] at h1
      simp only at h1
      subst h1
      have h3 : uw s p = 3 := by have := F.2.2; omega
      rw [h3] at F
      rw [bytes_prefix s p F] at h2
      cases h2
    · have := uw_pos s p
      have hu : uw s p = 1 := by omega
      rcases one_wide s p hu with ⟨a, b⟩ | ⟨a, b⟩
      · rw [b] at h1; simp only at h1; omega
      · exact b
  · intro h
    refine ⟨by rw [h], ?_⟩
    cases hp : Lib.hasPrefix (s.data.toList.drop p) fffd with
    | false => rfl
    | true =>
      have := (prefix_bytes s p hp).2.1
      rw [h] at this
      simp at this
/-- a unit is as wide as it stands -/
theorem wd_uAt (s : ByteArray) (p : Nat) : wd (uAt s p) = uw s p := by
  by_cases h : 1 < uw s p
  · obtain ⟨c, F⟩ := form_of s p h
    have hns : strayAt s p = false := by
      cases hs : strayAt s p with
      | false => rfl
      | true => have := (stray_iff s p).1 hs; rw [F.2.1] at this; simp at this; omega
    rw [uAt_rune hns, F.2.1]
    have := F.2.2
    unfold wd Lib.runeLen
    repeat' split
    all_goals omega
  · have hpos := uw_pos s p
    have hu : uw s p = 1 := by omega
    rcases one_wide s p hu with ⟨a, b⟩ | ⟨a, b⟩
    · have hns : strayAt s p = false := by
        cases hs : strayAt s p with
        | false => rfl
        | true => have := (stray_iff s p).1 hs; rw [b] at this; simp at this; omega
      rw [uAt_rune hns, b, hu]
      unfold wd Lib.runeLen
      repeat' split
      all_goals omega
    · have hlt := (s.get! p).toNat_lt
      rw [uAt_stray ((stray_iff s p).2 b), hu, wd_stray (by omega)]
      rfl
end Go.Proofs
