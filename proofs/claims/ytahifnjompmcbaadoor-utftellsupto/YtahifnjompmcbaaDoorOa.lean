/-
  What may yet come behind a text, plainly: which runes some bytes begin.
-/
import Derived.Test.YtahifnjompmcbaaDoorMd
import Derived.Test.YtahifnjompmcbaaDoorUe
namespace Go.Proofs
open Go.RowKit Go.Shelf
set_option maxRecDepth 100000

/-- the byte at a place, as a number -/
def bt (h : ByteArray) (k : Nat) : Int := ((h.get! k).toNat : Int)
theorem bt_lt (h : ByteArray) (k : Nat) : 0 ≤ bt h k ∧ bt h k < 256 := by have := (h.get! k).toNat_lt; unfold bt; omega
def P1 (h : ByteArray) (r : Int) : Prop := 128 ≤ r ∧ r ≤ 2047 ∧ h.size < 2 ∧ bt h 0 = 192 + r / 64
def P2 (h : ByteArray) (r : Int) : Prop := 2048 ≤ r ∧ r ≤ 55295 ∧ h.size < 3 ∧ bt h 0 = 224 + r / 4096 ∧ (h.size = 2 → bt h 1 = 128 + r / 64 % 64)
def P3 (h : ByteArray) (r : Int) : Prop := 57344 ≤ r ∧ r ≤ 65535 ∧ h.size < 3 ∧ bt h 0 = 224 + r / 4096 ∧ (h.size = 2 → bt h 1 = 128 + r / 64 % 64)
def P4 (h : ByteArray) (r : Int) : Prop := 65536 ≤ r ∧ r ≤ 1114111 ∧ h.size < 4 ∧ bt h 0 = 240 + r / 262144 ∧ (2 ≤ h.size → bt h 1 = 128 + r / 4096 % 64) ∧ (3 ≤ h.size → bt h 2 = 128 + r / 64 % 64)
/-- the bytes begin the rune's, and do not end it -/
def Pre (h : ByteArray) (r : Int) : Prop := P1 h r ∨ P2 h r ∨ P3 h r ∨ P4 h r
theorem fold1 (h : ByteArray) (hn : h.size = 1) (b : Nat) : fold6 (h.data.toList.drop 1) b = some b := by
  rw [List.drop_of_length_le (by rw [← Lib.size_eq]; omega)]; rfl
theorem drop_at (h : ByteArray) (k : Nat) (hk : k < h.size) : h.data.toList.drop k = h.get! k :: h.data.toList.drop (k + 1) := by
  rw [List.drop_eq_getElem_cons (by rw [← Lib.size_eq]; exact hk), get_bang h k hk]; rfl
theorem fold2 (h : ByteArray) (hn : h.size = 2) (b : Nat) : fold6 (h.data.toList.drop 1) b = if (h.get! 1).toNat / 64 = 2 then some (b * 64 + (h.get! 1).toNat % 64) else none := by
  rw [drop_at h 1 (by omega), List.drop_of_length_le (by rw [← Lib.size_eq]; omega)]
  simp [fold6]
theorem fold3 (h : ByteArray) (hn : h.size = 3) (b : Nat) : fold6 (h.data.toList.drop 1) b = if (h.get! 1).toNat / 64 = 2 then (if (h.get! 2).toNat / 64 = 2 then some ((b * 64 + (h.get! 1).toNat % 64) * 64 + (h.get! 2).toNat % 64) else none) else none := by
  rw [drop_at h 1 (by omega), drop_at h 2 (by omega), List.drop_of_length_le (by rw [← Lib.size_eq]; omega)]
  simp [fold6]
theorem bgn1 (h : ByteArray) (hn : h.size = 1) (lead width lo hi : Int) : bgn h lead width lo hi = if width ≤ 1 ∨ bt h 0 < lead then (1, 0) else (max lo ((bt h 0 - lead) * 2 ^ (6 * (width - 1)).toNat), min hi ((bt h 0 - lead + 1) * 2 ^ (6 * (width - 1)).toNat - 1)) := by
  unfold bgn bt
  rw [fold1 h hn, hn]
  split
  · rw [if_pos (by assumption)]
  · rename_i h1
    rw [if_neg (by exact h1)]
    have : ((((h.get! 0).toNat : Int) - lead).toNat : Int) = ((h.get! 0).toNat : Int) - lead := by omega
    simp only [this]
    rfl
theorem bgn2 (h : ByteArray) (hn : h.size = 2) (lead width lo hi : Int) : bgn h lead width lo hi = if width ≤ 2 ∨ bt h 0 < lead ∨ bt h 1 / 64 ≠ 2 then (1, 0) else (max lo (((bt h 0 - lead) * 64 + bt h 1 % 64) * 2 ^ (6 * (width - 2)).toNat), min hi (((bt h 0 - lead) * 64 + bt h 1 % 64 + 1) * 2 ^ (6 * (width - 2)).toNat - 1)) := by
  unfold bgn bt
  rw [fold2 h hn, hn]
  split
  · rw [if_pos (by omega)]
  · rename_i h1
    by_cases h2 : (h.get! 1).toNat / 64 = 2
    · rw [if_pos h2, if_neg (by omega)]
      have : (((((h.get! 0).toNat : Int) - lead).toNat * 64 + (h.get! 1).toNat % 64 : Nat) : Int) = (((h.get! 0).toNat : Int) - lead) * 64 + ((h.get! 1).toNat : Int) % 64 := by omega
      simp only [this]
      rfl
    · rw [if_neg h2, if_pos (by omega)]
theorem bgn3 (h : ByteArray) (hn : h.size = 3) (lead width lo hi : Int) : bgn h lead width lo hi = if width ≤ 3 ∨ bt h 0 < lead ∨ bt h 1 / 64 ≠ 2 ∨ bt h 2 / 64 ≠ 2 then (1, 0) else (max lo ((((bt h 0 - lead) * 64 + bt h 1 % 64) * 64 + bt h 2 % 64) * 2 ^ (6 * (width - 3)).toNat), min hi ((((bt h 0 - lead) * 64 + bt h 1 % 64) * 64 + bt h 2 % 64 + 1) * 2 ^ (6 * (width - 3)).toNat - 1)) := by
  unfold bgn bt
  rw [fold3 h hn, hn]
  split
  · rw [if_pos (by omega)]
  · rename_i h1
    by_cases h2 : (h.get! 1).toNat / 64 = 2
    · by_cases h3 : (h.get! 2).toNat / 64 = 2
      · rw [if_pos h2, if_pos h3, if_neg (by omega)]
        have : ((((((h.get! 0).toNat : Int) - lead).toNat * 64 + (h.get! 1).toNat % 64) * 64 + (h.get! 2).toNat % 64 : Nat) : Int) = ((((h.get! 0).toNat : Int) - lead) * 64 + ((h.get! 1).toNat : Int) % 64) * 64 + ((h.get! 2).toNat : Int) % 64 := by omega
        simp only [this]
        rfl
      · rw [if_pos h2, if_neg h3, if_pos (by omega)]
    · rw [if_neg h2, if_pos (by omega)]
theorem row1 (h : ByteArray) (hn : 1 ≤ h.size ∧ h.size ≤ 3) (r : Int) : ((bgn h 192 2 128 2047).1 ≤ r ∧ r ≤ (bgn h 192 2 128 2047).2) ↔ P1 h r := by
  have b0 := bt_lt h 0
  unfold P1
  rcases (show h.size = 1 ∨ h.size = 2 ∨ h.size = 3 by omega) with e | e | e
  · rw [bgn1 h e]; split <;> (simp only [show (2 : Int) ^ (6 * ((2 : Int) - 1)).toNat = 64 from rfl] at *; omega)
  · rw [bgn2 h e, if_pos (by omega)]; simp only; omega
  · rw [bgn3 h e, if_pos (by omega)]; simp only; omega
theorem row2 (h : ByteArray) (hn : 1 ≤ h.size ∧ h.size ≤ 3) (r : Int) : ((bgn h 224 3 2048 55295).1 ≤ r ∧ r ≤ (bgn h 224 3 2048 55295).2) ↔ P2 h r := by
  have b0 := bt_lt h 0
  have b1 := bt_lt h 1
  unfold P2
  rcases (show h.size = 1 ∨ h.size = 2 ∨ h.size = 3 by omega) with e | e | e
  · rw [bgn1 h e]; split <;> (simp only [show (2 : Int) ^ (6 * ((3 : Int) - 1)).toNat = 4096 from rfl] at *; omega)
  · rw [bgn2 h e]; split <;> (simp only [show (2 : Int) ^ (6 * ((3 : Int) - 2)).toNat = 64 from rfl] at *; omega)
  · rw [bgn3 h e, if_pos (by omega)]; simp only; omega
theorem row3 (h : ByteArray) (hn : 1 ≤ h.size ∧ h.size ≤ 3) (r : Int) : ((bgn h 224 3 57344 65535).1 ≤ r ∧ r ≤ (bgn h 224 3 57344 65535).2) ↔ P3 h r := by
  have b0 := bt_lt h 0
  have b1 := bt_lt h 1
  unfold P3
  rcases (show h.size = 1 ∨ h.size = 2 ∨ h.size = 3 by omega) with e | e | e
  · rw [bgn1 h e]; split <;> (simp only [show (2 : Int) ^ (6 * ((3 : Int) - 1)).toNat = 4096 from rfl] at *; omega)
  · rw [bgn2 h e]; split <;> (simp only [show (2 : Int) ^ (6 * ((3 : Int) - 2)).toNat = 64 from rfl] at *; omega)
  · rw [bgn3 h e, if_pos (by omega)]; simp only; omega
theorem row4 (h : ByteArray) (hn : 1 ≤ h.size ∧ h.size ≤ 3) (r : Int) : ((bgn h 240 4 65536 1114111).1 ≤ r ∧ r ≤ (bgn h 240 4 65536 1114111).2) ↔ P4 h r := by
  have b0 := bt_lt h 0
  have b1 := bt_lt h 1
  have b2 := bt_lt h 2
  unfold P4
  rcases (show h.size = 1 ∨ h.size = 2 ∨ h.size = 3 by omega) with e | e | e
  · rw [bgn1 h e]; split <;> (simp only [show (2 : Int) ^ (6 * ((4 : Int) - 1)).toNat = 262144 from rfl] at *; omega)
  · rw [bgn2 h e]; split <;> (simp only [show (2 : Int) ^ (6 * ((4 : Int) - 2)).toNat = 4096 from rfl] at *; omega)
  · rw [bgn3 h e]; split <;> (simp only [show (2 : Int) ^ (6 * ((4 : Int) - 3)).toNat = 64 from rfl] at *; omega)
/-- what the table finds: just the runes that the bytes begin -/
theorem hit_some (h : ByteArray) (hn : 1 ≤ h.size ∧ h.size ≤ 3) {a b : Int} (hh : hitW h spell = some (a, b)) : a ≤ b ∧ ∀ r, (a ≤ r ∧ r ≤ b) ↔ Pre h r := by
  have q1 := row1 h hn
  have q2 := row2 h hn
  have q3 := row3 h hn
  have q4 := row4 h hn
  simp only [hitW, spell] at hh
  have key : ∀ (g : Int × Int) (P : Int → Prop), g = (a, b) → g.1 ≤ g.2 → (∀ r, (g.1 ≤ r ∧ r ≤ g.2) ↔ P r) → (∀ r, P r → Pre h r) → (∀ r r', P r → Pre h r' → P r') → a ≤ b ∧ ∀ r, (a ≤ r ∧ r ≤ b) ↔ Pre h r := by
    intro g P hg hle hP h1 h2
    subst hg
    refine ⟨hle, fun r => ⟨fun hr => h1 r ((hP r).1 hr), fun hr => (hP r).2 (h2 a r ((hP a).1 ⟨Int.le_refl _, hle⟩) hr)⟩⟩
  split at hh
  · rename_i c
    exact key _ (P1 h) (Option.some.inj hh) c q1 (fun r hr => .inl hr) (fun r r' hr hr' => by
      rcases hr' with e | e | e | e
      · exact e
      all_goals (simp only [P1, P2, P3, P4] at *; omega))
  · split at hh
    · rename_i _ c
      exact key _ (P2 h) (Option.some.inj hh) c q2 (fun r hr => .inr (.inl hr)) (fun r r' hr hr' => by
        rcases hr' with e | e | e | e
        · simp only [P1, P2, P3, P4] at *; omega
        · exact e
        all_goals (simp only [P1, P2, P3, P4] at *; omega))
    · split at hh
      · rename_i _ _ c
        exact key _ (P3 h) (Option.some.inj hh) c q3 (fun r hr => .inr (.inr (.inl hr))) (fun r r' hr hr' => by
          rcases hr' with e | e | e | e
          · simp only [P1, P2, P3, P4] at *; omega
          · simp only [P1, P2, P3, P4] at *; omega
          · exact e
          · simp only [P1, P2, P3, P4] at *; omega)
      · split at hh
        · rename_i _ _ _ c
          exact key _ (P4 h) (Option.some.inj hh) c q4 (fun r hr => .inr (.inr (.inr hr))) (fun r r' hr hr' => by
            rcases hr' with e | e | e | e
            · simp only [P1, P2, P3, P4] at *; omega
            · simp only [P1, P2, P3, P4] at *; omega
            · simp only [P1, P2, P3, P4] at *; omega
            · exact e)
        · cases hh
theorem hit_none (h : ByteArray) (hn : 1 ≤ h.size ∧ h.size ≤ 3) (hh : hitW h spell = none) (r : Int) : ¬ Pre h r := by
  simp only [hitW, spell] at hh
  split at hh
  · cases hh
  · split at hh
    · cases hh
    · split at hh
      · cases hh
      · split at hh
        · cases hh
        · rename_i c1 c2 c3 c4
          rintro (e | e | e | e)
          · have := (row1 h hn r).2 e; omega
          · have := (row2 h hn r).2 e; omega
          · have := (row3 h hn r).2 e; omega
          · have := (row4 h hn r).2 e; omega
end Go.Proofs
