/-
  Bytes and runes, plainly: what is written as a unit's bytes is read as that unit.
-/
import Derived.Test.YthjjkenmlkekbaaDoorUa
namespace Go.Proofs
open Go.RowKit Go.Shelf
set_option maxRecDepth 100000
/-! bytes and runes, plainly -/
theorem dec1 (s : ByteArray) (p : Nat) (h : (s.get! p).toNat < 128) : Utf8.decode s p = ((s.get! p).toNat, 1) := by
  unfold Utf8.decode
  simp only [Nat.add_zero]
  rw [if_pos (by omega)]
theorem dec2 (s : ByteArray) (p c : Nat) (h0 : 128 ≤ c) (h1 : c < 2048) (hs : p + 1 < s.size) (b0 : (s.get! p).toNat = 192 + c / 64) (b1 : (s.get! (p + 1)).toNat = 128 + c % 64) : Utf8.decode s p = (c, 2) := by
  unfold Utf8.decode
  simp only [Nat.add_zero, b0, b1]
  rw [if_neg (by omega), if_pos (by simp [hs]; omega), if_pos (by omega)]
  rw [Prod.mk.injEq]; omega
theorem dec3 (s : ByteArray) (p c : Nat) (h0 : 2048 ≤ c) (h1 : c < 65536) (hv : c < 55296 ∨ 57344 ≤ c) (hs : p + 2 < s.size) (b0 : (s.get! p).toNat = 224 + c / 4096) (b1 : (s.get! (p + 1)).toNat = 128 + c / 64 % 64) (b2 : (s.get! (p + 2)).toNat = 128 + c % 64) : Utf8.decode s p = (c, 3) := by
  have hs1 : p + 1 < s.size := by omega
  unfold Utf8.decode
  simp only [Nat.add_zero, b0, b1, b2]
  rw [if_neg (by omega), if_neg (by simp; omega), if_pos (by simp [hs, hs1]; omega)]
  have e : (224 + c / 4096) % 16 * 4096 + (128 + c / 64 % 64) % 64 * 64 + (128 + c % 64) % 64 = c := by omega
  rw [e, if_pos (by simp [Utf8.valid]; omega)]
theorem dec4 (s : ByteArray) (p c : Nat) (h0 : 65536 ≤ c) (h1 : c < 1114112) (hs : p + 3 < s.size) (b0 : (s.get! p).toNat = 240 + c / 262144) (b1 : (s.get! (p + 1)).toNat = 128 + c / 4096 % 64) (b2 : (s.get! (p + 2)).toNat = 128 + c / 64 % 64) (b3 : (s.get! (p + 3)).toNat = 128 + c % 64) : Utf8.decode s p = (c, 4) := by
  have hs1 : p + 1 < s.size := by omega
  have hs2 : p + 2 < s.size := by omega
  unfold Utf8.decode
  simp only [Nat.add_zero, b0, b1, b2, b3]
  rw [if_neg (by omega), if_neg (by simp; omega), if_neg (by simp; omega), if_pos (by simp [hs, hs1, hs2]; omega)]
  have e : (240 + c / 262144) % 8 * 262144 + (128 + c / 4096 % 64) % 64 * 4096 + (128 + c / 64 % 64) % 64 * 64 + (128 + c % 64) % 64 = c := by omega
  rw [e, if_pos (by simp [Utf8.valid]; omega)]
theorem get_lit (l : List UInt8) (k : Nat) : (⟨l.toArray⟩ : ByteArray).get! k = l.getD k 0 := by
  show (l.toArray)[k]! = _
  simp [List.getD]
  rfl
theorem size_lit (l : List UInt8) : (⟨l.toArray⟩ : ByteArray).size = l.length := by simp [ByteArray.size]
theorem b8 (n : Nat) (h : n < 256) : (UInt8.ofNat n).toNat = n := by rw [UInt8.toNat_ofNat']; omega
/-- the rune that begins at a place: no FFFD for a stray -/
theorem uAt_of_rune {s : ByteArray} {p c n : Nat} (h : Utf8.decode s p = (c, n)) (hc : c ≠ 65533) : uAt s p = c := by
  have : strayAt s p = false := by unfold strayAt; rw [h]; simp [hc]
  rw [uAt_rune this, h]
theorem units_one {s : ByteArray} {u : Nat} (h : s.size = uw s 0) (h0 : 0 < s.size) (hu : uAt s 0 = u) : units s = [(0, u)] := by
  unfold units
  obtain ⟨k, hk⟩ : ∃ k, s.size = k + 1 := ⟨s.size - 1, by omega⟩
  rw [hk, unitsN_step s k 0 h0, hu, unitsN_end s k _ (by omega)]
/-- the document's units -/
def isUnit (u : Int) : Prop := (1114240 ≤ u ∧ u ≤ 1114367) ∨ (0 ≤ u ∧ u < 55296) ∨ (57343 < u ∧ u ≤ 1114111)
theorem enc1 (c : Nat) (h : c < 128) : Utf8.encode (c : Int) = ⟨[UInt8.ofNat c].toArray⟩ := by
  unfold Utf8.encode
  have hv : Utf8.valid (c : Int) = true := by simp [Utf8.valid]; omega
  simp only [hv, if_true, Int.toNat_natCast]
  rw [if_pos (by omega)]
theorem enc2 (c : Nat) (h0 : 128 ≤ c) (h : c < 2048) : Utf8.encode (c : Int) = ⟨[UInt8.ofNat (192 + c / 64), UInt8.ofNat (128 + c % 64)].toArray⟩ := by
  unfold Utf8.encode
  have hv : Utf8.valid (c : Int) = true := by simp [Utf8.valid]; omega
  simp only [hv, if_true, Int.toNat_natCast]
  rw [if_neg (by omega), if_pos (by omega)]
theorem enc3 (c : Nat) (h0 : 2048 ≤ c) (h : c < 65536) (hv : c < 55296 ∨ 57344 ≤ c) : Utf8.encode (c : Int) = ⟨[UInt8.ofNat (224 + c / 4096), UInt8.ofNat (128 + c / 64 % 64), UInt8.ofNat (128 + c % 64)].toArray⟩ := by
  unfold Utf8.encode
  have hv : Utf8.valid (c : Int) = true := by simp [Utf8.valid]; omega
  simp only [hv, if_true, Int.toNat_natCast]
  rw [if_neg (by omega), if_neg (by omega), if_pos (by omega)]
theorem enc4 (c : Nat) (h0 : 65536 ≤ c) (h : c < 1114112) : Utf8.encode (c : Int) = ⟨[UInt8.ofNat (240 + c / 262144), UInt8.ofNat (128 + c / 4096 % 64), UInt8.ofNat (128 + c / 64 % 64), UInt8.ofNat (128 + c % 64)].toArray⟩ := by
  unfold Utf8.encode
  have hv : Utf8.valid (c : Int) = true := by simp [Utf8.valid]; omega
  simp only [hv, if_true, Int.toNat_natCast]
  rw [if_neg (by omega), if_neg (by omega), if_neg (by omega)]
/-- a rune's bytes by themselves are that rune -/
theorem dec_enc (c : Nat) (h : c < 55296 ∨ (57344 ≤ c ∧ c ≤ 1114111)) : Utf8.decode (Utf8.encode (c : Int)) 0 = (c, (Utf8.encode (c : Int)).size) ∧ (Utf8.encode (c : Int)).size = (Lib.runeLen c).toNat := by
  by_cases h1 : c < 128
  · rw [enc1 c h1, size_lit]
    refine ⟨?_, ?_⟩
    · rw [dec1 _ _ (by rw [get_lit]; simp [b8 c (by omega)]; omega), get_lit]; simp [b8 c (by omega)]
    · unfold Lib.runeLen; rw [if_neg (by omega), if_pos (by omega)]; rfl
  · by_cases h2 : c < 2048
    · rw [enc2 c (by omega) h2, size_lit]
      refine ⟨?_, ?_⟩
      · exact dec2 _ 0 c (by omega) h2 (by rw [size_lit]; simp) (by rw [get_lit]; exact b8 _ (by omega)) (by rw [get_lit]; exact b8 _ (by omega))
      · unfold Lib.runeLen; rw [if_neg (by omega), if_neg (by omega), if_pos (by omega)]; rfl
    · by_cases h3 : c < 65536
      · rw [enc3 c (by omega) h3 (by omega), size_lit]
        refine ⟨?_, ?_⟩
        · exact dec3 _ 0 c (by omega) h3 (by omega) (by rw [size_lit]; simp) (by rw [get_lit]; exact b8 _ (by omega)) (by rw [get_lit]; exact b8 _ (by omega)) (by rw [get_lit]; exact b8 _ (by omega))
        · unfold Lib.runeLen; rw [if_neg (by omega), if_neg (by omega), if_neg (by omega), if_neg (by omega), if_pos (by omega)]; rfl
      · rw [enc4 c (by omega) (by omega), size_lit]
        refine ⟨?_, ?_⟩
        · exact dec4 _ 0 c (by omega) (by omega) (by rw [size_lit]; simp) (by rw [get_lit]; exact b8 _ (by omega)) (by rw [get_lit]; exact b8 _ (by omega)) (by rw [get_lit]; exact b8 _ (by omega)) (by rw [get_lit]; exact b8 _ (by omega))
        · unfold Lib.runeLen; rw [if_neg (by omega), if_neg (by omega), if_neg (by omega), if_neg (by omega), if_neg (by omega), if_pos (by omega)]; rfl
theorem wd_pos_iff (u : Int) : 0 < wd u ↔ isUnit u := by
  unfold wd isUnit Lib.runeLen
  repeat' split
  all_goals omega
theorem put_unit1 (c : Nat) (h : 1114240 ≤ c ∧ c ≤ 1114367) : (⟨#[UInt8.ofNat (c - 1114112)]⟩ : ByteArray).size = 1 ∧ units ⟨#[UInt8.ofNat (c - 1114112)]⟩ = [(0, c)] := by
  have hz : (⟨#[UInt8.ofNat (c - 1114112)]⟩ : ByteArray).size = 1 := rfl
  have hg : ((⟨#[UInt8.ofNat (c - 1114112)]⟩ : ByteArray).get! 0).toNat = c - 1114112 := b8 (c - 1114112) (by omega)
  obtain ⟨s, hs⟩ : ∃ s : ByteArray, s = ⟨#[UInt8.ofNat (c - 1114112)]⟩ := ⟨_, rfl⟩
  have hp : Lib.hasPrefix (s.data.toList.drop 0) fffd = false := by rw [hs]; simp [Lib.hasPrefix, fffd, List.isPrefixOf]
  rw [← hs] at hz hg ⊢
  clear hs
  have hd : Utf8.decode s 0 = (65533, 1) := by
    unfold Utf8.decode
    simp only [Nat.add_zero, hg, hz]
    rw [if_neg (by omega), if_neg (by simp), if_neg (by simp), if_neg (by simp), Utf8.runeError]
  refine ⟨hz, units_one (by rw [hz]; unfold uw; rw [hd]) (by rw [hz]; omega) ?_⟩
  rw [uAt_stray (by unfold strayAt; rw [hd, hp]; decide), hg]
  omega
theorem fffd_rune : strayAt (Utf8.encode 65533) 0 = false := by decide +kernel
theorem put_unit2 (c : Nat) (h : c < 55296 ∨ (57344 ≤ c ∧ c ≤ 1114111)) : ((Utf8.encode (c : Int)).size : Int) = Lib.runeLen c ∧ units (Utf8.encode (c : Int)) = [(0, c)] := by
  obtain ⟨hd, hz⟩ := dec_enc c h
  have hl : 0 < Lib.runeLen c := by have := (wd_pos_iff c).2 (.inr (by omega)); rwa [wd_rune (by omega)] at this
  have hst : strayAt (Utf8.encode (c : Int)) 0 = false := by
    by_cases hf : c = 65533
    · rw [hf]; exact fffd_rune
    · unfold strayAt; rw [hd]; simp [hf]
  refine ⟨by rw [hz]; omega, units_one (by unfold uw; rw [hd]) (by omega) ?_⟩
  rw [uAt_rune hst, hd]
/-- a unit's bytes are as many as it is wide, and by themselves are that unit -/
theorem put_unit (u : Int) (h : isUnit u) : ((put u).size : Int) = wd u ∧ units (put u) = [(0, u.toNat)] := by
  obtain ⟨c, rfl⟩ : ∃ c : Nat, u = c := ⟨u.toNat, by unfold isUnit at h; omega⟩
  rw [Int.toNat_natCast]
  rcases h with h | h
  · have k := put_unit1 c (by omega)
    rw [put_stray h, wd_stray h, show ((c : Int) - 1114112).toNat = c - 1114112 by omega, k.1]
    exact ⟨rfl, k.2⟩
  · rw [put_rune h, wd_rune h]
    exact put_unit2 c (by omega)
end Go.Proofs
