/-
  Bytes and runes, plainly: what is written as a unit's bytes is read as that unit.
-/
import Derived.Test.YtknaoahokopplaaGreatDoorUac
namespace Go.Proofs
open Go.RowKit Go.Shelf
set_option maxRecDepth 100000
/-! bytes and runes, plainly -/
theorem dec1 (s : ByteArray) (p : Nat) (h : (s.get! p).toNat < 128) : Utf8.decode s p = ((s.get! p).toNat, 1) := by
  unfold Utf8.decode
  simp only [Nat.add_zero]
  rw [if_pos (by omega)]
theorem dec2 (s : ByteArray) (p c : Nat) (h0 : 128 ≤ c) (h1 : c < 2048) (hs : p + 1 < s.size) (b0 : (s.get! p).toNat = 192 + c / 64) (b1 : (s.get! (p + 1)).toNat = 128 + c % 64) : Utf8.decode s p = (c, 2) := by
  unfold Utf8.decode
  simp only [Nat.add_zero, b0, b1]
  rw [if_neg (by omega), if_pos (by simp [hs]; omega), if_pos (by omega)]
  rw [Prod.mk.injEq]; omega
theorem dec3 (s : ByteArray) (p c : Nat) (h0 : 2048 ≤ c) (h1 : c < 65536) (hv : c < 55296 ∨ 57344 ≤ c) (hs : p + 2 < s.size) (b0 : (s.get! p).toNat = 224 + c / 4096) (b1 : (s.get! (p + 1)).toNat = 128 + c / 64 % 64) (b2 : (s.get! (p + 2)).toNat = 128 + c % 64) : Utf8.decode s p = (c, 3) := by
  have hs1 : p + 1 < s.size := by omega
  unfold Utf8.decode
  simp only [Nat.add_zero, b0, b1, b2]
  rw [if_neg (by omega), if_neg (by simp; omega), if_pos (by simp [hs, hs1]; omega)]
  have e : (224 + c / 4096) % 16 * 4096 + (128 + c / 64 % 64) % 64 * 64 + (128 + c % 64) % 64 = c := by omega
  rw [e, if_pos (by simp [Utf8.valid]; omega)]
theorem dec4 (s : ByteArray) (p c : Nat) (h0 : 65536 ≤ c) (h1 : c < 1114112) (hs : p + 3 < s.size) (b0 : (s.get! p).toNat = 240 + c / 262144) (b1 : (s.get! (p + 1)).toNat = 128 + c / 4096 % 64) (b2 : (s.get! (p + 2)).toNat = 128 + c / 64 % 64) (b3 : (s.get! (p + 3)).toNat = 128 + c % 64) : Utf8.decode s p = (c, 4) := by
  have hs1 : p + 1 < s.size := by omega
  have hs2 : p + 2 < s.size := by omega
  unfold Utf8.decode
  simp only [Nat.add_zero, b0, b1, b2, b3]
  rw [if_neg (by omega), if_neg (by simp; omega), if_neg (by simp; omega), if_pos (by simp [hs, hs1, hs2]; omega)]
  have e : (240 + c / 262144) % 8 * 262144 + (128 + c / 4096 % 64) % 64 * 4096 + (128 + c / 64 % 64) % 64 * 64 + (128 + c % 64) % 64 = c := by omega
  rw [e, if_pos (by simp [Utf8.valid]; omega)]
theorem size_lit (l : List UInt8) : (⟨l.toArray⟩ : ByteArray).size = l.length := by simp [ByteArray.size]
theorem b8 (n : Nat) (h : n < 256) : (UInt8.ofNat n).toNat = n := by rw [UInt8.toNat_ofNat']; omega
theorem enc1 (c : Nat) (h : c < 128) : Utf8.encode (c : Int) = ⟨[UInt8.ofNat c].toArray⟩ := by
  unfold Utf8.encode
  have hv : Utf8.valid (c : Int) = true := by simp [Utf8.valid]; omega
  simp only [hv, if_true, Int.toNat_natCast]
  rw [if_pos (by omega)]
theorem enc2 (c : Nat) (h0 : 128 ≤ c) (h : c < 2048) : Utf8.encode (c : Int) = ⟨[UInt8.ofNat (192 + c / 64), UInt8.ofNat (128 + c % 64)].toArray⟩ := by
  unfold Utf8.encode
  have hv : Utf8.valid (c : Int) = true := by simp [Utf8.valid]; omega
  simp only [hv, if_true, Int.toNat_natCast]
  rw [if_neg (by omega), if_pos (by omega)]
theorem enc3 (c : Nat) (h0 : 2048 ≤ c) (h : c < 65536) (hv : c < 55296 ∨ 57344 ≤ c) : Utf8.encode (c : Int) = ⟨[UInt8.ofNat (224 + c / 4096), UInt8.ofNat (128 + c / 64 % 64), UInt8.ofNat (128 + c % 64)].toArray⟩ := by
  unfold Utf8.encode
  have hv : Utf8.valid (c : Int) = true := by simp [Utf8.valid]; omega
  simp only [hv, if_true, Int.toNat_natCast]
  rw [if_neg (by omega), if_neg (by omega), if_pos (by omega)]
theorem enc4 (c : Nat) (h0 : 65536 ≤ c) (h : c < 1114112) : Utf8.encode (c : Int) = ⟨[UInt8.ofNat (240 + c / 262144), UInt8.ofNat (128 + c / 4096 % 64), UInt8.ofNat (128 + c / 64 % 64), UInt8.ofNat (128 + c % 64)].toArray⟩ := by
  unfold Utf8.encode
  have hv : Utf8.valid (c : Int) = true := by simp [Utf8.valid]; omega
  simp only [hv, if_true, Int.toNat_natCast]
  rw [if_neg (by omega), if_neg (by omega), if_neg (by omega)]
end Go.Proofs
