/-
  A text comes back, byte for byte, from its units.
-/
import Derived.Test.YtahifnjompmcbaaDoorMd
import Derived.Test.YtahifnjompmcbaaDoorPr
namespace Go.Proofs
open Go.RowKit Go.Shelf
set_option maxRecDepth 100000
/-! a text comes back from its units -/
theorem drop_get (s : ByteArray) (p : Nat) (h : p < s.size) : s.data.toList.drop p = s.get! p :: s.data.toList.drop (p + 1) := by
  rw [List.drop_eq_getElem_cons (by rw [← Lib.size_eq]; exact h), get_bang s p h]; rfl
theorem ofNat_get (s : ByteArray) (p n : Nat) (h : (s.get! p).toNat = n) : UInt8.ofNat n = s.get! p := by rw [← h]; simp
theorem put_uAt (s : ByteArray) (p : Nat) (hp : p < s.size) : (put (uAt s p)).data.toList = (s.data.toList.drop p).take (uw s p) := by
  by_cases h : 1 < uw s p
  · obtain ⟨c, F⟩ := form_of s p h
    have hns : strayAt s p = false := by
      cases hs : strayAt s p with
      | false => rfl
      | true => have := (stray_iff s p).1 hs; rw [F.2.1] at this; simp at this; omega
    have hu : uAt s p = c := by rw [uAt_rune hns, F.2.1]
    rw [hu]
    obtain ⟨hz, _, hF⟩ := F
    obtain ⟨n, hn⟩ : ∃ n, uw s p = n := ⟨_, rfl⟩
    rw [hn] at hF hz ⊢
    rcases hF with ⟨rfl, a, b, b0, b1⟩ | ⟨rfl, a, b, v, b0, b1, b2⟩ | ⟨rfl, a, b, b0, b1, b2, b3⟩
    · rw [put_rune (by omega), enc2 c a b, ofNat_get s p _ b0, ofNat_get s (p + 1) _ b1, drop_get s p (by omega), drop_get s (p + 1) (by omega)]
      rfl
    · rw [put_rune (by omega), enc3 c a b v, ofNat_get s p _ b0, ofNat_get s (p + 1) _ b1, ofNat_get s (p + 2) _ b2, drop_get s p (by omega), drop_get s (p + 1) (by omega), drop_get s (p + 1 + 1) (by omega)]
      rfl
    · rw [put_rune (by omega), enc4 c a b, ofNat_get s p _ b0, ofNat_get s (p + 1) _ b1, ofNat_get s (p + 2) _ b2, ofNat_get s (p + 3) _ b3, drop_get s p (by omega), drop_get s (p + 1) (by omega), drop_get s (p + 1 + 1) (by omega), drop_get s (p + 1 + 1 + 1) (by omega)]
      rfl
  · have hpos := uw_pos s p
    have hu : uw s p = 1 := by omega
    rw [hu, drop_get s p hp]
    rcases one_wide s p hu with ⟨a, b⟩ | ⟨a, b⟩
    · have hns : strayAt s p = false := by
        cases hs : strayAt s p with
        | false => rfl
        | true => have := (stray_iff s p).1 hs; rw [b] at this; simp at this; omega
      have hv : uAt s p = (s.get! p).toNat := by rw [uAt_rune hns, b]
      rw [hv, put_rune (by omega), enc1 _ a, ofNat_get s p _ rfl]
      rfl
    · have hlt := (s.get! p).toNat_lt
      have hv := uAt_stray ((stray_iff s p).2 b)
      rw [hv, put_stray (by omega), show (((1114112 + (s.get! p).toNat : Nat) : Int) - 1114112).toNat = (s.get! p).toNat by omega, ofNat_get s p _ rfl]
      rfl
theorem join_units (s : ByteArray) : ∀ k q, q ≤ s.size → s.size ≤ q + k → joinB (ints (unitsN s k q)) = some (s.data.toList.drop q)
  | 0, q, h, hk => by
    rw [List.drop_of_length_le (by rw [← Lib.size_eq]; omega)]; rfl
  | k + 1, q, h, hk => by
    by_cases hq : q < s.size
    · have h1 := uw_in s q hq
      have h2 := uw_pos s q
      have ih := join_units s k (q + uw s q) h1 (by omega)
      rw [unitsN_step s k q hq]
      show joinB ((uAt s q : Int) :: ints (unitsN s k (q + uw s q))) = _
      rw [joinB_step (by rw [wd_uAt]; omega), ih, Option.map_some, put_uAt s q hq]
      congr 1
      rw [← List.drop_drop, List.take_append_drop]
    · rw [unitsN_end s _ q hq, List.drop_of_length_le (by rw [← Lib.size_eq]; omega)]; rfl
theorem join_cut (s : ByteArray) : joinB (ints (units s)) = some s.data.toList := join_units s s.size 0 (Nat.zero_le _) (by omega)
theorem proper_cut (s : ByteArray) : properB (ints (units s)) = true := by
  unfold properB
  rw [join_cut]
  simp
end Go.Proofs
