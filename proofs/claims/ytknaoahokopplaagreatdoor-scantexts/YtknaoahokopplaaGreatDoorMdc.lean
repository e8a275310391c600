/-
  Two pieces of a text, plainly: their units are the whole ones just at a border.
-/

import Derived.Test.YtknaoahokopplaaGreatDoorMbc
namespace Go.Proofs
open Go.RowKit Go.Shelf
set_option maxRecDepth 100000
/-! two pieces -/
theorem same_at {s t : ByteArray} {p r : Nat} (h : ∀ k, p + k < s.size → r + k < t.size → t.get! (r + k) = s.get! (p + k)) (hp0 : p < s.size) (hr0 : r < t.size) (hr : r + uw s p ≤ t.size) (hp : p + uw t r ≤ s.size) : uw t r = uw s p ∧ uAt t r = uAt s p := by
  have hb : t.get! r = s.get! p := h 0 (by omega) (by omega)
  have hd : Utf8.decode t r = Utf8.decode s p := by
    by_cases h1 : 1 < uw s p
    · obtain ⟨c, F⟩ := form_of s p h1
      have F2 := F.move hr (fun k hk => by rw [h k (by have := F.1; omega) (by omega)])
      rw [F2.2.1, F.2.1]
    · by_cases h2 : 1 < uw t r
      · obtain ⟨c, F⟩ := form_of t r h2
        have F2 := F.move (t := s) (r := p) hp (fun k hk => by rw [h k (by omega) (by have := F.1; omega)])
        rw [F2.uw] at h1
        omega
      · have a1 := uw_pos s p
        have a2 := uw_pos t r
        rcases one_wide s p (by omega) with ⟨x1, y1⟩ | ⟨x1, y1⟩ <;> rcases one_wide t r (by omega) with ⟨x2, y2⟩ | ⟨x2, y2⟩
        · rw [y1, y2, hb]
        · rw [hb] at x2; omega
        · rw [hb] at x2; omega
        · rw [y1, y2]
  refine ⟨by unfold uw; rw [hd], ?_⟩
  have hs : strayAt t r = strayAt s p := by rw [Bool.eq_iff_iff, stray_iff, stray_iff, hd]
  unfold uAt
  rw [hs, hd, hb]
theorem uw_in (s : ByteArray) (q : Nat) (h : q < s.size) : q + uw s q ≤ s.size := bord_size s q h
end Go.Proofs
