/-
  The reference's borders are the layer's, plainly.
-/
import Derived.Test.YtahifnjompmcbaaDoorBm
namespace Go.Proofs
open Go.RowKit Go.Shelf
/-- what the reference takes for the unit at a place -/
def refU (s : ByteArray) (p : Nat) : Int := if beginsU s p < 0 then 1114112 + ((s.get! p).toNat : Int) else beginsU s p
theorem refU_eq (s : ByteArray) (p : Nat) (hp : p < s.size) : refU s p = (uAt s p : Int) := by
  unfold refU
  rw [begins_eq s p hp]
  cases h : strayAt s p with
  | true => rw [uAt_stray h]; simp
  | false =>
    simp only [Bool.false_eq_true, if_false]
    rw [if_neg (by omega)]
theorem refW_eq (s : ByteArray) (p : Nat) (hp : p < s.size) : wd (refU s p) = (uw s p : Int) := by rw [refU_eq s p hp, wd_uAt]
/-- what the reference answers of a place -/
def refBorder (s : ByteArray) (p : Int) : Bool := p == s.size || (units s).any (fun x => (x.1 : Int) == p) || p == 0
theorem places_lt (s : ByteArray) : ∀ k q x, x ∈ unitsN s k q → x.1 < s.size
  | 0, _, _, h => by simp [unitsN] at h
  | k + 1, q, x, h => by
    by_cases hq : q < s.size
    · rw [unitsN_step s k q hq] at h
      rcases List.mem_cons.1 h with rfl | h
      · exact hq
      · exact places_lt s k _ x h
    · rw [unitsN_end s _ q hq] at h; cases h
theorem refBorder_out (s : ByteArray) (p : Int) (h : p < 0 ∨ (s.size : Int) < p) : refBorder s p = false := by
  unfold refBorder
  rw [Bool.or_eq_false_iff, Bool.or_eq_false_iff]
  refine ⟨⟨by simp; omega, ?_⟩, by simp; omega⟩
  rw [List.any_eq_false]
  intro x hx
  have := places_lt s _ _ x hx
  simp; omega
theorem refBorder_in (s : ByteArray) (p : Nat) (hp : p ≤ s.size) : refBorder s p = borderU s p := by
  rw [Bool.eq_iff_iff, border_iff s p hp]
  unfold refBorder
  by_cases h : p = s.size
  · subst h; simp [bord_size]
  · have hlt : p < s.size := by omega
    rw [← places_iff s p hlt s.size 0 (by omega) (bord_zero s) (by omega)]
    constructor
    · intro hh
      rw [Bool.or_eq_true, Bool.or_eq_true] at hh
      rcases hh with (hh | hh) | hh
      · simp at hh; omega
      · obtain ⟨x, hx, e⟩ := List.any_eq_true.1 hh
        exact ⟨x, hx, by simp at e; omega⟩
      · have h0 : p = 0 := by simp at hh; omega
        subst h0
        obtain ⟨j, hj⟩ : ∃ j, s.size = j + 1 := ⟨s.size - 1, by omega⟩
        rw [hj, unitsN_step s j 0 (by omega)]
        exact ⟨_, List.mem_cons_self, rfl⟩
    · rintro ⟨x, hx, e⟩
      rw [Bool.or_eq_true, Bool.or_eq_true]
      exact .inl (.inr (List.any_eq_true.2 ⟨x, hx, by simp [e]⟩))
end Go.Proofs
