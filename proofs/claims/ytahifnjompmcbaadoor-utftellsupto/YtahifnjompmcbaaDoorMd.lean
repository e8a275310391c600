/-
  Two pieces of a text, plainly: their units are the whole ones just at a border.
-/
import Derived.Test.YtahifnjompmcbaaDoorMb
namespace Go.Proofs
open Go.RowKit Go.Shelf
set_option maxRecDepth 100000
/-! two pieces -/
theorem same_at {s t : ByteArray} {p r : Nat} (h : ∀ k, p + k < s.size → r + k < t.size → t.get! (r + k) = s.get! (p + k)) (hp0 : p < s.size) (hr0 : r < t.size) (hr : r + uw s p ≤ t.size) (hp : p + uw t r ≤ s.size) : uw t r = uw s p ∧ uAt t r = uAt s p := by
  have hb : t.get! r = s.get! p := h 0 (by omega) (by omega)
  have hd : Utf8.decode t r = Utf8.decode s p := by
    by_cases h1 : 1 < uw s p
    · obtain ⟨c, F⟩ := form_of s p h1
      have F2 := F.move hr (fun k hk => by rw [h k (by have := F.1; omega) (by omega)])
      rw [F2.2.1, F.2.1]
    · by_cases h2 : 1 < uw t r
      · obtain ⟨c, F⟩ := form_of t r h2
        have F2 := F.move (t := s) (r := p) hp (fun k hk => by rw [h k (by omega) (by have := F.1; omega)])
        rw [F2.uw] at h1
        omega
      · have a1 := uw_pos s p
        have a2 := uw_pos t r
        rcases one_wide s p (by omega) with ⟨x1, y1⟩ | ⟨x1, y1⟩ <;> rcases one_wide t r (by omega) with ⟨x2, y2⟩ | ⟨x2, y2⟩
        · rw [y1, y2, hb]
        · rw [hb] at x2; omega
        · rw [hb] at x2; omega
        · rw [y1, y2]
  refine ⟨by unfold uw; rw [hd], ?_⟩
  have hs : strayAt t r = strayAt s p := by rw [Bool.eq_iff_iff, stray_iff, stray_iff, hd]
  unfold uAt
  rw [hs, hd, hb]
theorem get_left (a b : ByteArray) (q : Nat) (h : q < a.size) : (a ++ b).get! q = a.get! q := by
  rw [get_bang _ _ (by rw [ByteArray.size_append]; omega), get_bang _ _ h, ByteArray.getElem_append_left h]
theorem get_right (a b : ByteArray) (r : Nat) (h : r < b.size) : (a ++ b).get! (a.size + r) = b.get! r := by
  rw [get_bang _ _ (by rw [ByteArray.size_append]; omega), get_bang _ _ h, ByteArray.getElem_append_right (by omega)]
  congr 1
  omega
theorem uw_in (s : ByteArray) (q : Nat) (h : q < s.size) : q + uw s q ≤ s.size := bord_size s q h
theorem at_left {a b : ByteArray} {q : Nat} (hq : q < a.size) (hw : q + uw (a ++ b) q ≤ a.size) : uw a q = uw (a ++ b) q ∧ uAt a q = uAt (a ++ b) q := by
  have hz := ByteArray.size_append (a := a) (b := b)
  have := uw_in a q hq
  exact same_at (fun k _ h2 => (get_left a b _ h2).symm) (by omega) hq hw (by omega)
theorem at_right {a b : ByteArray} {r : Nat} (hr : r < b.size) : uw b r = uw (a ++ b) (a.size + r) ∧ uAt b r = uAt (a ++ b) (a.size + r) := by
  have hz := ByteArray.size_append (a := a) (b := b)
  have h1 := uw_in b r hr
  have h2 := uw_in (a ++ b) (a.size + r) (by omega)
  exact same_at (fun k _ h2 => by rw [Nat.add_assoc]; exact (get_right a b _ h2).symm) (by omega) hr (by omega) (by omega)
def nums (l : List (Nat × Nat)) : List Nat := l.map (·.2)
theorem fuel (s : ByteArray) : ∀ k k' q, s.size ≤ q + k → s.size ≤ q + k' → unitsN s k q = unitsN s k' q
  | 0, k', q, h, _ => by rw [unitsN_end s 0 q (by omega), unitsN_end s k' q (by omega)]
  | k + 1, 0, q, _, h => by rw [unitsN_end s _ q (by omega), unitsN_end s 0 q (by omega)]
  | k + 1, k' + 1, q, h, h' => by
    by_cases hq : q < s.size
    · have := uw_pos s q
      rw [unitsN_step s k q hq, unitsN_step s k' q hq, fuel s k k' (q + uw s q) (by omega) (by omega)]
    · rw [unitsN_end s _ q hq, unitsN_end s _ q hq]
theorem nums_right (a b : ByteArray) : ∀ k r, nums (unitsN (a ++ b) k (a.size + r)) = nums (unitsN b k r)
  | 0, r => rfl
  | k + 1, r => by
    have hz := ByteArray.size_append (a := a) (b := b)
    by_cases hr : r < b.size
    · obtain ⟨h1, h2⟩ := at_right (a := a) hr
      rw [unitsN_step _ k _ (by omega), unitsN_step b k r hr]
      have ih := nums_right a b k (r + uw b r)
      rw [h1, ← Nat.add_assoc, ← h1] at ih
      simp only [nums, List.map_cons] at ih ⊢
      rw [← h2, ← h1, ih]
    · rw [unitsN_end _ _ _ (by omega), unitsN_end b _ r hr]
theorem nums_split (a b : ByteArray) (hb : bord (a ++ b) a.size) : ∀ k q, q ≤ a.size → (a ++ b).size ≤ q + k → nums (unitsN (a ++ b) k q) = nums (unitsN a k q) ++ nums (units b)
  | 0, q, hq, hk => by
    have hz := ByteArray.size_append (a := a) (b := b)
    have : b.size = 0 := by omega
    have hu : units b = [] := by unfold units; rw [this]; rfl
    rw [hu]; rfl
  | k + 1, q, hq, hk => by
    have hz := ByteArray.size_append (a := a) (b := b)
    by_cases h : q < a.size
    · obtain ⟨h1, h2⟩ := at_left h (hb q h)
      have := uw_pos (a ++ b) q
      rw [unitsN_step _ k q (by omega), unitsN_step a k q h]
      have ih := nums_split a b hb k (q + uw (a ++ b) q) (hb q h) (by omega)
      rw [h1]
      simp only [nums, List.map_cons, List.cons_append] at ih ⊢
      rw [ih, h2]
    · obtain rfl : q = a.size := by omega
      have hr : nums (unitsN (a ++ b) (k + 1) a.size) = nums (unitsN b (k + 1) 0) := nums_right a b (k + 1) 0
      rw [hr, unitsN_end a _ _ (by omega), fuel b (k + 1) b.size 0 (by omega) (by omega)]
      rfl
def tot (l : List Nat) : Nat := (l.map fun u : Nat => (wd (u : Int)).toNat).sum
theorem tot_cons (u : Nat) (l : List Nat) : tot (u :: l) = (wd u).toNat + tot l := by simp [tot]
theorem tot_units (s : ByteArray) : ∀ k q, q ≤ s.size → s.size ≤ q + k → tot (nums (unitsN s k q)) = s.size - q
  | 0, q, h, hk => by
    have : s.size - q = 0 := by omega
    rw [this]; rfl
  | k + 1, q, h, hk => by
    by_cases hq : q < s.size
    · have h1 := uw_in s q hq
      have h2 := uw_pos s q
      have ih := tot_units s k (q + uw s q) h1 (by omega)
      rw [unitsN_step s k q hq]
      show tot (uAt s q :: nums (unitsN s k (q + uw s q))) = _
      rw [tot_cons, ih, wd_uAt]
      omega
    · rw [unitsN_end s _ q hq]
      have : s.size - q = 0 := by omega
      rw [this]; rfl
theorem place_tot (s : ByteArray) : ∀ k q l1 x l2, unitsN s k q = l1 ++ x :: l2 → x.1 = q + tot (nums l1)
  | 0, q, l1, x, l2, h => by simp [unitsN] at h
  | k + 1, q, l1, x, l2, h => by
    by_cases hq : q < s.size
    · rw [unitsN_step s k q hq] at h
      cases l1 with
      | nil =>
        simp only [List.nil_append, List.cons.injEq] at h
        rw [← h.1]; rfl
      | cons y l1 =>
        simp only [List.cons_append, List.cons.injEq] at h
        have ih := place_tot s k (q + uw s q) l1 x l2 h.2
        rw [ih, ← h.1]
        show _ = q + tot (uAt s q :: nums l1)
        rw [tot_cons, wd_uAt]
        omega
    · rw [unitsN_end s _ q hq] at h
      simp at h
/-- two pieces' units are the whole's just at a border -/
theorem pieces_iff (a b : ByteArray) : bord (a ++ b) a.size ↔ nums (units a) ++ nums (units b) = nums (units (a ++ b)) := by
  have hz := ByteArray.size_append (a := a) (b := b)
  constructor
  · intro h
    have := nums_split a b h (a ++ b).size 0 (Nat.zero_le _) (by omega)
    unfold units at this ⊢
    rw [this, fuel a (a ++ b).size a.size 0 (by omega) (by omega)]
  · intro h
    have hta : tot (nums (units a)) = a.size := by have := tot_units a a.size 0 (Nat.zero_le _) (by omega); unfold units; omega
    obtain ⟨l1, l2, hl, h1⟩ : ∃ l1 l2, units (a ++ b) = l1 ++ l2 ∧ nums l1 = nums (units a) := by
      refine ⟨(units (a ++ b)).take (units a).length, (units (a ++ b)).drop (units a).length, (List.take_append_drop _ _).symm, ?_⟩
      have : nums ((units (a ++ b)).take (units a).length) = (nums (units (a ++ b))).take (units a).length := by simp [nums, List.map_take]
      rw [this, ← h, List.take_left' (by simp [nums])]
    cases l2 with
    | nil =>
      have hlen : (nums (units (a ++ b))).length = (nums (units a)).length := by rw [hl, List.append_nil, h1]
      rw [← h, List.length_append] at hlen
      have hnl : (nums (units b)).length = (units b).length := by simp [nums]
      have hb0 : units b = [] := List.eq_nil_of_length_eq_zero (by omega)
      have : b.size = 0 := by
        by_cases h0 : 0 < b.size
        · exact absurd hb0 (units_ne h0)
        · omega
      rw [show a.size = (a ++ b).size by omega]
      exact bord_size _
    | cons x l2 =>
      have hx := place_tot (a ++ b) (a ++ b).size 0 l1 x l2 hl
      rw [h1, hta] at hx
      have hm : x ∈ units (a ++ b) := by rw [hl]; simp
      have hlt := (mem_unitsN _ x _ _ hm).1
      have hp : a.size < (a ++ b).size := by omega
      exact (places_iff (a ++ b) a.size hp (a ++ b).size 0 (by omega) (bord_zero _) (Nat.zero_le _)).1 ⟨x, hm, by omega⟩
end Go.Proofs
