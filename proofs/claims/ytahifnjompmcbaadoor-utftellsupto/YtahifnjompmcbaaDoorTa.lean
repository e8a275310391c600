/-
  A text's units from the end on are its units turned round; the last one.
-/
import Derived.Test.YtahifnjompmcbaaDoorOb
namespace Go.Proofs
open Go.RowKit Go.Shelf
set_option maxRecDepth 100000

theorem filter_step (s : ByteArray) (q e : Nat) (hq : bord s q) (hqs : q < s.size) (hqe : q + uw s q = e) : ∀ k p, s.size ≤ p + k → bord s p → p ≤ q →
    (unitsN s k p).filter (fun x => decide (x.1 < e)) = (unitsN s k p).filter (fun x => decide (x.1 < q)) ++ [(q, uAt s q)]
  | 0, p, hk, _, hp => by omega
  | k + 1, p, hk, hb, hp => by
    have hu := uw_pos s p
    rw [unitsN_step s k p (by omega)]
    by_cases h : p = q
    · subst h
      have h1 : (unitsN s k (p + uw s p)).filter (fun x => decide (x.1 < e)) = [] := by
        rw [List.filter_eq_nil_iff]
        intro x hx
        have := unitsN_ge s k _ x hx
        simp; omega
      have h2 : (unitsN s k (p + uw s p)).filter (fun x => decide (x.1 < p)) = [] := by
        rw [List.filter_eq_nil_iff]
        intro x hx
        have := unitsN_ge s k _ x hx
        simp; omega
      rw [List.filter_cons_of_pos (by simp; omega), List.filter_cons_of_neg (by simp), h1, h2]
      rfl
    · have hle := hq p (by omega)
      have ih := filter_step s q e hq hqs hqe k (p + uw s p) (by omega) (bord_next hb) hle
      have hue := uw_pos s q
      rw [List.filter_cons_of_pos (by simp; omega), List.filter_cons_of_pos (by simp; omega), ih]
      rfl
theorem back_filter (s : ByteArray) : ∀ k e, e ≤ k → e ≤ s.size → bord s e → backN s k e = ((units s).filter (fun x => decide (x.1 < e))).reverse := by
  intro k
  induction k with
  | zero =>
    intro e h1 _ _
    obtain rfl : e = 0 := by omega
    have : (units s).filter (fun x => decide (x.1 < 0)) = [] := by rw [List.filter_eq_nil_iff]; intro x _; simp
    rw [this]; rfl
  | succ k ih =>
    intro e h1 h2 h3
    by_cases h0 : e = 0
    · subst h0
      have : (units s).filter (fun x => decide (x.1 < 0)) = [] := by rw [List.filter_eq_nil_iff]; intro x _; simp
      rw [this]; simp [backN]
    · obtain ⟨q, hq, hbq, hqe, hst⟩ := stepB_bord s e h3 (by omega) h2
      rw [backN_step s k e (by omega), hst, ih q (by omega) (by omega) hbq]
      have := filter_step s q e hbq (by omega) hqe s.size 0 (by omega) (bord_zero s) (Nat.zero_le _)
      have h5 : (units s).filter (fun x => decide (x.1 < e)) = (units s).filter (fun x => decide (x.1 < q)) ++ [(q, uAt s q)] := this
      rw [h5, List.reverse_append]
      rfl
theorem back_rev (s : ByteArray) : backU s = (units s).reverse := by
  unfold backU
  rw [back_filter s s.size s.size (Nat.le_refl _) (Nat.le_refl _) (bord_size s)]
  congr 1
  rw [List.filter_eq_self]
  intro x hx
  have := (mem_unitsN s x _ _ hx).1
  simpa using this
theorem last_eq (s : ByteArray) : lastU s = match (units s).getLast? with | none => (0, 0) | some x => ((x.2 : Int), wd x.2) := by
  by_cases h0 : s.size = 0
  · have e1 : units s = [] := by unfold units; rw [h0]; rfl
    have ht := size_tail s
    have e2 : units (tailOf s) = [] := by unfold units; rw [show (tailOf s).size = 0 by omega]; rfl
    rw [e1]
    unfold lastU lastOf
    rw [e2]
    rfl
  · obtain ⟨q, hq, hbq, hqe, hst⟩ := stepB_bord s s.size (bord_size s) (by omega) (Nat.le_refl _)
    have hf := (stepB_facts s s.size (by omega) (Nat.le_refl _)).2.2
    have he : s.extract 0 s.size = s := by
      refine bya_ext_get (by simp) (fun k hk => ?_)
      have hk' : k < s.size := by simpa [ByteArray.size_extract] using hk
      rw [get_ext _ 0 _ k (by omega) (Nat.le_refl _), Nat.zero_add]
    rw [he, hst] at hf
    have hb := back_rev s
    unfold backU at hb
    obtain ⟨j, hj⟩ : ∃ j, s.size = j + 1 := ⟨s.size - 1, by omega⟩
    have hl : (units s).getLast? = some (q, uAt s q) := by
      rw [List.getLast?_eq_head?_reverse, ← hb]
      have : backN s s.size s.size = (q, uAt s q) :: backN s j q := by
        have := backN_step s j s.size (by omega)
        rw [hst, ← hj] at this
        exact this
      rw [this]; rfl
    rw [hl, hf]
    simp only [wd_uAt]
    rw [Prod.mk.injEq]
    exact ⟨rfl, by omega⟩
end Go.Proofs
