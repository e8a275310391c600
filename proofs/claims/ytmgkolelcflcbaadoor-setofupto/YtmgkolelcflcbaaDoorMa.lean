/-
  One row for each set; how many units a row has.
-/
import Derived.Test.YtmgkolelcflcbaaDoorVi
namespace Go.Proofs
open Go.RowKit Go.Shelf

theorem hasU_cons (x : Int × Int) (l : List (Int × Int)) (u : Int) : hasU (x :: l) u ↔ (x.1 ≤ u ∧ u ≤ x.2) ∨ hasU l u := by
  unfold hasU
  simp only [List.mem_cons]
  constructor
  · rintro ⟨y, rfl | hy, h⟩
    · exact .inl h
    · exact .inr ⟨y, hy, h⟩
  · rintro (h | ⟨y, hy, h⟩)
    · exact ⟨x, .inl rfl, h⟩
    · exact ⟨y, .inr hy, h⟩
theorem good_cons {x : Int × Int} {l : List (Int × Int)} : Good (x :: l) ↔ Whole x ∧ Good l ∧ ∀ y ∈ l, x.2 + 2 ≤ y.1 := by
  unfold Good
  rw [List.pairwise_cons]
  constructor
  · rintro ⟨h1, h2, h3⟩
    exact ⟨h1 x (by simp), ⟨fun y hy => h1 y (by simp [hy]), h3⟩, h2⟩
  · rintro ⟨h1, ⟨h2, h3⟩, h4⟩
    refine ⟨fun y hy => ?_, h4, h3⟩
    rw [List.mem_cons] at hy
    rcases hy with rfl | hy
    · exact h1
    · exact h2 y hy
theorem has_above {x : Int × Int} {l : List (Int × Int)} (h : Good (x :: l)) {u : Int} (hu : hasU l u) : x.2 + 2 ≤ u := by
  obtain ⟨y, hy, h1, _⟩ := hu
  have := (good_cons.1 h).2.2 y hy
  omega
theorem has_from {x : Int × Int} {l : List (Int × Int)} (h : Good (x :: l)) {u : Int} (hu : hasU (x :: l) u) : x.1 ≤ u := by
  rcases (hasU_cons _ _ _).1 hu with h1 | h1
  · exact h1.1
  · have := has_above h h1
    have := (good_cons.1 h).1.1
    omega
theorem good_unique : ∀ (r s : List (Int × Int)), Good r → Good s → (∀ u, hasU r u ↔ hasU s u) → r = s
  | [], [], _, _, _ => rfl
  | [], y :: s, _, hs, h => by
    have := (h y.1).2 ((hasU_cons _ _ _).2 (.inl ⟨Int.le_refl _, (good_cons.1 hs).1.1⟩))
    exact absurd this (hasU_nil _)
  | x :: r, [], hr, _, h => by
    have := (h x.1).1 ((hasU_cons _ _ _).2 (.inl ⟨Int.le_refl _, (good_cons.1 hr).1.1⟩))
    exact absurd this (hasU_nil _)
  | x :: r, y :: s, hr, hs, h => by
    have gx := (good_cons.1 hr).1.1
    have gy := (good_cons.1 hs).1.1
    have e1 : x.1 = y.1 := by
      have a := has_from hs ((h x.1).1 ((hasU_cons _ _ _).2 (.inl ⟨Int.le_refl _, gx⟩)))
      have b := has_from hr ((h y.1).2 ((hasU_cons _ _ _).2 (.inl ⟨Int.le_refl _, gy⟩)))
      omega
    have e2 : x.2 = y.2 := by
      by_cases k : x.2 < y.2
      · have a := (h (x.2 + 1)).2 ((hasU_cons _ _ _).2 (.inl ⟨by omega, by omega⟩))
        rcases (hasU_cons _ _ _).1 a with a | a
        · omega
        · have := has_above hr a; omega
      · by_cases k2 : y.2 < x.2
        · have a := (h (y.2 + 1)).1 ((hasU_cons _ _ _).2 (.inl ⟨by omega, by omega⟩))
          rcases (hasU_cons _ _ _).1 a with a | a
          · omega
          · have := has_above hs a; omega
        · omega
    have e : x = y := Prod.ext e1 e2
    subst e
    congr 1
    refine good_unique r s (good_cons.1 hr).2.1 (good_cons.1 hs).2.1 (fun u => ?_)
    constructor
    · intro hu
      have a := has_above hr hu
      rcases (hasU_cons _ _ _).1 ((h u).1 ((hasU_cons _ _ _).2 (.inr hu))) with b | b
      · omega
      · exact b
    · intro hu
      have a := has_above hs hu
      rcases (hasU_cons _ _ _).1 ((h u).2 ((hasU_cons _ _ _).2 (.inr hu))) with b | b
      · omega
      · exact b
theorem good_units {r : List (Int × Int)} (h : Good r) {u : Int} (hu : hasU r u) : isU u := by
  obtain ⟨x, hx, h1, h2⟩ := hu
  have := (h.1 x hx).2
  unfold isU; omega
theorem canon_good {l r : List (Int × Int)} (h : Canon l r) (hl : Good l) : r = l :=
  good_unique r l h.1 hl (fun u => by rw [h.2 u]; exact ⟨fun k => k.2, fun k => ⟨good_units hl k, k⟩⟩)
/-! how many -/
def cnt (p : Int → Bool) : Nat := (List.range 1114368).countP (fun i : Nat => p (i : Int))
theorem cnt_or (p q : Int → Bool) : cnt (fun u => p u || q u) + cnt (fun u => p u && q u) = cnt p + cnt q := by
  unfold cnt
  generalize List.range 1114368 = l
  induction l with
  | nil => rfl
  | cons a l ih =>
    have key : ∀ (A B C D : Nat) (x y : Bool), A + B = C + D → (A + if (x || y) = true then 1 else 0) + (B + if (x && y) = true then 1 else 0) = (C + if x = true then 1 else 0) + (D + if y = true then 1 else 0) := by
      intro A B C D x y h; cases x <;> cases y <;> simp <;> omega
    rw [List.countP_cons, List.countP_cons, List.countP_cons, List.countP_cons]
    exact key _ _ _ _ _ _ ih
theorem cnt_none (p : Int → Bool) (h : ∀ u, p u = false) : cnt p = 0 := by
  unfold cnt
  rw [List.countP_eq_zero]
  intro a _; simp [h]
theorem cnt_range (a b : Nat) (hb : b < 1114368) (hab : a ≤ b) : cnt (fun u => decide ((a : Int) ≤ u) && decide (u ≤ (b : Int))) = b - a + 1 := by
  unfold cnt
  have h : ∀ n, (List.range n).countP (fun i : Nat => decide ((a : Int) ≤ (i : Int)) && decide ((i : Int) ≤ (b : Int))) = min n (b + 1) - a := by
    intro n
    induction n with
    | zero => simp
    | succ n ih =>
      rw [List.range_succ, List.countP_append, ih]
      by_cases h1 : a ≤ n ∧ n ≤ b
      · have : List.countP (fun i : Nat => decide ((a : Int) ≤ (i : Int)) && decide ((i : Int) ≤ (b : Int))) [n] = 1 := by simp; omega
        rw [this]; omega
      · have : List.countP (fun i : Nat => decide ((a : Int) ≤ (i : Int)) && decide ((i : Int) ≤ (b : Int))) [n] = 0 := by simp; omega
        rw [this]; omega
  rw [h]; omega
theorem tot_cnt : ∀ (l : List (Int × Int)), Good l → tot l = (cnt (fun u => decide (hasU l u)) : Int)
  | [], _ => by rw [cnt_none _ (fun u => by simp [hasU])]; rfl
  | x :: l, h => by
    have hg := good_cons.1 h
    have ih := tot_cnt l hg.2.1
    rw [tot_cons, ih]
    have h0 : 0 ≤ x.1 ∧ x.1 ≤ x.2 ∧ x.2 ≤ 1114367 := by have := hg.1; unfold Whole at this; omega
    obtain ⟨a, ha⟩ : ∃ a : Nat, x.1 = (a : Int) := ⟨x.1.toNat, by omega⟩
    obtain ⟨b, hb⟩ : ∃ b : Nat, x.2 = (b : Int) := ⟨x.2.toNat, by omega⟩
    have hr := cnt_range a b (by omega) (by omega)
    have hor := cnt_or (fun u => decide ((a : Int) ≤ u) && decide (u ≤ (b : Int))) (fun u => decide (hasU l u))
    have e1 : (fun u => (decide ((a : Int) ≤ u) && decide (u ≤ (b : Int))) || decide (hasU l u)) = (fun u => decide (hasU (x :: l) u)) := by
      funext u
      simp only [hasU_cons, ha, hb, Bool.decide_or, Bool.decide_and]
    have e2 : cnt (fun u => (decide ((a : Int) ≤ u) && decide (u ≤ (b : Int))) && decide (hasU l u)) = 0 := by
      refine cnt_none _ (fun u => ?_)
      by_cases hu : hasU l u
      · have := has_above h hu
        simp; intro _ _; omega
      · simp [hu]
    rw [e1, e2, hr] at hor
    omega
theorem tot_or {a b j m : List (Int × Int)} (ha : Good a) (hb : Good b) (hj : Good j) (hm : Good m) (h1 : ∀ u, hasU j u ↔ hasU a u ∨ hasU b u) (h2 : ∀ u, hasU m u ↔ hasU a u ∧ hasU b u) : tot j + tot m = tot a + tot b := by
  rw [tot_cnt a ha, tot_cnt b hb, tot_cnt j hj, tot_cnt m hm]
  have := cnt_or (fun u => decide (hasU a u)) (fun u => decide (hasU b u))
  have e1 : (fun u => decide (hasU a u) || decide (hasU b u)) = (fun u => decide (hasU j u)) := by funext u; simp only [h1, Bool.decide_or]
  have e2 : (fun u => decide (hasU a u) && decide (hasU b u)) = (fun u => decide (hasU m u)) := by funext u; simp only [h2, Bool.decide_and]
  rw [e1, e2] at this
  omega
/-! there and back -/
theorem nth_at : ∀ (l : List (Int × Int)) (k : Nat) (i : Int), (∀ x ∈ l, Whole x) → k < l.length → 0 ≤ i → i < (rg l k).2 - (rg l k).1 + 1 → nthL l (tot (l.take k) + i) = some ((rg l k).1 + i)
  | [], k, i, _, hk, _, _ => by simp at hk
  | x :: l, 0, i, _, _, h0, h1 => by
    have e : rg (x :: l) 0 = x := rfl
    rw [e] at h1 ⊢
    simp only [List.take_zero, tot_nil, nthL, Int.zero_add]
    rw [if_pos h1]
  | x :: l, k + 1, i, hw, hk, h0, h1 => by
    have e : rg (x :: l) (k + 1) = rg l k := by simp [rg]
    rw [e] at h1 ⊢
    have ih := nth_at l k i (fun y hy => hw y (by simp [hy])) (by simpa using hk) h0 h1
    have hb := (tot_bound (l := l.take k) (fun y hy => hw y (by simp [List.mem_of_mem_take hy]))).1
    rw [List.take_succ_cons, tot_cons, nthL, if_neg (by omega), show x.2 - x.1 + 1 + tot (l.take k) + i - (x.2 - x.1 + 1) = tot (l.take k) + i by omega]
    exact ih
theorem nth_place {l : List (Int × Int)} (h : Good l) {u : Int} (hu : hasU l u) : nthL l (placeU l u) = some u ∧ 0 ≤ placeU l u := by
  have hlt : fnd l u < l.length := by
    have h1 := fnd_le l u
    by_cases e : fnd l u = l.length
    · exact absurd hu (hasU_end h e)
    · omega
  have h1 := (hasU_in h hlt).1 hu
  have h2 : ¬ (rg l (fnd l u)).2 < u := fun e => by have := (fnd_lt h u hlt).2 e; omega
  have h3 := nth_at l (fnd l u) (u - (rg l (fnd l u)).1) h.1 hlt (by omega) (by omega)
  have h4 := (tot_bound (l := l.take (fnd l u)) (fun y hy => h.1 y (List.mem_of_mem_take hy))).1
  unfold placeU
  rw [show tot (l.take (fnd l u)) + u - (rg l (fnd l u)).1 = tot (l.take (fnd l u)) + (u - (rg l (fnd l u)).1) by omega, h3]
  exact ⟨by rw [show (rg l (fnd l u)).1 + (u - (rg l (fnd l u)).1) = u by omega], by omega⟩
end Go.Proofs
