/-
  One row for each set; how many units a row has.
-/
import Derived.Test.YtbacejefgpaabaaDoorVi
namespace Go.Proofs
open Go.RowKit Go.Shelf

theorem hasU_cons (x : Int × Int) (l : List (Int × Int)) (u : Int) : hasU (x :: l) u ↔ (x.1 ≤ u ∧ u ≤ x.2) ∨ hasU l u := by
  unfold hasU
  simp only [List.mem_cons]
  constructor
  · rintro ⟨y, rfl | hy, h⟩
    · exact .inl h
    · exact .inr ⟨y, hy, h⟩
  · rintro (h | ⟨y, hy, h⟩)
    · exact ⟨x, .inl rfl, h⟩
    · exact ⟨y, .inr hy, h⟩
theorem good_cons {x : Int × Int} {l : List (Int × Int)} : Good (x :: l) ↔ Whole x ∧ Good l ∧ ∀ y ∈ l, x.2 + 2 ≤ y.1 := by
  unfold Good
  rw [List.pairwise_cons]
  constructor
  · rintro ⟨h1, h2, h3⟩
    exact ⟨h1 x (by simp), ⟨fun y hy => h1 y (by simp [hy]), h3⟩, h2⟩
  · rintro ⟨h1, ⟨h2, h3⟩, h4⟩
    refine ⟨fun y hy => ?_, h4, h3⟩
    rw [List.mem_cons] at hy
    rcases hy with rfl | hy
    · exact h1
    · exact h2 y hy
theorem has_above {x : Int × Int} {l : List (Int × Int)} (h : Good (x :: l)) {u : Int} (hu : hasU l u) : x.2 + 2 ≤ u := by
  obtain ⟨y, hy, h1, _⟩ := hu
  have := (good_cons.1 h).2.2 y hy
  omega
theorem has_from {x : Int × Int} {l : List (Int × Int)} (h : Good (x :: l)) {u : Int} (hu : hasU (x :: l) u) : x.1 ≤ u := by
  rcases (hasU_cons _ _ _).1 hu with h1 | h1
  · exact h1.1
  · have := has_above h h1
    have := (good_cons.1 h).1.1
    omega
theorem good_unique : ∀ (r s : List (Int × Int)), Good r → Good s → (∀ u, hasU r u ↔ hasU s u) → r = s
  | [], [], _, _, _ => rfl
  | [], y :: s, _, hs, h => by
    have := (h y.1).2 ((hasU_cons _ _ _).2 (.inl ⟨Int.le_refl _, (good_cons.1 hs).1.1⟩))
    exact absurd this (hasU_nil _)
  | x :: r, [], hr, _, h => by
    have := (h x.1).1 ((hasU_cons _ _ _).2 (.inl ⟨Int.le_refl _, (good_cons.1 hr).1.1⟩))
    exact absurd this (hasU_nil _)
  | x :: r, y :: s, hr, hs, h => by
    have gx := (good_cons.1 hr).1.1
    have gy := (good_cons.1 hs).1.1
    have e1 : x.1 = y.1 := by
      have a := has_from hs ((h x.1).1 ((hasU_cons _ _ _).2 (.inl ⟨Int.le_refl _, gx⟩)))
      have b := has_from hr ((h y.1).2 ((hasU_cons _ _ _).2 (.inl ⟨Int.le_refl _, gy⟩)))
      omega
    have e2 : x.2 = y.2 := by
      by_cases k : x.2 < y.2
      · have a := (h (x.2 + 1)).2 ((hasU_cons _ _ _).2 (.inl ⟨by omega, by omega⟩))
        rcases (hasU_cons _ _ _).1 a with a | a
        · omega
        · have := has_above hr a; omega
      · by_cases k2 : y.2 < x.2
        · have a := (h (y.2 + 1)).1 ((hasU_cons _ _ _).2 (.inl ⟨by omega, by omega⟩))
          rcases (hasU_cons _ _ _).1 a with a | a
          · omega
          · have := has_above hs a; omega
        · omega
    have e : x = y := Prod.ext e1 e2
    subst e
    congr 1
    refine good_unique r s (good_cons.1 hr).2.1 (good_cons.1 hs).2.1 (fun u => ?_)
    constructor
    · intro hu
      have a := has_above hr hu
      rcases (hasU_cons _ _ _).1 ((h u).1 ((hasU_cons _ _ _).2 (.inr hu))) with b | b
      · omega
      · exact b
    · intro hu
      have a := has_above hs hu
      rcases (hasU_cons _ _ _).1 ((h u).2 ((hasU_cons _ _ _).2 (.inr hu))) with b | b
      · omega
      · exact b
end Go.Proofs
