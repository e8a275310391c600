/-
  The reference's united: one pass over what is left, by thinking.
-/
import Derived.Test.YtmgkolelcflcbaaDoorRd
namespace Go.Proofs
open Go.RowKit Go.Shelf

/-- how far a pass over what is left is: x began it as x0; g: it has grown; rs: what is far -/
def Ov (left : List (Int × Int)) (x0 x : Int × Int) (g : Bool) (rs : List (Int × Int)) (i : Nat) : Prop :=
  Growing left x ∧ x.1 = x0.1 ∧ rs.length ≤ i ∧ x0.2 ≤ x.2 ∧ (g = false → x = x0 ∧ rs = (left.take i).filter (fun y => decide (x.2 + 1 < y.1)) ∧ ∀ y ∈ left.take i, y.1 ≤ x.2 + 1 → y.2 ≤ x.2) ∧ (g = true → x0.2 < x.2)
theorem ov_start {left : List (Int × Int)} {x : Int × Int} (h : Growing left x) : Ov left x x false [] 0 := ⟨h, rfl, Nat.le_refl _, Int.le_refl _, fun _ => ⟨rfl, by simp, by simp⟩, fun e => by cases e⟩
theorem ov_far {left : List (Int × Int)} {x0 x : Int × Int} {g : Bool} {rs : List (Int × Int)} {i : Nat} (h : Ov left x0 x g rs i) (hi : i < left.length) (hf : x.2 + 1 < left[i].1) : Ov left x0 x g (rs ++ [left[i]]) (i + 1) := by
  obtain ⟨h1, h2, h3, h4, h5, h6⟩ := h
  refine ⟨h1, h2, by simp; omega, h4, fun e => ?_, h6⟩
  obtain ⟨e1, e2, e3⟩ := h5 e
  refine ⟨e1, ?_, fun y hy hy1 => ?_⟩
  · rw [List.take_succ_eq_append_getElem hi, List.filter_append, ← e2]
    simp [hf]
  · rw [List.take_succ_eq_append_getElem hi, List.mem_append] at hy
    rcases hy with hy | hy
    · exact e3 y hy hy1
    · obtain rfl : y = left[i] := by simpa using hy
      omega
theorem ov_in {left : List (Int × Int)} {x0 x : Int × Int} {g : Bool} {rs : List (Int × Int)} {i : Nat} (h : Ov left x0 x g rs i) (hi : i < left.length) (hf : left[i].1 ≤ x.2 + 1) (hb : left[i].2 ≤ x.2) : Ov left x0 x g rs (i + 1) := by
  obtain ⟨h1, h2, h3, h4, h5, h6⟩ := h
  refine ⟨h1, h2, by omega, h4, fun e => ?_, h6⟩
  obtain ⟨e1, e2, e3⟩ := h5 e
  refine ⟨e1, ?_, fun y hy hy1 => ?_⟩
  · rw [List.take_succ_eq_append_getElem hi, List.filter_append, ← e2]
    have : ¬ x.2 + 1 < left[i].1 := by omega
    simp [this]
  · rw [List.take_succ_eq_append_getElem hi, List.mem_append] at hy
    rcases hy with hy | hy
    · exact e3 y hy hy1
    · obtain rfl : y = left[i] := by simpa using hy
      exact hb
theorem ov_grow {left : List (Int × Int)} {x0 x : Int × Int} {g : Bool} {rs : List (Int × Int)} {i : Nat} (hw : ∀ y ∈ left, Whole y) (h : Ov left x0 x g rs i) (hi : i < left.length) (hf : left[i].1 ≤ x.2 + 1) (hb : x.2 < left[i].2) : Ov left x0 (x.1, left[i].2) true rs (i + 1) := by
  obtain ⟨h1, h2, h3, h4, _, _⟩ := h
  exact ⟨growing_step hw h1 (List.getElem_mem hi) hf hb, h2, by omega, by show x0.2 ≤ left[i].2; omega, (fun e => by cases e), fun _ => by show x0.2 < left[i].2; omega⟩
theorem ov_end {left : List (Int × Int)} {x0 x : Int × Int} {rs : List (Int × Int)} (h : Ov left x0 x false rs left.length) : rs = left.filter (fun y => decide (x.2 + 1 < y.1)) ∧ ∀ y ∈ left, y.1 ≤ x.2 + 1 → y.2 ≤ x.2 := by
  obtain ⟨_, e2, e3⟩ := h.2.2.2.2.1 rfl
  rw [List.take_length] at e2 e3
  exact ⟨e2, e3⟩
/-- what x may yet grow by -/
def leftOver (x : Int × Int) (g : Bool) : Nat := 2 * (1114368 - x.2).toNat + (if g then 1 else 0)
theorem growing_top {left : List (Int × Int)} {x : Int × Int} (h : Growing left x) : x.2 ≤ 1114367 := by
  have h1 := h.1.1
  have h2 := h.1.2
  omega
theorem ov_less {left : List (Int × Int)} {x0 x : Int × Int} {g : Bool} {rs : List (Int × Int)} {i : Nat} (h : Ov left x0 x g rs i) : leftOver x g < leftOver x0 true := by
  have ht := growing_top h.1
  unfold leftOver
  cases g with
  | false =>
    have := (h.2.2.2.2.1 rfl).1
    rw [this]
    simp
  | true =>
    have := h.2.2.2.2.2 rfl
    simp
    omega
end Go.Proofs
