/-
  Atoms, by thinking: all turns of some sets, and the table of them.
-/
import Derived.Test.YtjjkomaokgmkhaaDoorAcn
namespace Go.Proofs

/-- a row of ranges that rise and do not touch -/
def RwOk (s : List (Int × Int)) : Prop := s.Pairwise (fun x y => x.2 + 1 < y.1) ∧ ∀ x ∈ s, x.1 ≤ x.2
def inS (s : List (Int × Int)) (u : Int) : Prop := ∃ x ∈ s, x.1 ≤ u ∧ u ≤ x.2
/-- the turns of a set -/
def tnS (n : Int) (s : List (Int × Int)) : List (Int × Int) := s.flatMap fun x => [(x.1, n), (x.2 + 1, n)]
/-- the turns of sets, the first of which has the number k -/
def allT : Nat → List (List (Int × Int)) → List (Int × Int)
  | _, [] => []
  | k, s :: r => tnS k s ++ allT (k + 1) r
theorem allT_snoc : ∀ (k : Nat) (r : List (List (Int × Int))) (s : List (Int × Int)), allT k (r ++ [s]) = allT k r ++ tnS ((k + r.length : Nat) : Int) s
  | k, [], s => by simp [allT]
  | k, x :: r, s => by
    have := allT_snoc (k + 1) r s
    simp only [List.cons_append, allT, this, List.append_assoc, List.length_cons]
    congr 3
    omega
theorem tnS_mem {n : Int} {s : List (Int × Int)} {y : Int × Int} (h : y ∈ tnS n s) : y.2 = n := by
  simp only [tnS, List.mem_flatMap] at h
  obtain ⟨x, _, hx⟩ := h
  simp at hx
  rcases hx with rfl | rfl <;> rfl
theorem allT_mem {y : Int × Int} : ∀ {k : Nat} {S : List (List (Int × Int))}, y ∈ allT k S → ∃ i, ∃ h : i < S.length, y.2 = ((k + i : Nat) : Int) ∧ y ∈ tnS ((k + i : Nat) : Int) S[i]
  | _, [], h => by simp [allT] at h
  | k, s :: r, h => by
    rw [allT, List.mem_append] at h
    rcases h with h | h
    · exact ⟨0, by simp, tnS_mem h, h⟩
    · obtain ⟨i, hi, h1, h2⟩ := allT_mem h
      refine ⟨i + 1, by simpa using hi, by rw [h1]; congr 1; omega, ?_⟩
      have e : (k + (i + 1)) = k + 1 + i := by omega
      simpa [e] using h2
/-- how many turns of a set there are up to a place -/
theorem cnt_S (u : Int) (s : List (Int × Int)) (hs : RwOk s) : ((tnS 0 s).filter fun x => decide (x.1 ≤ u)).length % 2 = 1 ↔ inS s u := by
  obtain ⟨h1, h2⟩ := hs
  induction s with
  | nil => simp [tnS, inS]
  | cons x s ih =>
    rw [List.pairwise_cons] at h1
    have ih := ih h1.2 (fun y hy => h2 y (by simp [hy]))
    have hx := h2 x (by simp)
    have e : tnS 0 (x :: s) = [(x.1, 0), (x.2 + 1, 0)] ++ tnS 0 s := by simp [tnS]
    rw [e, List.filter_append, List.length_append]
    by_cases hu : u < x.1
    · have hz : (tnS 0 s).filter (fun x => decide (x.1 ≤ u)) = [] := filter_none fun y hy => by
        simp only [tnS, List.mem_flatMap] at hy
        obtain ⟨z, hz, hy⟩ := hy
        have := h1.1 z hz
        have := h2 z (by simp [hz])
        simp at hy
        rcases hy with rfl | rfl <;> simp <;> omega
      rw [hz]
      have n1 : ¬ x.1 ≤ u := by omega
      have n2 : ¬ x.2 + 1 ≤ u := by omega
      simp only [List.filter_cons, n1, n2, decide_false, Bool.false_eq_true, if_false, List.filter_nil, List.length_nil]
      constructor
      · intro h; omega
      · rintro ⟨y, hy, h3, h4⟩
        simp at hy
        rcases hy with rfl | hy
        · omega
        · have := h1.1 y hy; omega
    · by_cases hu2 : u ≤ x.2
      · have hz : (tnS 0 s).filter (fun x => decide (x.1 ≤ u)) = [] := filter_none fun y hy => by
          simp only [tnS, List.mem_flatMap] at hy
          obtain ⟨z, hz, hy⟩ := hy
          have := h1.1 z hz
          have := h2 z (by simp [hz])
          simp at hy
          rcases hy with rfl | rfl <;> simp <;> omega
        rw [hz]
        have n1 : x.1 ≤ u := by omega
        have n2 : ¬ x.2 + 1 ≤ u := by omega
        simp only [List.filter_cons, n1, n2, decide_false, decide_true, Bool.false_eq_true, if_false, if_true, List.filter_nil, List.length_nil, List.length_cons]
        exact ⟨fun _ => ⟨x, by simp, n1, hu2⟩, fun _ => by first | trivial | omega⟩
      · have n1 : x.1 ≤ u := by omega
        have n2 : x.2 + 1 ≤ u := by omega
        simp only [List.filter_cons, n1, n2, decide_true, if_true, List.filter_nil, List.length_nil, List.length_cons]
        rw [show 0 + 1 + 1 + ((tnS 0 s).filter fun x => decide (x.1 ≤ u)).length = ((tnS 0 s).filter fun x => decide (x.1 ≤ u)).length + 2 by omega, Nat.add_mod_right, ih]
        constructor
        · rintro ⟨y, hy, h⟩; exact ⟨y, by simp [hy], h⟩
        · rintro ⟨y, hy, h3, h4⟩
          simp at hy
          rcases hy with rfl | hy
          · omega
          · exact ⟨y, hy, h3, h4⟩
theorem len_tnS (u : Int) (n m : Int) (s : List (Int × Int)) : ((tnS n s).filter fun x => decide (x.1 ≤ u)).length = ((tnS m s).filter fun x => decide (x.1 ≤ u)).length := by
  induction s with
  | nil => rfl
  | cons x s ih =>
    have e : ∀ n, tnS n (x :: s) = [(x.1, n), (x.2 + 1, n)] ++ tnS n s := fun n => by simp [tnS]
    rw [e, e, List.filter_append, List.filter_append, List.length_append, List.length_append, ih]
    congr 1
    simp only [List.filter_cons, List.filter_nil]
    split <;> split <;> rfl
theorem cnt_tnS (u : Int) (n : Nat) (s : List (Int × Int)) (m : Nat) : (setsN ((tnS n s).filter fun x => decide (x.1 ≤ u))).count m = if m = n then ((tnS 0 s).filter fun x => decide (x.1 ≤ u)).length else 0 := by
  have key : ∀ (l : List (Int × Int)), (∀ y ∈ l, y.2 = (n : Int)) → (setsN l).count m = if m = n then l.length else 0 := by
    intro l
    induction l with
    | nil => intro _; simp [setsN]
    | cons y l ih =>
      intro h
      have hy := h y (by simp)
      have ih := ih fun z hz => h z (by simp [hz])
      show (y.2.toNat :: setsN l).count m = _
      rw [List.count_cons, ih, hy, Int.toNat_natCast]
      by_cases e : m = n
      · subst e; simp
      · simp [e, Ne.symm e]
  rw [key _ (fun y hy => tnS_mem (List.mem_filter.1 hy).1), len_tnS u n 0]
theorem cnt_allT (u : Int) (m : Nat) : ∀ (S : List (List (Int × Int))) (k : Nat), (setsN ((allT k S).filter fun x => decide (x.1 ≤ u))).count m = if k ≤ m then ((tnS 0 (S.getD (m - k) [])).filter fun x => decide (x.1 ≤ u)).length else 0
  | [], k => by simp [allT, setsN, tnS]
  | s :: r, k => by
    rw [allT, List.filter_append, setsN_append, List.count_append, cnt_tnS, cnt_allT u m r (k + 1)]
    by_cases e : m = k
    · subst e
      rw [if_pos rfl, if_neg (by omega), if_pos (Nat.le_refl _), Nat.sub_self]; simp
    · by_cases h : k ≤ m
      · rw [if_neg e, if_pos (by omega), if_pos h, show m - k = (m - (k + 1)) + 1 by omega]; simp
      · rw [if_neg e, if_neg (by omega), if_neg h]
/-- what a bit of the row at a place tells -/
theorem bit_row {S : List (List (Int × Int))} (hS : ∀ s ∈ S, RwOk s) {L0 : Nat} (hL : S.length ≤ 64 * L0) {all : List (Int × Int)} (hp : all.Perm (allT 0 S)) (u : Int) (n : Nat) : bitW (rowD L0 all u) n = true ↔ inS (S.getD n []) u := by
  have hz : bitW (List.replicate L0 0) n = false := by
    unfold bitW
    have : (List.replicate L0 0).getD (n / 64) 0 = 0 := by
      rw [List.getD_eq_getElem?_getD, List.getElem?_replicate]
      split <;> rfl
    rw [this]; simp
  have hb : ∀ x ∈ setsN (all.filter fun x => decide (x.1 ≤ u)), x / 64 < (List.replicate L0 0).length := fun x hx => by
    obtain ⟨y, hy, rfl⟩ := List.mem_map.1 hx
    obtain ⟨i, hi, h1, _⟩ := allT_mem (hp.subset (List.mem_filter.1 hy).1)
    rw [h1, Int.toNat_natCast]
    simp
    omega
  unfold rowD
  rw [bit_flips hb, hz, Bool.false_xor, decide_eq_true_eq]
  have hc : (setsN (all.filter fun x => decide (x.1 ≤ u))).count n = (setsN ((allT 0 S).filter fun x => decide (x.1 ≤ u))).count n := by
    unfold setsN
    exact (hp.filter _).map _ |>.count_eq n
  rw [hc, cnt_allT, if_pos (Nat.zero_le _), Nat.sub_zero]
  by_cases h : n < S.length
  · have e : S.getD n [] = S[n] := by simp [List.getD, h]
    rw [e]
    exact cnt_S u _ (hS _ (List.getElem_mem h))
  · have e : S.getD n [] = [] := by simp [List.getD, h]
    rw [e]
    simp [tnS, inS]
/-- rows of words are the same just if all bits are -/
theorem row_ext {r r' : List Nat} (h : W64 r) (h' : W64 r') (hl : r.length = r'.length) (hb : ∀ n, bitW r n = bitW r' n) : r = r' := by
  apply List.ext_getElem hl
  intro j hj hj'
  apply Nat.eq_of_testBit_eq
  intro i
  by_cases hi : i < 64
  · have := hb (64 * j + i)
    unfold bitW at this
    rw [show (64 * j + i) / 64 = j by omega, show (64 * j + i) % 64 = i by omega] at this
    simpa [List.getD, hj, hj'] using this
  · have g : ∀ x : Nat, x < 18446744073709551616 → x.testBit i = false := fun x hx => by
      refine Nat.testBit_lt_two_pow ?_
      have : 2 ^ 64 ≤ 2 ^ i := Nat.pow_le_pow_right (by decide) (by omega)
      omega
    rw [g _ (h _ (List.getElem_mem hj)), g _ (h' _ (List.getElem_mem hj'))]
theorem rowD_w64 (L0 : Nat) (D : List (Int × Int)) (a : Int) : W64 (rowD L0 D a) := (W64.zeros L0).flips
end Go.Proofs
