/-
  Atoms, by thinking: the whole fill, and what the table tells.
-/
import Derived.Test.YtjjkomaokgmkhaaDoorAdn
namespace Go.Proofs

def ltT (a b : Int × Int) : Prop := a.1 < b.1 ∨ (a.1 = b.1 ∧ a.2 < b.2)
theorem grp_split {a : Int} : ∀ {l : List (Int × Int)}, grp a l ++ l.drop (grp a l).length = l ∧ ∀ x ∈ grp a l, x.1 = a
  | [] => by simp [grp]
  | x :: l => by
    obtain ⟨h1, h2⟩ := grp_split (a := a) (l := l)
    unfold grp at h1 h2 ⊢
    by_cases e : x.1 = a
    · simp only [List.takeWhile_cons, e, BEq.rfl, if_true, List.length_cons, List.drop_succ_cons, List.cons_append]
      exact ⟨by rw [h1], fun y hy => by
        simp only [List.mem_cons] at hy
        rcases hy with rfl | hy
        · exact e
        · exact h2 y hy⟩
    · have : (x.1 == a) = false := by simpa using e
      simp [this]
theorem grp_rest {a : Int} : ∀ {l : List (Int × Int)}, l.Pairwise ltT → (∀ x ∈ l, a ≤ x.1) → ∀ y ∈ l.drop (grp a l).length, a < y.1
  | [], _, _ => by simp [grp]
  | x :: l, hp, hx => by
    rw [List.pairwise_cons] at hp
    unfold grp
    by_cases e : x.1 = a
    · simp only [List.takeWhile_cons, e, BEq.rfl, if_true, List.length_cons, List.drop_succ_cons]
      exact grp_rest hp.2 fun y hy => hx y (by simp [hy])
    · have e2 : (x.1 == a) = false := by simpa using e
      simp only [List.takeWhile_cons, e2, Bool.false_eq_true, if_false, List.length_nil, List.drop_zero]
      intro y hy
      have h0 := hx x (by simp)
      simp only [List.mem_cons] at hy
      rcases hy with rfl | hy
      · omega
      · have := hp.1 y hy
        unfold ltT at this
        omega
theorem fill_FI {LL : List Nat} {L0 : Nat} (hS : Shp LL) : ∀ (k : Nat) (D rest : List (Int × Int)) (s : FS), FI LL L0 D s → (D ++ rest).Pairwise ltT → (∀ x ∈ rest, 0 ≤ x.2 ∧ x.2.toNat / 64 < L0) → rest.length ≤ k → (∀ y ∈ s.st, ∀ z ∈ rest, y < z.1) → FI LL L0 (D ++ rest) (fillP k rest s)
  | 0, D, rest, s, h, _, _, hk, _ => by
    have : rest = [] := List.eq_nil_of_length_eq_zero (by omega)
    subst this
    rw [List.append_nil]; exact h
  | k + 1, D, [], s, h, _, _, _, _ => by rw [List.append_nil]; exact h
  | k + 1, D, x :: l, s, h, hp, hb, hk, hlt => by
    rw [fillP]
    obtain ⟨g1, g2⟩ := grp_split (a := x.1) (l := x :: l)
    have hps := (List.pairwise_append.1 hp).2.1
    have g3 := grp_rest (a := x.1) hps (fun y hy => by
      simp only [List.mem_cons] at hy
      rcases hy with rfl | hy
      · exact Int.le_refl _
      · have := (List.pairwise_cons.1 hps).1 y hy
        unfold ltT at this
        omega)
    obtain ⟨G, hG⟩ : ∃ G, grp x.1 (x :: l) = G := ⟨_, rfl⟩
    have hG0 : G ≠ [] := by rw [← hG]; simp [grp]
    rw [hG] at g1 g2 g3 ⊢
    obtain ⟨R, hR⟩ : ∃ R, (x :: l).drop G.length = R := ⟨_, rfl⟩
    rw [hR] at g1 g3 ⊢
    have hGs : ∀ y ∈ G, y ∈ x :: l := fun y hy => by rw [← g1]; exact List.mem_append_left _ hy
    have hRs : ∀ y ∈ R, y ∈ x :: l := fun y hy => by rw [← g1]; exact List.mem_append_right _ hy
    have hstep := h.step hS x.1 G hG0 g2 (by
      have hGp : G.Pairwise ltT := by rw [← g1] at hps; exact (List.pairwise_append.1 hps).1
      unfold setsN
      rw [List.Nodup, List.pairwise_map]
      refine hGp.imp_of_mem ?_
      intro a b ha hb' hab e
      have h1 := (hb a (hGs a ha)).1
      have h2 := (hb b (hGs b hb')).1
      have h3 := g2 a ha
      have h4 := g2 b hb'
      unfold ltT at hab
      omega) (fun n hn => by
      obtain ⟨y, hy, rfl⟩ := List.mem_map.1 hn
      exact (hb y (hGs y hy)).2) (fun y hy => hlt y hy x (by simp))
    have := fill_FI hS k (D ++ G) R _ hstep (by rw [List.append_assoc, g1]; exact hp) (fun y hy => hb y (hRs y hy)) (by
      have : G.length + R.length = l.length + 1 := by rw [← List.length_append, g1]; rfl
      have := List.length_pos_iff.2 hG0
      simp at hk
      omega) (fun y hy z hz => by
      have hy : y ∈ s.st ++ [x.1] := hy
      rcases List.mem_append.1 hy with h1 | h1
      · exact hlt y h1 z (hRs z hz)
      · simp at h1; subst h1; exact g3 z hz)
    rw [List.append_assoc, g1] at this
    exact this
/-- the atom of a number -/
def ofP (st bg : List Int) (u : Int) : Int := if st.countP (fun x => decide (x ≤ u)) = 0 then -1 else bg.getD (st.countP (fun x => decide (x ≤ u)) - 1) (-1)
theorem count_inc {u : Int} : ∀ {l : List Int}, l.Pairwise (· < ·) → ∀ j (hj : j < l.length), (j < l.countP (fun x => decide (x ≤ u)) ↔ l[j] ≤ u)
  | [], _, j, hj => by simp at hj
  | x :: l, hp, j, hj => by
    rw [List.pairwise_cons] at hp
    by_cases hx : x ≤ u
    · rw [List.countP_cons_of_pos (by simpa using hx)]
      cases j with
      | zero => simp [hx]
      | succ j =>
        have := count_inc (u := u) hp.2 j (by simpa using hj)
        simp only [List.getElem_cons_succ]
        rw [← this]; omega
    · have hz : (x :: l).countP (fun x => decide (x ≤ u)) = 0 := by
        rw [List.countP_eq_zero]
        intro y hy
        simp only [List.mem_cons] at hy
        rcases hy with rfl | hy
        · simpa using hx
        · have := hp.1 y hy; simp; omega
      rw [hz]
      constructor
      · intro h; omega
      · intro h
        exfalso
        cases j with
        | zero => exact hx h
        | succ j =>
          have := hp.1 _ (List.getElem_mem (show j < l.length by simpa using hj))
          simp only [List.getElem_cons_succ] at h
          omega
/-- which segment a number lies in -/
theorem at_seg {st : List Int} (hp : st.Pairwise (· < ·)) (u : Int) : (st.countP (fun x => decide (x ≤ u)) = 0 ∧ ∀ x ∈ st, u < x) ∨ ∃ j, ∃ hj : j < st.length, st.countP (fun x => decide (x ≤ u)) = j + 1 ∧ st[j] ≤ u ∧ ∀ i (hi : i < st.length), j < i → u < st[i] := by
  by_cases h0 : st.countP (fun x => decide (x ≤ u)) = 0
  · refine .inl ⟨h0, fun x hx => ?_⟩
    rw [List.countP_eq_zero] at h0
    have := h0 x hx
    simp at this; exact this
  · obtain ⟨j, hj⟩ : ∃ j, st.countP (fun x => decide (x ≤ u)) = j + 1 := ⟨_, (Nat.succ_pred_eq_of_ne_zero h0).symm⟩
    have hl := List.countP_le_length (p := fun x => decide (x ≤ u)) (l := st)
    refine .inr ⟨j, by omega, hj, (count_inc hp j (by omega)).1 (by omega), fun i hi hji => ?_⟩
    rcases Int.lt_or_le u st[i] with h | h
    · exact h
    · have := (count_inc (u := u) hp i hi).2 h; omega
/-- what the table tells of a number: nothing, or an atom, whose row is the number's -/
theorem FI.of {LL : List Nat} {L0 : Nat} {D : List (Int × Int)} {s : FS} (h : FI LL L0 D s) (hz : Kd LL L0 s.ps 0 (List.replicate L0 0)) (u : Int) : (ofP s.st s.bg u = -1 ∧ Kd LL L0 s.ps 0 (rowD L0 D u)) ∨ ∃ k w : Nat, ofP s.st s.bg u = k ∧ s.wh[k]? = some w ∧ Kd LL L0 s.ps w (rowD L0 D u) := by
  unfold ofP
  rcases at_seg h.inc u with ⟨h0, h1⟩ | ⟨j, hj, h1, h2, h3⟩
  · left
    rw [if_pos h0]
    refine ⟨rfl, ?_⟩
    have : rowD L0 D u = List.replicate L0 0 := by
      unfold rowD
      rw [filter_none (fun x hx => by have := h1 _ (h.pl x hx); simp; omega)]
      rfl
    rw [this]; exact hz
  · rw [h1, if_neg (by omega), Nat.add_sub_cancel]
    have hr : rowD L0 D u = rowD L0 D s.st[j] := by
      unfold rowD
      congr 2
      apply List.filter_congr
      intro x hx
      obtain ⟨i, hi, e⟩ := List.getElem_of_mem (h.pl x hx)
      rw [Bool.eq_iff_iff, decide_eq_true_eq, decide_eq_true_eq, ← e]
      constructor
      · intro hxu
        have hij : ¬ j < i := fun hji => by have := h3 i hi hji; omega
        by_cases e2 : i = j
        · subst e2; exact Int.le_refl _
        · have := List.pairwise_iff_getElem.1 h.inc i j hi hj (by omega); omega
      · intro hxj; omega
    rw [hr]
    have hrow := h.row j hj
    rcases hrow with ⟨a1, a2⟩ | ⟨k, w, a1, a2, a3⟩
    · exact .inl ⟨by rw [List.getD_eq_getElem?_getD, a1]; rfl, a2⟩
    · exact .inr ⟨k, w, by rw [List.getD_eq_getElem?_getD, a1]; rfl, a2, a3⟩
theorem FI.of_at {LL : List Nat} {L0 : Nat} {D : List (Int × Int)} {s : FS} (h : FI LL L0 D s) {j : Nat} {b : Int} (hb : s.bg[j]? = some b) : ∃ hj : j < s.st.length, ofP s.st s.bg s.st[j] = b := by
  have hj : j < s.st.length := by rw [← h.bl]; exact (List.getElem?_eq_some_iff.1 hb).1
  refine ⟨hj, ?_⟩
  unfold ofP
  have hc : s.st.countP (fun x => decide (x ≤ s.st[j])) = j + 1 := by
    rcases at_seg h.inc s.st[j] with ⟨_, h1⟩ | ⟨i, hi, h1, h2, h3⟩
    · have := h1 _ (List.getElem_mem hj); omega
    · have : i = j := by
        rcases Nat.lt_trichotomy i j with e | e | e
        · have := h3 j hj e; omega
        · exact e
        · have := List.pairwise_iff_getElem.1 h.inc j i hj hi e; omega
      rw [h1, this]
  rw [hc, if_neg (by omega), Nat.add_sub_cancel, List.getD_eq_getElem?_getD, hb]; rfl
end Go.Proofs
