/-
  Atoms, by thinking: a place more.
-/
import Derived.Test.YtjjkomaokgmkhaaDoorAbn
namespace Go.Proofs

theorem flips_other {X : List Nat} : ∀ {r : List Nat} {j : Nat}, (∀ x ∈ X, x / 64 < r.length) → (∀ x ∈ X, x / 64 ≠ j) → (flips r X).getD j 0 = r.getD j 0 := by
  induction X with
  | nil => intro r j _ _; rfl
  | cons x X ih =>
    intro r j h hj
    show (flips (flipW r x) X).getD j 0 = _
    rw [ih (fun y hy => by rw [flipW_len]; exact h y (by simp [hy])) (fun y hy => hj y (by simp [hy])), flipW_other (h x (by simp)) (Ne.symm (hj x (by simp)))]
theorem flips_ne {r : List Nat} {X : List Nat} (h : ∀ x ∈ X, x / 64 < r.length) (h0 : X ≠ []) (hn : X.Nodup) : flips r X ≠ r := fun e => by
  obtain ⟨x, hx⟩ := List.exists_mem_of_ne_nil X h0
  have := bit_flips h x
  rw [e, List.Nodup.count hn, if_pos hx] at this
  cases hb : bitW r x <;> rw [hb] at this <;> simp at this
theorem segs_nil (k : Int) : ∀ (st bg : List Int), (∀ b ∈ bg, b ≠ k) → segs k st bg = []
  | [], _, _ => by simp [segs]
  | [_], _, _ => by simp [segs]
  | _ :: _ :: _, [], _ => by simp [segs]
  | _ :: q :: st, x :: bg, h => by
    rw [segs, if_neg (h x (by simp)), segs_nil k (q :: st) bg (fun b hb => h b (by simp [hb]))]
    rfl
theorem filter_all {α : Type} {p : α → Bool} {l : List α} (h : ∀ x ∈ l, p x = true) : l.filter p = l := List.filter_eq_self.2 h
theorem filter_none {α : Type} {p : α → Bool} {l : List α} (h : ∀ x ∈ l, p x = false) : l.filter p = [] := List.filter_eq_nil_iff.2 fun x hx => by simp [h x hx]
theorem last_max {l : List Int} (h : l.Pairwise (· < ·)) {x y : Int} (hx : x ∈ l) (hy : l.getLast? = some y) : x ≤ y := by
  obtain ⟨i, hi, rfl⟩ := List.getElem_of_mem hx
  rw [List.getLast?_eq_getElem?] at hy
  obtain ⟨h1, h2⟩ := List.getElem?_eq_some_iff.1 hy
  by_cases e : i = l.length - 1
  · subst e; rw [h2]; exact Int.le_refl _
  · have := List.pairwise_iff_getElem.1 h i (l.length - 1) hi h1 (by omega)
    rw [h2] at this; omega
theorem wh_keep {wh : List Nat} {w k x : Nat} (h : wh[k]? = some x) : (addW wh w)[k]? = some x := by
  unfold addW
  split
  · exact h
  · rw [List.getElem?_append_left (List.getElem?_eq_some_iff.1 h).1]; exact h
theorem FI.r0len {LL : List Nat} {L0 : Nat} {D : List (Int × Int)} {s : FS} (h : FI LL L0 D s) : s.r0.length = L0 := by rw [h.r0, flips_len]; simp
theorem FI.bgs {LL : List Nat} {L0 : Nat} {D : List (Int × Int)} {s : FS} (h : FI LL L0 D s) {j : Nat} {b : Int} (hb : s.bg[j]? = some b) : b = -1 ∨ ∃ k : Nat, b = k ∧ k < s.wh.length := by
  have hj := (List.getElem?_eq_some_iff.1 hb).1
  rcases h.row j (by rw [← h.bl]; exact hj) with ⟨h1, _⟩ | ⟨k, w, h1, h2, _⟩
  · rw [hb] at h1; injection h1 with h1; exact .inl h1
  · rw [hb] at h1; injection h1 with h1; exact .inr ⟨k, h1, (List.getElem?_eq_some_iff.1 h2).1⟩
/-- the numbers of some places, with one place more -/
theorem FI.step {LL : List Nat} {L0 : Nat} {D : List (Int × Int)} {s : FS} (hS : Shp LL) (h : FI LL L0 D s) (a : Int) (G : List (Int × Int)) (hG0 : G ≠ []) (hGa : ∀ x ∈ G, x.1 = a) (hGn : (setsN G).Nodup) (hGb : ∀ x ∈ setsN G, x / 64 < L0) (hlt : ∀ y ∈ s.st, y < a) : FI LL L0 (D ++ G) (fstep s a (setsN G)) := by
  have hr0 := h.r0len
  have hX0 : setsN G ≠ [] := by unfold setsN; simpa using hG0
  obtain ⟨X, hX⟩ : ∃ X, setsN G = X := ⟨_, rfl⟩
  have hXb : ∀ x ∈ X, x / 64 < s.r0.length := fun x hx => by rw [hr0]; exact hGb x (hX ▸ hx)
  obtain ⟨c1, c2, c3, c4, _⟩ := levs_chn s.up s.ps s.r0 (flips s.r0 X) (X.map (· / 64)) h.nd h.chn (flips_len _ _).symm (fun j hj => flips_other hXb (fun x hx e => hj (List.mem_map.2 ⟨x, hx, e⟩))) (fun j hj => by
    obtain ⟨x, hx, rfl⟩ := List.mem_map.1 hj
    rw [flips_len]; exact hXb x hx)
  have hpl : ∀ x ∈ D, x.1 < a := fun x hx => hlt _ (h.pl x hx)
  -- rows of old places
  have hold : ∀ j (hj : j < s.st.length), rowD L0 (D ++ G) s.st[j] = rowD L0 D s.st[j] := fun j hj => by
    unfold rowD
    rw [List.filter_append, filter_none (l := G) (fun x hx => by
      have h1 := hGa x hx
      have h2 := hlt _ (List.getElem_mem hj)
      simp; omega), List.append_nil]
  have hnew : rowD L0 (D ++ G) a = flips s.r0 X := by
    unfold rowD
    rw [filter_all (fun x hx => by
      rcases List.mem_append.1 hx with h1 | h1
      · have := hpl x h1; simp; omega
      · have := hGa x h1; simp; omega), setsN_append, flips_append, ← h.r0, hX]
  obtain ⟨w, hw⟩ : ∃ w, topOf (flipU s X).2 = w := ⟨_, rfl⟩
  have hK : Kd LL L0 (flipU s X).1 w (flips s.r0 X) := ⟨(flipU s X).2, c3, c4.trans h.len, by rw [flips_len, hr0], hw⟩
  have hps : s.ps <+: (flipU s X).1 := c1
  have hnd : (flipU s X).1.Nodup := c2
  have hlast : ∀ a0, s.st.getLast? = some a0 → rowD L0 D a0 = s.r0 := fun a0 ha => by
    unfold rowD
    rw [filter_all (fun x hx => by have := last_max h.inc (h.pl x hx) ha; simp; omega), ← h.r0]
  -- the new atom
  have hatm : (w = 0 ∧ atm s.wh w = -1) ∨ ∃ k : Nat, atm s.wh w = k ∧ (addW s.wh w)[k]? = some w := by
    by_cases h0 : w = 0
    · exact .inl ⟨h0, by unfold atm; rw [if_pos h0]⟩
    · refine .inr ⟨s.wh.idxOf w, by unfold atm; rw [if_neg h0], ?_⟩
      unfold addW knw
      by_cases hm : w ∈ s.wh
      · have h2 := List.idxOf_lt_length_of_mem hm
        simp only [hm, decide_true, Bool.or_true, if_true]
        rw [List.getElem?_eq_getElem h2, List.getElem_idxOf]
      · simp only [h0, hm, decide_false, Bool.or_self, Bool.false_eq_true, if_false]
        rw [List.idxOf_eq_length hm]; simp
  rw [hX]
  have hstl : (s.st ++ [a]).length = s.st.length + 1 := by simp
  have hbl := h.bl
  have hwl : s.wh.length ≤ (addW s.wh w).length := by unfold addW; split <;> simp
  -- a number that is new
  have hnewk : ∀ k, k < (addW s.wh w).length → k < s.wh.length ∨ (k = s.wh.length ∧ knw s.wh w = false ∧ atm s.wh w = k) := fun k hk => by
    unfold addW at hk
    split at hk
    · exact .inl hk
    · rename_i hkn
      have hkn : knw s.wh w = false := by simpa using hkn
      simp at hk
      by_cases e : k < s.wh.length
      · exact .inl e
      · refine .inr ⟨by omega, hkn, ?_⟩
        unfold knw at hkn
        simp only [Bool.or_eq_false_iff, decide_eq_false_iff_not] at hkn
        unfold atm
        rw [if_neg hkn.1, List.idxOf_eq_length hkn.2]
        omega
  refine ⟨?_, c3, c4.trans h.len, hnd, pre_get hps h.p0, ?_, ?_, ?_, ?_, ?_, ?_, ?_, ?_, ?_, ?_⟩
  · show flips s.r0 X = _
    rw [h.r0, setsN_append, flips_append, hX]
  · show (s.bg ++ [_]).length = (s.st ++ [a]).length
    simp [hbl]
  · show (s.st ++ [a]).Pairwise (· < ·)
    rw [List.pairwise_append]
    exact ⟨h.inc, by simp, fun x hx y hy => by simp at hy; subst hy; exact hlt x hx⟩
  · intro x hx
    show x.1 ∈ s.st ++ [a]
    rcases List.mem_append.1 hx with h1 | h1
    · exact List.mem_append_left _ (h.pl x h1)
    · rw [hGa x h1]; simp
  · intro j hj
    show ((s.bg ++ [atm s.wh (topOf (flipU s X).2)])[j]? = some (-1) ∧ Kd LL L0 (flipU s X).1 0 (rowD L0 (D ++ G) (s.st ++ [a])[j])) ∨ ∃ k w' : Nat, (s.bg ++ [atm s.wh (topOf (flipU s X).2)])[j]? = some (k : Int) ∧ (addW s.wh (topOf (flipU s X).2))[k]? = some w' ∧ Kd LL L0 (flipU s X).1 w' (rowD L0 (D ++ G) (s.st ++ [a])[j])
    rw [hw]
    have hj' : j < s.st.length + 1 := by rw [← hstl]; exact hj
    have hj2 : j < (s.st ++ [a]).length := hj
    have hje : (s.st ++ [a])[j]'hj2 = (if h : j < s.st.length then s.st[j] else a) := by
      by_cases e : j < s.st.length
      · rw [List.getElem_append_left e, dif_pos e]
      · rw [List.getElem_append_right (by omega), dif_neg e]; simp
    show ((s.bg ++ [atm s.wh w])[j]? = some (-1) ∧ Kd LL L0 (flipU s X).1 0 (rowD L0 (D ++ G) ((s.st ++ [a])[j]'hj2))) ∨ ∃ k w' : Nat, (s.bg ++ [atm s.wh w])[j]? = some (k : Int) ∧ (addW s.wh w)[k]? = some w' ∧ Kd LL L0 (flipU s X).1 w' (rowD L0 (D ++ G) ((s.st ++ [a])[j]'hj2))
    rw [hje]
    by_cases e : j < s.st.length
    · rw [List.getElem?_append_left (by omega), dif_pos e, hold j e]
      rcases h.row j e with ⟨h1, h2⟩ | ⟨k, w', h1, h2, h3⟩
      · exact .inl ⟨h1, h2.grow hps⟩
      · exact .inr ⟨k, w', h1, wh_keep h2, h3.grow hps⟩
    · have e2 : j = s.st.length := by omega
      subst e2
      rw [List.getElem?_append_right (by omega), hbl, Nat.sub_self, dif_neg e, hnew]
      simp only [List.getElem?_cons_zero]
      rcases hatm with ⟨h1, h2⟩ | ⟨k, h1, h2⟩
      · exact .inl ⟨by rw [h2], h1 ▸ hK⟩
      · exact .inr ⟨k, w, by rw [h1], h2, hK⟩
  · show (addW s.wh (topOf (flipU s X).2)).Nodup
    rw [hw]
    unfold addW
    split
    · exact h.wn
    · rename_i hk
      simp only [knw, Bool.or_eq_true, decide_eq_true_eq, not_or] at hk
      rw [List.nodup_append]
      exact ⟨h.wn, by simp, fun x hx y hy => by simp at hy; subst hy; intro e; subst e; exact hk.2 hx⟩
  · show 0 ∉ addW s.wh (topOf (flipU s X).2)
    rw [hw]
    unfold addW
    split
    · exact h.w0
    · rename_i hk
      simp only [knw, Bool.or_eq_true, decide_eq_true_eq, not_or] at hk
      simp only [List.mem_append, List.mem_singleton, not_or]
      exact ⟨h.w0, fun e => hk.1 e.symm⟩
  · show (endA s.st s.bg a (addS s.wh (topOf (flipU s X).2) s.sp)).length = (addW s.wh (topOf (flipU s X).2)).length
    have he : ∀ sp, (endA s.st s.bg a sp).length = sp.length := fun sp => by
      unfold endA
      split
      · split <;> simp
      · rfl
    rw [he]
    unfold addS addW
    split <;> simp [h.sl]
  · intro k hk
    have hk' : k < (addW s.wh w).length := by rw [← hw]; exact hk
    show ∃ j, j < (s.st ++ [a]).length ∧ (s.bg ++ [atm s.wh (topOf (flipU s X).2)])[j]? = some (k : Int) ∧ ∀ j' b, j' < j → (s.bg ++ [atm s.wh (topOf (flipU s X).2)])[j']? = some b → b < k
    rw [hw, hstl]
    rcases hnewk k hk' with h1 | ⟨h1, _, h3⟩
    · obtain ⟨j, h4, h5, h6⟩ := h.fst k h1
      refine ⟨j, by omega, by rw [List.getElem?_append_left (by omega)]; exact h5, fun j' b hj' hb => ?_⟩
      rw [List.getElem?_append_left (by omega)] at hb
      exact h6 j' b hj' hb
    · refine ⟨s.st.length, by omega, ?_, fun j' b hj' hb => ?_⟩
      · rw [List.getElem?_append_right (by omega), hbl, Nat.sub_self, h3]; rfl
      · rw [List.getElem?_append_left (by omega)] at hb
        rcases h.bgs hb with h4 | ⟨k', h4, h5⟩ <;> omega
  · intro k hk
    have hk' : k < (addW s.wh w).length := by rw [← hw]; exact hk
    show (endA s.st s.bg a (addS s.wh (topOf (flipU s X).2) s.sp))[k]? = some (segs k (s.st ++ [a]) (s.bg ++ [atm s.wh (topOf (flipU s X).2)]))
    rw [hw, segs_snoc k a _ s.st s.bg hbl.symm]
    have hs1 : (addS s.wh w s.sp)[k]? = some (segs k s.st s.bg) := by
      rcases hnewk k hk' with h1 | ⟨h1, h2, _⟩
      · unfold addS
        split
        · exact h.seg k h1
        · rw [List.getElem?_append_left (by rw [h.sl]; exact h1)]; exact h.seg k h1
      · unfold addS
        rw [h2, if_neg (by simp), List.getElem?_append_right (by rw [h.sl]; omega), h.sl, h1, Nat.sub_self, segs_nil]
        · rfl
        · intro b hb e
          obtain ⟨j, hj⟩ := List.getElem?_of_mem hb
          rcases h.bgs hj with h4 | ⟨k', h4, h5⟩ <;> omega
    unfold endA
    cases hst : s.st.getLast? with
    | none => simp only [List.append_nil]; exact hs1
    | some a0 =>
      cases hbg : s.bg.getLast? with
      | none => simp only [List.append_nil]; exact hs1
      | some b0 =>
        simp only
        have hb0 : b0 = -1 ∨ ∃ k' : Nat, b0 = k' ∧ k' < s.wh.length := by
          rw [List.getLast?_eq_getElem?] at hbg
          exact h.bgs hbg
        rcases hb0 with rfl | ⟨k', rfl, hk2⟩
        · rw [if_pos rfl, if_neg (by omega), List.append_nil]; exact hs1
        · rw [if_neg (by omega), Int.toNat_natCast, List.getElem?_modify]
          by_cases e : k' = k
          · subst e
            rw [hs1, if_pos rfl]; simp
          · rw [hs1, if_neg (by omega), List.append_nil]; simp [e]
  · intro j b b' hb hb'
    have hb : (s.bg ++ [atm s.wh (topOf (flipU s X).2)])[j]? = some b := hb
    have hb' : (s.bg ++ [atm s.wh (topOf (flipU s X).2)])[j + 1]? = some b' := hb'
    rw [hw] at hb hb'
    by_cases e : j + 1 < s.bg.length
    · rw [List.getElem?_append_left (by omega)] at hb
      rw [List.getElem?_append_left e] at hb'
      exact h.adj j b b' hb hb'
    · have hj1 := (List.getElem?_eq_some_iff.1 hb').1
      simp at hj1
      have e2 : j + 1 = s.bg.length := by omega
      rw [List.getElem?_append_right (by omega), e2, Nat.sub_self] at hb'
      rw [List.getElem?_append_left (by omega)] at hb
      simp at hb'
      subst hb'
      intro e3
      have hjs : j < s.st.length := by omega
      have hla : s.st.getLast? = some s.st[j] := by rw [List.getLast?_eq_getElem?, show s.st.length - 1 = j by omega, List.getElem?_eq_getElem hjs]
      have hrow := h.row j hjs
      rw [hlast _ hla, hb] at hrow
      refine flips_ne hXb (hX ▸ hX0) (hX ▸ hGn) (Kd.row hS (ps := (flipU s X).1) (w := w) hK ?_)
      rcases hrow with ⟨h1, h2⟩ | ⟨k, w', h1, h2, h3⟩
      · injection h1 with h1
        rcases hatm with ⟨h4, _⟩ | ⟨k, h4, _⟩
        · rw [h4]; exact h2.grow hps
        · omega
      · injection h1 with h1
        rcases hatm with ⟨_, h4⟩ | ⟨k', h4, h5⟩
        · omega
        · have : k' = k := by omega
          subst this
          rw [wh_keep h2] at h5
          injection h5 with h5
          rw [← h5]; exact h3.grow hps
end Go.Proofs
