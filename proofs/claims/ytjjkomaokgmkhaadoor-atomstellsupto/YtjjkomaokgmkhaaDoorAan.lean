/-
  Atoms, by thinking: words of marks, and the pairs that tell rows of words apart.
-/
import Derived.Lib.SlicesCompact
namespace Go.Proofs

/-- whether the n-th set is marked in some words -/
def bitW (r : List Nat) (n : Nat) : Bool := (r.getD (n / 64) 0).testBit (n % 64)
/-- the mark of the n-th set is turned -/
def flipW (r : List Nat) (n : Nat) : List Nat := r.set (n / 64) (r.getD (n / 64) 0 ^^^ 2 ^ (n % 64))
theorem flipW_len (r : List Nat) (n : Nat) : (flipW r n).length = r.length := by simp [flipW]
theorem getD_set (r : List Nat) (i j x : Nat) (h : i < r.length) : (r.set i x).getD j 0 = if j = i then x else r.getD j 0 := by
  simp only [List.getD_eq_getElem?_getD, List.getElem?_set]
  by_cases e : i = j
  · subst e; simp [h]
  · simp [e, Ne.symm e]
theorem bit_flip {r : List Nat} {n : Nat} (h : n / 64 < r.length) (m : Nat) : bitW (flipW r n) m = (bitW r m ^^ decide (m = n)) := by
  unfold bitW flipW
  rw [getD_set _ _ _ _ h]
  by_cases e : m / 64 = n / 64
  · rw [if_pos e, Nat.testBit_xor, Nat.testBit_two_pow, e]
    congr 1
    rw [Bool.eq_iff_iff]; simp only [decide_eq_true_eq]; omega
  · rw [if_neg e]
    have : ¬ m = n := fun h => e (by rw [h])
    simp [this]
theorem flipW_other {r : List Nat} {n j : Nat} (h : n / 64 < r.length) (hj : j ≠ n / 64) : (flipW r n).getD j 0 = r.getD j 0 := by
  unfold flipW; rw [getD_set _ _ _ _ h, if_neg hj]
def flips (r : List Nat) (X : List Nat) : List Nat := X.foldl flipW r
theorem flips_len (X : List Nat) : ∀ r, (flips r X).length = r.length := by
  induction X with
  | nil => intro r; rfl
  | cons x X ih => intro r; show (flips (flipW r x) X).length = _; rw [ih, flipW_len]
theorem flips_snoc (r : List Nat) (X : List Nat) (x : Nat) : flips r (X ++ [x]) = flipW (flips r X) x := by simp [flips]
/-- words stay below 2^64 -/
def W64 (r : List Nat) : Prop := ∀ x ∈ r, x < 18446744073709551616
theorem W64.getD {r : List Nat} (h : W64 r) (i : Nat) : r.getD i 0 < 18446744073709551616 := by
  rw [List.getD_eq_getElem?_getD]
  cases e : r[i]? with
  | none => simp
  | some x => simp; exact h x (List.mem_of_getElem? e)
theorem W64.set {r : List Nat} (h : W64 r) (i : Nat) {x : Nat} (hx : x < 18446744073709551616) : W64 (r.set i x) := fun y hy => by
  rcases List.mem_or_eq_of_mem_set hy with h1 | h1
  · exact h y h1
  · rw [h1]; exact hx
theorem W64.flip {r : List Nat} (h : W64 r) (n : Nat) : W64 (flipW r n) := by
  refine h.set _ ?_
  have h1 := h.getD (n / 64)
  have h2 : 2 ^ (n % 64) < 2 ^ 64 := Nat.pow_lt_pow_right (by decide) (by omega)
  exact Nat.xor_lt_two_pow (n := 64) (by omega) h2
theorem W64.flips {X : List Nat} : ∀ {r : List Nat}, W64 r → W64 (flips r X) := by
  induction X with
  | nil => intro r h; exact h
  | cons x X ih => intro r h; exact ih (h.flip x)
theorem W64.zeros (n : Nat) : W64 (List.replicate n 0) := fun x hx => by rw [List.eq_of_mem_replicate hx]; decide
/-- whether the mark of a set was turned an odd number of times -/
theorem bit_flips {X : List Nat} : ∀ {r : List Nat}, (∀ x ∈ X, x / 64 < r.length) → ∀ m, bitW (flips r X) m = (bitW r m ^^ decide (X.count m % 2 = 1)) := by
  induction X with
  | nil => intro r _ m; simp [flips]
  | cons x X ih =>
    intro r h m
    have hx := h x (by simp)
    show bitW (flips (flipW r x) X) m = _
    rw [ih (fun y hy => by rw [flipW_len]; exact h y (by simp [hy])), bit_flip hx, List.count_cons]
    by_cases e : m = x
    · subst e
      simp only [decide_true, BEq.rfl, if_true]
      by_cases hc : X.count m % 2 = 1
      · have : ¬ (X.count m + 1) % 2 = 1 := by omega
        simp [hc, this]
      · have : (X.count m + 1) % 2 = 1 := by omega
        simp [hc, this]
    · have e2 : (x == m) = false := by simpa using Ne.symm e
      simp [e, e2]
/-- the pair at a place of a row -/
def prAt (r : List Nat) (i : Nat) : Nat × Nat := (r.getD (2 * i) 0, r.getD (2 * i + 1) 0)
/-- pairs, and one more -/
def addP (ps : List (Nat × Nat)) (p : Nat × Nat) : List (Nat × Nat) := if p ∈ ps then ps else ps ++ [p]
theorem addP_pre (ps : List (Nat × Nat)) (p : Nat × Nat) : ps <+: addP ps p := by
  unfold addP; split
  · exact List.prefix_refl _
  · exact List.prefix_append _ _
theorem idx_addP (ps : List (Nat × Nat)) (p : Nat × Nat) : (addP ps p)[ps.idxOf p]? = some p := by
  unfold addP
  split
  · rename_i h
    have h2 := List.idxOf_lt_length_of_mem h
    rw [List.getElem?_eq_getElem h2, List.getElem_idxOf]
  · rename_i h
    rw [List.idxOf_eq_length h]; simp
theorem addP_nodup {ps : List (Nat × Nat)} (h : ps.Nodup) (p : Nat × Nat) : (addP ps p).Nodup := by
  unfold addP
  split
  · exact h
  · rename_i hp
    rw [List.nodup_append]
    exact ⟨h, by simp, fun a ha b hb => by simp at hb; subst hb; intro e; subst e; exact hp ha⟩
theorem pre_get {α : Type} {l k : List α} (h : l <+: k) {i : Nat} {x : α} (e : l[i]? = some x) : k[i]? = some x := by
  obtain ⟨t, rfl⟩ := h
  rw [List.getElem?_append_left (List.getElem?_eq_some_iff.1 e).1]; exact e
theorem nodup_idx {α : Type} {l : List α} (h : l.Nodup) {i j : Nat} {x : α} (hi : l[i]? = some x) (hj : l[j]? = some x) : i = j := by
  obtain ⟨h1, h2⟩ := List.getElem?_eq_some_iff.1 hi
  obtain ⟨h3, h4⟩ := List.getElem?_eq_some_iff.1 hj
  rcases Nat.lt_trichotomy i j with hlt | e | hlt
  · exact absurd (h2.trans h4.symm) (List.pairwise_iff_getElem.1 h i j h1 h3 hlt)
  · exact e
  · exact absurd (h4.trans h2.symm) (List.pairwise_iff_getElem.1 h j i h3 h1 hlt)
/-- one place of the row above is numbered anew -/
def lev1 (below : List Nat) (s : List (Nat × Nat) × List Nat) (i : Nat) : List (Nat × Nat) × List Nat := (addP s.1 (prAt below i), s.2.set i (s.1.idxOf (prAt below i)))
def lev (below : List Nat) (s : List (Nat × Nat) × List Nat) (ts : List Nat) : List (Nat × Nat) × List Nat := ts.foldl (lev1 below) s
theorem lev_snoc (below : List Nat) (s : List (Nat × Nat) × List Nat) (ts : List Nat) (i : Nat) : lev below s (ts ++ [i]) = lev1 below (lev below s ts) i := by simp [lev]
theorem lev_facts (below : List Nat) : ∀ (ts : List Nat) (s : List (Nat × Nat) × List Nat), s.1.Nodup → s.1 <+: (lev below s ts).1 ∧ (lev below s ts).1.Nodup ∧ (lev below s ts).2.length = s.2.length ∧ (∀ j, j ∉ ts → (lev below s ts).2.getD j 0 = s.2.getD j 0) ∧ (∀ j, j ∈ ts → j < s.2.length → (lev below s ts).1[(lev below s ts).2.getD j 0]? = some (prAt below j)) ∧ (lev below s ts).1.length ≤ s.1.length + ts.length := by
  intro ts
  induction ts with
  | nil => intro s h; exact ⟨List.prefix_refl _, h, rfl, fun _ _ => rfl, fun j hj => by simp at hj, by simp [lev]⟩
  | cons i ts ih =>
    intro s h
    obtain ⟨a1, a2, a3, a4, a5, a6⟩ := ih (lev1 below s i) (addP_nodup h _)
    have e : lev below s (i :: ts) = lev below (lev1 below s i) ts := rfl
    rw [e]
    have l1 : (lev1 below s i).2.length = s.2.length := by simp [lev1]
    have p1 : (lev1 below s i).1.length ≤ s.1.length + 1 := by simp only [lev1, addP]; split <;> simp
    refine ⟨(addP_pre _ _).trans a1, a2, a3.trans l1, fun j hj => ?_, fun j hj hl => ?_, by simp only [List.length_cons]; omega⟩
    · simp only [List.mem_cons, not_or] at hj
      rw [a4 j hj.2]
      simp only [lev1, List.getD_eq_getElem?_getD, List.getElem?_set, if_neg (Ne.symm hj.1)]
    · by_cases h2 : j ∈ ts
      · exact a5 j h2 (by omega)
      · have hji : j = i := by simpa [h2] using hj
        subst hji
        have hv : (lev1 below s j).2.getD j 0 = s.1.idxOf (prAt below j) := by simp only [lev1]; rw [getD_set _ _ _ _ hl, if_pos rfl]
        rw [a4 j h2, hv]
        exact pre_get a1 (idx_addP _ _)
/-- rows above one another: each number is that of a pair of the row below -/
def Chn (ps : List (Nat × Nat)) : List Nat → List (List Nat) → Prop
  | _, [] => True
  | below, ab :: up => below.length % 2 = 0 ∧ (∀ i, 2 * i + 1 < below.length → i < ab.length ∧ ps[ab.getD i 0]? = some (prAt below i)) ∧ (∀ i, below.length ≤ 2 * i + 1 → ab.getD i 0 = 0) ∧ Chn ps ab up
theorem Chn.grow {ps ps' : List (Nat × Nat)} (hp : ps <+: ps') : ∀ {up : List (List Nat)} {r : List Nat}, Chn ps r up → Chn ps' r up
  | [], _, _ => trivial
  | _ :: _, _, ⟨h0, h1, h2, h3⟩ => ⟨h0, fun i hi => ⟨(h1 i hi).1, pre_get hp (h1 i hi).2⟩, h2, Chn.grow hp h3⟩
/-- all rows above one are numbered anew, where it was touched -/
def levs (ps : List (Nat × Nat)) (below : List Nat) : List (List Nat) → List Nat → List (Nat × Nat) × List (List Nat)
  | [], _ => (ps, [])
  | ab :: up, ts => ((levs (lev below (ps, ab) (Lib.compact (ts.map (· / 2)))).1 (lev below (ps, ab) (Lib.compact (ts.map (· / 2)))).2 up (Lib.compact (ts.map (· / 2)))).1, (lev below (ps, ab) (Lib.compact (ts.map (· / 2)))).2 :: (levs (lev below (ps, ab) (Lib.compact (ts.map (· / 2)))).1 (lev below (ps, ab) (Lib.compact (ts.map (· / 2)))).2 up (Lib.compact (ts.map (· / 2)))).2)

theorem mem_compact {α : Type} [Inhabited α] [DecidableEq α] (zs : List α) (x : α) : x ∈ Lib.compact zs ↔ x ∈ zs := by
  unfold Lib.compact Lib.compactUpTo
  simp only [List.mem_map, List.mem_filter, List.mem_range]
  constructor
  · rintro ⟨j, ⟨hj, _⟩, rfl⟩
    simp [hj]
  · intro hx
    obtain ⟨j, hj, e⟩ := List.getElem_of_mem hx
    have key : ∀ n, n ≤ j → zs.toArray[n]! = x → ∃ a, (a < zs.length ∧ Lib.keeps zs.toArray a = true) ∧ zs.toArray[a]! = x := by
      intro n
      induction n with
      | zero => intro _ h; exact ⟨0, ⟨by omega, Lib.keeps_lt_one _ 0 (by omega)⟩, h⟩
      | succ n ih =>
        intro hn h
        by_cases he : zs.toArray[n + 1]! = zs.toArray[n + 1 - 1]!
        · exact ih (by omega) (by simp only [Nat.add_sub_cancel] at he; rw [← he]; exact h)
        · exact ⟨n + 1, ⟨by omega, Lib.keeps_pos he⟩, h⟩
    exact key j (Nat.le_refl _) (by simp [hj, e])
theorem compact_len {α : Type} [Inhabited α] [DecidableEq α] (zs : List α) : (Lib.compact zs).length ≤ zs.length := by
  unfold Lib.compact Lib.compactUpTo
  rw [List.length_map]
  exact Nat.le_trans (List.length_filter_le _ _) (by simp)
/-- what a row above looks like behind a touch: the places that were touched, and all others, tell the pairs below -/
theorem levs_chn : ∀ (up : List (List Nat)) (ps : List (Nat × Nat)) (old below : List Nat) (ts : List Nat), ps.Nodup → Chn ps old up → old.length = below.length → (∀ j, j ∉ ts → below.getD j 0 = old.getD j 0) → (∀ j ∈ ts, j < below.length) →
    ps <+: (levs ps below up ts).1 ∧ (levs ps below up ts).1.Nodup ∧ Chn (levs ps below up ts).1 below (levs ps below up ts).2 ∧ (levs ps below up ts).2.map List.length = up.map List.length ∧ (levs ps below up ts).1.length ≤ ps.length + up.length * ts.length := by
  intro up
  induction up with
  | nil => intro ps old below ts hn _ _ _ _; exact ⟨List.prefix_refl _, hn, trivial, rfl, by simp [levs]⟩
  | cons ab up ih =>
    intro ps old below ts hn hc hl ho ht
    obtain ⟨h0, h1, h2, h3⟩ := hc
    obtain ⟨ts', hts⟩ : ∃ ts', ts' = Lib.compact (ts.map (· / 2)) := ⟨_, rfl⟩
    have hm : ∀ j, j ∈ ts' ↔ ∃ t ∈ ts, t / 2 = j := fun j => by rw [hts, mem_compact]; simp
    have hlen : ts'.length ≤ ts.length := by rw [hts]; exact Nat.le_trans (compact_len _) (by simp)
    obtain ⟨a1, a2, a3, a4, a5, a6⟩ := lev_facts below ts' (ps, ab) hn
    simp only [levs, ← hts]
    obtain ⟨s, hs⟩ : ∃ s, s = lev below (ps, ab) ts' := ⟨_, rfl⟩
    rw [← hs] at a1 a2 a3 a4 a5 a6 ⊢
    simp only at a1 a3 a4 a5 a6
    have hpr : ∀ i, i ∉ ts' → prAt below i = prAt old i := fun i hi => by
      have e1 : 2 * i ∉ ts := fun h => hi ((hm i).2 ⟨_, h, by omega⟩)
      have e2 : 2 * i + 1 ∉ ts := fun h => hi ((hm i).2 ⟨_, h, by omega⟩)
      unfold prAt
      rw [ho _ e1, ho _ e2]
    have htl : ∀ j ∈ ts', 2 * j + 1 < below.length := fun j hj => by
      obtain ⟨t, ht1, rfl⟩ := (hm j).1 hj
      have := ht t ht1
      omega
    have htab : ∀ j ∈ ts', j < ab.length := fun j hj => (h1 j (by rw [hl]; exact htl j hj)).1
    obtain ⟨b1, b2, b3, b4, b5⟩ := ih s.1 ab s.2 ts' a2 (h3.grow a1) a3.symm a4 (fun j hj => by rw [a3]; exact htab j hj)
    refine ⟨a1.trans b1, b2, ⟨by omega, fun i hi => ?_, fun i hi => ?_, b3⟩, by simp [b4, a3], ?_⟩
    · have hi' : 2 * i + 1 < old.length := by omega
      refine ⟨by rw [a3]; exact (h1 i hi').1, pre_get b1 ?_⟩
      by_cases hj : i ∈ ts'
      · exact a5 i hj (htab i hj)
      · rw [a4 i hj, hpr i hj]
        exact pre_get a1 (h1 i hi').2
    · have hj : i ∉ ts' := fun h => by have := htl i h; omega
      rw [a4 i hj]
      exact h2 i (by omega)
    · have : up.length * ts'.length ≤ up.length * ts.length := Nat.mul_le_mul_left _ hlen
      simp only [List.length_cons, Nat.add_mul, Nat.one_mul]
      omega
/-- two towers with the same number at the top stand on the same row -/
theorem Chn.down {ps ps' : List (Nat × Nat)} (hp : ps <+: ps') : ∀ {up up' : List (List Nat)} {r r' : List Nat}, Chn ps r up → Chn ps' r' up' → r.length = r'.length → up.map List.length = up'.map List.length → ((up ≠ [] ∧ up.getLast?.getD [] = up'.getLast?.getD []) ∨ r = r') → r = r'
  | [], [], r, r', _, _, _, _, h => by
    rcases h with ⟨h, _⟩ | h
    · exact absurd rfl h
    · exact h
  | [], _ :: _, _, _, _, _, _, h, _ => by simp at h
  | _ :: _, [], _, _, _, _, _, h, _ => by simp at h
  | ab :: up, ab' :: up', r, r', ⟨h0, h1, h2, h3⟩, ⟨k0, k1, k2, k3⟩, hl, hm, h => by
    rcases h with h | h
    · simp only [List.map_cons, List.cons.injEq] at hm
      have hab : ab = ab' := by
        refine Chn.down hp h3 k3 hm.1 hm.2 ?_
        cases up with
        | nil =>
          have : up' = [] := by have := hm.2; simp at this; first | exact this | exact this.symm
          subst this
          right
          simpa using h.2
        | cons x up =>
          obtain ⟨y, up2, rfl⟩ : ∃ y u, up' = y :: u := by
            cases up' with
            | nil => have := hm.2; simp at this
            | cons y u => exact ⟨y, u, rfl⟩
          left
          exact ⟨by simp, by simpa [List.getLast?_cons] using h.2⟩
      subst hab
      apply List.ext_getElem hl
      intro j hj hj'
      have hi : 2 * (j / 2) + 1 < r.length := by omega
      have e1 := pre_get hp (h1 (j / 2) hi).2
      have e2 := (k1 (j / 2) (by omega)).2
      rw [e1] at e2
      injection e2 with e2
      simp only [prAt, Prod.mk.injEq] at e2
      have g : ∀ (l : List Nat) (i : Nat) (h : i < l.length), l.getD i 0 = l[i] := fun l i h => by simp [List.getD, h]
      by_cases hj2 : j % 2 = 0
      · have : 2 * (j / 2) = j := by omega
        rw [this, g r j hj, g r' j hj'] at e2
        exact e2.1
      · have : 2 * (j / 2) + 1 = j := by omega
        rw [this, g r j hj, g r' j hj'] at e2
        exact e2.2
    · exact h
/-- two towers on the same row have the same rows -/
theorem Chn.up {ps ps' : List (Nat × Nat)} (hp : ps <+: ps') (hn : ps'.Nodup) : ∀ {up up' : List (List Nat)} {r : List Nat}, Chn ps r up → Chn ps' r up' → up.map List.length = up'.map List.length → up = up'
  | [], [], _, _, _, _ => rfl
  | [], _ :: _, _, _, _, h => by simp at h
  | _ :: _, [], _, _, _, h => by simp at h
  | ab :: up, ab' :: up', r, ⟨h0, h1, h2, h3⟩, ⟨k0, k1, k2, k3⟩, hm => by
    simp only [List.map_cons, List.cons.injEq] at hm
    have g : ∀ (l : List Nat) (i : Nat) (h : i < l.length), l.getD i 0 = l[i] := fun l i h => by simp [List.getD, h]
    have hab : ab = ab' := by
      apply List.ext_getElem hm.1
      intro j hj hj'
      rw [← g ab j hj, ← g ab' j hj']
      by_cases hi : 2 * j + 1 < r.length
      · exact nodup_idx hn (pre_get hp (h1 j hi).2) (k1 j hi).2
      · rw [h2 j (by omega), k2 j (by omega)]
    subst hab
    rw [Chn.up hp hn h3 k3 hm.2]
/-- from a number at the top down to a word: the program's own way -/
def hasP (ps : List (Nat × Nat)) : Nat → Nat → Nat → Nat
  | 0, which, _ => which
  | k + 1, which, word => hasP ps k (if word / 2 ^ k % 2 = 1 then (ps.getD which (0, 0)).2 else (ps.getD which (0, 0)).1) word
theorem Chn.row {ps : List (Nat × Nat)} : ∀ {up : List (List Nat)} {r : List Nat}, Chn ps r up → ∀ k, k < up.length → ((r :: up).getD k []).length % 2 = 0 ∧ ∀ i, 2 * i + 1 < ((r :: up).getD k []).length → i < (up.getD k []).length ∧ ps[(up.getD k []).getD i 0]? = some (prAt ((r :: up).getD k []) i)
  | [], _, _, k, hk => by simp at hk
  | ab :: up, r, ⟨h0, h1, _, h3⟩, k, hk => by
    cases k with
    | zero => exact ⟨h0, h1⟩
    | succ k => exact Chn.row h3 k (by simpa using hk)
theorem Chn.len {ps : List (Nat × Nat)} {up : List (List Nat)} {r : List Nat} (h : Chn ps r up) {word : Nat} (hw : word < r.length) : ∀ k, k ≤ up.length → word / 2 ^ k < ((r :: up).getD k []).length
  | 0, _ => by simpa using hw
  | k + 1, hk => by
    have ih := Chn.len h hw k (by omega)
    obtain ⟨e, h2⟩ := h.row k (by omega)
    have e2 : word / 2 ^ (k + 1) = word / 2 ^ k / 2 := by rw [Nat.pow_succ, Nat.div_div_eq_div_mul]
    have := (h2 (word / 2 ^ (k + 1)) (by rw [e2]; omega)).1
    simpa using this
theorem hasP_at {ps : List (Nat × Nat)} {up : List (List Nat)} {r : List Nat} (h : Chn ps r up) {word : Nat} (hw : word < r.length) : ∀ k, k ≤ up.length → hasP ps k (((r :: up).getD k []).getD (word / 2 ^ k) 0) word = r.getD word 0
  | 0, _ => by simp [hasP]
  | k + 1, hk => by
    have ih := hasP_at h hw k (by omega)
    have hlt := h.len hw k (by omega)
    obtain ⟨e, h2⟩ := h.row k (by omega)
    have e2 : word / 2 ^ (k + 1) = word / 2 ^ k / 2 := by rw [Nat.pow_succ, Nat.div_div_eq_div_mul]
    have hp := (h2 (word / 2 ^ (k + 1)) (by rw [e2]; omega)).2
    have hg : ((r :: up).getD (k + 1) []) = up.getD k [] := by simp
    rw [hg, hasP]
    have hd : ps.getD ((up.getD k []).getD (word / 2 ^ (k + 1)) 0) (0, 0) = prAt ((r :: up).getD k []) (word / 2 ^ (k + 1)) := by rw [List.getD_eq_getElem?_getD, hp]; rfl
    rw [hd]
    have hx : (if word / 2 ^ k % 2 = 1 then (prAt ((r :: up).getD k []) (word / 2 ^ (k + 1))).2 else (prAt ((r :: up).getD k []) (word / 2 ^ (k + 1))).1) = ((r :: up).getD k []).getD (word / 2 ^ k) 0 := by
      unfold prAt
      by_cases hb : word / 2 ^ k % 2 = 1
      · rw [if_pos hb, e2]
        show _ = _
        rw [show 2 * (word / 2 ^ k / 2) + 1 = word / 2 ^ k by omega]
      · rw [if_neg hb, e2]
        show _ = _
        rw [show 2 * (word / 2 ^ k / 2) = word / 2 ^ k by omega]
    rw [hx, ih]
/-- rows of noughts -/
theorem Chn.zeros {ps : List (Nat × Nat)} (h : ps[0]? = some (0, 0)) : ∀ {up : List (List Nat)} {r : List Nat}, (∀ x ∈ r :: up, ∀ i, x.getD i 0 = 0) → (∀ k, k < up.length → ((r :: up).getD k []).length % 2 = 0 ∧ ((r :: up).getD k []).length ≤ 2 * (up.getD k []).length) → Chn ps r up
  | [], _, _, _ => trivial
  | ab :: up, r, hz, hl => by
    have h0 := hl 0 (by simp)
    simp only [List.getD_cons_zero] at h0
    refine ⟨h0.1, fun i hi => ⟨by omega, ?_⟩, fun i _ => hz ab (by simp) i, Chn.zeros h (fun x hx => hz x (by simp [hx])) (fun k hk => by
      have := hl (k + 1) (by simpa using hk)
      simpa using this)⟩
    rw [hz ab (by simp) i, h]
    unfold prAt
    rw [hz r (by simp), hz r (by simp)]
end Go.Proofs
