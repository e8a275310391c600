/-
  Atoms, by thinking: the ranges of an atom.
-/
import Derived.Test.YtjjkomaokgmkhaaDoorAfn
namespace Go.Proofs

theorem segs_mem {k : Int} {p : Int × Int} : ∀ {st bg : List Int}, p ∈ segs k st bg ↔ ∃ j : Nat, st[j]? = some p.1 ∧ st[j + 1]? = some (p.2 + 1) ∧ bg[j]? = some k
  | [], bg => by simp [segs]
  | [a], bg => by
    constructor
    · intro h; simp [segs] at h
    · rintro ⟨j, h1, h2, _⟩
      have := (List.getElem?_eq_some_iff.1 h2).1
      simp at this
  | a :: b :: st, [] => by
    constructor
    · intro h; simp [segs] at h
    · rintro ⟨j, h1, h2, h3⟩
      simp at h3
  | a :: b :: st, x :: bg => by
    rw [segs, List.mem_append, segs_mem (st := b :: st) (bg := bg)]
    constructor
    · rintro (h | ⟨j, h1, h2, h3⟩)
      · by_cases e : x = k
        · rw [if_pos e] at h
          simp at h
          subst h
          exact ⟨0, by simp, by simp, by simp [e]⟩
        · rw [if_neg e] at h; simp at h
      · exact ⟨j + 1, by simpa using h1, by simpa using h2, by simpa using h3⟩
    · rintro ⟨j, h1, h2, h3⟩
      cases j with
      | zero =>
        left
        simp at h1 h2 h3
        rw [if_pos h3]
        simp
        obtain ⟨p1, p2⟩ := p
        simp at h1 h2 ⊢
        exact ⟨h1.symm, by omega⟩
      | succ j => exact .inr ⟨j, by simpa using h1, by simpa using h2, by simpa using h3⟩
theorem segs_ok {k : Int} : ∀ {st bg : List Int}, st.Pairwise (· < ·) → (∀ j b b', bg[j]? = some b → bg[j + 1]? = some b' → b ≠ b') → RwOk (segs k st bg)
  | [], bg, _, _ => by simp [segs, RwOk]
  | [a], bg, _, _ => by simp [segs, RwOk]
  | a :: b :: st, [], _, _ => by simp [segs, RwOk]
  | a :: b :: st, x :: bg, hp, ha => by
    have hp2 := List.pairwise_cons.1 hp
    obtain ⟨i1, i2⟩ := segs_ok (k := k) (st := b :: st) (bg := bg) hp2.2 (fun j c c' h h' => ha (j + 1) c c' (by simpa using h) (by simpa using h'))
    rw [segs]
    by_cases e : x = k
    · rw [if_pos e]
      refine ⟨?_, fun y hy => ?_⟩
      · rw [List.singleton_append, List.pairwise_cons]
        refine ⟨fun y hy => ?_, i1⟩
        obtain ⟨j, h1, h2, h3⟩ := segs_mem.1 hy
        simp only
        cases j with
        | zero => exact absurd e.symm (by subst e; exact fun _ => ha 0 x x (by simp) (by simpa using h3) rfl)
        | succ j =>
          have := (List.pairwise_cons.1 hp2.2).1 y.1 (List.mem_of_getElem? (by simpa using h1))
          omega
      · rw [List.singleton_append, List.mem_cons] at hy
        rcases hy with rfl | hy
        · have := hp2.1 b (by simp)
          simp only; omega
        · exact i2 y hy
    · rw [if_neg e]; exact ⟨i1, i2⟩
/-- the ranges of an atom have just its units -/
theorem segs_in {st bg : List Int} (hp : st.Pairwise (· < ·)) (hl : bg.length = st.length) (hz : ∀ x, bg.getLast? = some x → x = -1) (k : Nat) (u : Int) : inS (segs k st bg) u ↔ ofP st bg u = k := by
  unfold inS
  constructor
  · rintro ⟨p, hm, h1, h2⟩
    obtain ⟨j, e1, e2, e3⟩ := segs_mem.1 hm
    obtain ⟨j1, e1⟩ := List.getElem?_eq_some_iff.1 e1
    obtain ⟨j2, e2⟩ := List.getElem?_eq_some_iff.1 e2
    unfold ofP
    have hc : st.countP (fun x => decide (x ≤ u)) = j + 1 := by
      have h3 := (count_inc (u := u) hp j j1).2 (by omega)
      have h4 := (count_inc (u := u) hp (j + 1) j2)
      have : ¬ j + 1 < st.countP (fun x => decide (x ≤ u)) := fun h => by have := h4.1 h; omega
      omega
    rw [hc, if_neg (by omega), Nat.add_sub_cancel, List.getD_eq_getElem?_getD, e3]; rfl
  · intro h
    unfold ofP at h
    rcases at_seg hp u with ⟨h0, _⟩ | ⟨j, hj, h1, h2, h3⟩
    · rw [if_pos h0] at h; omega
    · rw [h1, if_neg (by omega), Nat.add_sub_cancel] at h
      have hjb : j < bg.length := by omega
      rw [List.getD_eq_getElem?_getD, List.getElem?_eq_getElem hjb] at h
      have h : bg[j] = k := h
      have hj2 : j + 1 < st.length := by
        rcases Nat.lt_or_ge (j + 1) st.length with h5 | h5
        · exact h5
        · have := hz bg[j] (by rw [List.getLast?_eq_getElem?, show bg.length - 1 = j by omega, List.getElem?_eq_getElem hjb])
          omega
      have := h3 (j + 1) hj2 (by omega)
      exact ⟨(st[j], st[j + 1] - 1), segs_mem.2 ⟨j, by rw [List.getElem?_eq_getElem hj], by rw [List.getElem?_eq_getElem hj2]; simp, by rw [List.getElem?_eq_getElem hjb, h]⟩, h2, by simp only; omega⟩
/-- rows of ranges with the same numbers are the same -/
theorem RwOk.unique : ∀ {a b : List (Int × Int)}, RwOk a → RwOk b → (∀ u, inS a u ↔ inS b u) → a = b
  | [], [], _, _, _ => rfl
  | [], y :: b, _, hb, h => by
    have := (h y.1).2 ⟨y, by simp, Int.le_refl _, hb.2 y (by simp)⟩
    exact absurd this (inS_nil _)
  | x :: a, [], ha, _, h => by
    have := (h x.1).1 ⟨x, by simp, Int.le_refl _, ha.2 x (by simp)⟩
    exact absurd this (inS_nil _)
  | x :: a, y :: b, ha, hb, h => by
    have hx := ha.2 x (by simp)
    have hy := hb.2 y (by simp)
    have a1 := List.pairwise_cons.1 ha.1
    have b1 := List.pairwise_cons.1 hb.1
    have lo : ∀ {x y : Int × Int} {a b : List (Int × Int)}, (∀ z ∈ b, y.2 + 1 < z.1) → y.1 ≤ y.2 → inS (y :: b) x.1 → y.1 ≤ x.1 := fun hb hy ⟨z, hz, z1, z2⟩ => by
      simp at hz
      rcases hz with rfl | hz
      · exact z1
      · have := hb z hz; omega
    have e1 : x.1 = y.1 := by
      have h1 := lo (x := x) (y := y) (a := a) (b := b) b1.1 hy ((h x.1).1 ⟨x, by simp, Int.le_refl _, hx⟩)
      have h2 := lo (x := y) (y := x) (a := b) (b := a) a1.1 hx ((h y.1).2 ⟨y, by simp, Int.le_refl _, hy⟩)
      omega
    have hi : ∀ {x y : Int × Int} {a b : List (Int × Int)}, x.1 = y.1 → (∀ z ∈ b, y.2 + 1 < z.1) → x.1 ≤ x.2 → y.1 ≤ y.2 → (∀ u, inS (x :: a) u → inS (y :: b) u) → x.2 ≤ y.2 := fun {x y a b} e hb hx hy hh => by
      rcases Int.lt_or_le y.2 x.2 with hlt | hle
      · obtain ⟨z, hz, z1, z2⟩ := hh (y.2 + 1) ⟨x, by simp, by omega, by omega⟩
        simp at hz
        rcases hz with rfl | hz
        · omega
        · have := hb z hz; omega
      · exact hle
    have e2 : x.2 = y.2 := by
      have h1 := hi e1 b1.1 hx hy (fun u hu => (h u).1 hu)
      have h2 := hi e1.symm a1.1 hy hx (fun u hu => (h u).2 hu)
      omega
    have e : x = y := Prod.ext e1 e2
    subst e
    rw [RwOk.unique (a := a) (b := b) ⟨a1.2, fun z hz => ha.2 z (by simp [hz])⟩ ⟨b1.2, fun z hz => hb.2 z (by simp [hz])⟩ fun u => ?_]
    constructor
    · rintro ⟨z, hz, z1, z2⟩
      obtain ⟨v, hv, v1, v2⟩ := (h u).1 ⟨z, by simp [hz], z1, z2⟩
      simp at hv
      rcases hv with rfl | hv
      · have := a1.1 z hz; omega
      · exact ⟨v, hv, v1, v2⟩
    · rintro ⟨z, hz, z1, z2⟩
      obtain ⟨v, hv, v1, v2⟩ := (h u).2 ⟨z, by simp [hz], z1, z2⟩
      simp at hv
      rcases hv with rfl | hv
      · have := b1.1 z hz; omega
      · exact ⟨v, hv, v1, v2⟩
/-- behind all turns there is no unit -/
theorem Done.last {ss : List (List (Int × Int))} {LL : List Nat} {L0 : Nat} {all : List (Int × Int)} {s : FS} (h : Done ss LL L0 all s) : ∀ x, s.bg.getLast? = some x → x = -1 := by
  intro x hx
  rw [List.getLast?_eq_getElem?] at hx
  obtain ⟨hj, e⟩ := h.fi.of_at hx
  rw [← e]
  refine h.tells.no _ fun hu => ?_
  have hm : ((1114368 : Int), ((0 + ss.length : Nat) : Int)) ∈ all := h.perm.symm.subset (by
    rw [allT_snoc]
    refine List.mem_append_right _ ?_
    simp [tnS, anyR])
  have hl := last_max h.fi.inc (h.fi.pl _ hm) (y := s.st[s.bg.length - 1]) (by rw [List.getLast?_eq_getElem?, ← h.fi.bl, List.getElem?_eq_getElem hj])
  obtain ⟨z, hz, z1, z2⟩ := hu
  simp only [anyR, List.mem_cons, List.not_mem_nil, or_false] at hz
  simp only at hl
  rcases hz with rfl | rfl | rfl <;> simp only at z1 z2 <;> omega
theorem Done.span {ss : List (List (Int × Int))} {LL : List Nat} {L0 : Nat} {all : List (Int × Int)} {s : FS} (h : Done ss LL L0 all s) {k : Nat} (hk : k < s.wh.length) : ∃ l, s.sp[k]? = some l ∧ RwOk l ∧ ∀ u, inS l u ↔ ofP s.st s.bg u = k :=
  ⟨_, h.fi.seg k hk, segs_ok h.fi.inc h.fi.adj, segs_in h.fi.inc h.fi.bl h.last k⟩
/-- turns that were sorted rise strictly: no turn stands there twice -/
theorem tnS_nodup (n : Int) : ∀ {s : List (Int × Int)}, RwOk s → (tnS n s).Nodup ∧ ∀ y ∈ tnS n s, ∀ x, s.head? = some x → x.1 ≤ y.1
  | [], _ => by simp [tnS]
  | x :: s, ⟨h1, h2⟩ => by
    rw [List.pairwise_cons] at h1
    have e : tnS n (x :: s) = [(x.1, n), (x.2 + 1, n)] ++ tnS n s := by simp [tnS]
    obtain ⟨i1, _⟩ := tnS_nodup n (s := s) ⟨h1.2, fun y hy => h2 y (by simp [hy])⟩
    have hx := h2 x (by simp)
    have hy : ∀ y ∈ tnS n s, x.2 + 1 < y.1 := fun y hy => by
      simp only [tnS, List.mem_flatMap] at hy
      obtain ⟨z, hz, hy⟩ := hy
      have h3 := h1.1 z hz
      have h4 := h2 z (by simp [hz])
      simp at hy
      rcases hy with rfl | rfl <;> simp only <;> omega
    rw [e]
    refine ⟨?_, fun y hy' z hz => ?_⟩
    · rw [List.nodup_append]
      refine ⟨by simp; omega, i1, fun a ha b hb e => ?_⟩
      subst e
      have := hy a hb
      simp at ha
      rcases ha with rfl | rfl <;> simp only at this <;> omega
    · simp at hz
      subst hz
      rcases List.mem_append.1 hy' with h3 | h3
      · simp at h3
        rcases h3 with rfl | rfl <;> simp only <;> omega
      · have := hy y h3; omega
theorem allT_nodup : ∀ (k : Nat) {S : List (List (Int × Int))}, (∀ s ∈ S, RwOk s) → (allT k S).Nodup
  | _, [], _ => by simp [allT]
  | k, s :: r, h => by
    rw [allT, List.nodup_append]
    refine ⟨(tnS_nodup k (h s (by simp))).1, allT_nodup (k + 1) fun x hx => h x (by simp [hx]), fun a ha b hb e => ?_⟩
    subst e
    have h1 := tnS_mem ha
    obtain ⟨i, _, h2, _⟩ := allT_mem hb
    omega
theorem all_ok {ss : List (List (Int × Int))} (h : OkS ss) : ∀ s ∈ ss ++ [anyR], RwOk s := fun s hs => by
  rcases List.mem_append.1 hs with h1 | h1
  · exact (h s h1).1
  · simp at h1; subst h1; exact any_ok
theorem turn_rise {all : List (Int × Int)} (hn : all.Nodup) (hp : all.Pairwise fun a b => ¬ ltT b a) : all.Pairwise ltT := by
  refine List.Pairwise.imp₂ (fun a b h1 h2 => ?_) hp hn
  unfold ltT at h1 ⊢
  rcases Int.lt_trichotomy a.1 b.1 with h | h | h
  · exact .inl h
  · rcases Int.lt_trichotomy a.2 b.2 with h' | h' | h'
    · exact .inr ⟨h, h'⟩
    · exact absurd (Prod.ext h h') h2
    · exact absurd (.inr ⟨h.symm, h'⟩) h1
  · exact absurd (.inl h) h1
/-- where turns are, and of which sets -/
theorem turn_at {ss : List (List (Int × Int))} (h : OkS ss) {all : List (Int × Int)} (hp : all.Perm (allT 0 (ss ++ [anyR]))) : ∀ x ∈ all, (0 ≤ x.1 ∧ x.1 ≤ 1114368) ∧ ∃ i : Nat, x.2 = i ∧ i ≤ ss.length := fun x hx => by
  obtain ⟨i, hi, h1, h2⟩ := allT_mem (hp.subset hx)
  rw [Nat.zero_add] at h1
  have hi' : i ≤ ss.length := by simp at hi; omega
  refine ⟨?_, i, h1, hi'⟩
  have hr := all_ok h _ (List.getElem_mem hi)
  have hu : ∀ u, inS (ss ++ [anyR])[i] u → 0 ≤ u ∧ u ≤ 1114367 := fun u hu => by
    have hun : isUn u := by
      by_cases e : i < ss.length
      · rw [List.getElem_append_left e] at hu
        exact (h _ (List.getElem_mem e)).2 u hu
      · rw [List.getElem_append_right (by omega)] at hu
        simp at hu
        exact hu
    obtain ⟨z, hz, z1, z2⟩ := hun
    simp only [anyR, List.mem_cons, List.not_mem_nil, or_false] at hz
    rcases hz with rfl | rfl | rfl <;> simp only at z1 z2 <;> omega
  simp only [tnS, List.mem_flatMap] at h2
  obtain ⟨z, hz, h2⟩ := h2
  have hz2 := hr.2 z hz
  have l1 := hu z.1 ⟨z, hz, Int.le_refl _, hz2⟩
  have l2 := hu z.2 ⟨z, hz, hz2, Int.le_refl _⟩
  simp at h2
  rcases h2 with rfl | rfl <;> simp only <;> omega
end Go.Proofs
