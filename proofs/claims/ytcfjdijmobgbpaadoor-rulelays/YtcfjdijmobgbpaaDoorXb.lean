/-
  Pairs: what is one to one there; numbers.
-/
import Derived.RangeFuncNested
import Derived.RangeFuncBound
import Derived.RangeFuncCalls
import Derived.RangeFuncLeaves
import Derived.Shelf.Abstract
import Derived.Shelf.RegionOpen
import Derived.WalkKit
import Derived.WalkSpells
import Derived.WalkLawsBesides
import Derived.OwnWalkIn
import Derived.TacticsInMore
import Derived.LoopNIn
import Derived.LoopIn
import Derived.BigQuiet
import Derived.RegionIn
import Derived.Deep.QuietTactic
import Derived.Deep.RegionWith
import Derived.Lib.OthersKept
import Derived.Maps.AppendAt
import Derived.Lib.SmallJoins
import Derived.Test.YtcfjdijmobgbpaaDoorXa
import Derived.Test.YtcfjdijmobgbpaaDoorRc
namespace Go.Proofs
open Go.RowKit Go.Shelf

set_option maxRecDepth 100000
attribute [local go_sem] Oper.semAt_some
set_option maxHeartbeats 1000000 in
theorem numbers_many (a b : Option Addr) (n c m d : Nat) (w : World) (h : n ≠ m) : Calls Tryd.prog 26 #[.slice a n c, .slice b m d] w fun e w' => e = .returned (.bool false) ∧ Grown w w' := by
  have h' : ((n : Int) != (m : Int)) = true := by simp; omega
  go_enter Tryd.func26, Tryd.ntmps26
  go_wp2
  go_ret
  exact ⟨rfl, Grown.refl _⟩
set_option maxHeartbeats 1000000 in
theorem numbers_nil (a b : Option Addr) (c d : Nat) (w : World) : Calls Tryd.prog 26 #[.slice a 0 c, .slice b 0 d] w fun e w' => e = .returned (.bool true) ∧ Grown w w' := by
  go_enter Tryd.func26, Tryd.ntmps26
  go_wp2
  go_loopw [13] (fun vi wr => vi = .int .i64 0 ∧ wr = w) (fun _ _ => 0)
  case atStart => exact ⟨rfl, rfl⟩
  case round =>
    obtain ⟨rfl, rfl⟩ := hrel
    go_wp2
    go_ret
    exact ⟨rfl, Grown.refl _⟩
set_option maxHeartbeats 2000000 in
theorem numbers_walk (g o c g2 o2 d : Nat) (l m : List Int) (w : World) (h : IRd w g o l) (h2 : IRd w g2 o2 m) (hn1 : l.length ≤ 4611686018427387904) (hl : l.length = m.length) :
    Calls Tryd.prog 26 #[.slice (some ⟨g, o, none⟩) l.length c, .slice (some ⟨g2, o2, none⟩) m.length d] w fun e w' => e = .returned (.bool (decide (l = m))) ∧ Grown w w' := by
  obtain ⟨n, hnn⟩ : ∃ n, l.length = n := ⟨_, rfl⟩
  have HN : Hid (l.length = n) := hnn
  have HN2 : Hid (m.length = n) := by rw [← hl]; exact hnn
  rw [← hl, hnn]
  rw [hnn] at hn1
  obtain ⟨r, hr⟩ : ∃ r : Bool, decide (l = m) = r := ⟨_, rfl⟩
  have HR : Hid (decide (l = m) = r) := hr
  rw [hr]
  clear hr hnn hl
  have HH : Hid (IRd w g o l) := h
  have HI : Hid (IRd w g2 o2 m) := h2
  clear h h2
  go_enter Tryd.func26, Tryd.ntmps26
  go_wp2
  go_loopw [13] (fun vi wr => ∃ k : Nat, vi = .int .i64 k ∧ k ≤ n ∧ Hid (l.take k = m.take k) ∧ Grown w wr) (fun vi _ => n - (intOf vi).toNat)
  case atStart => exact ⟨0, rfl, by omega, rfl, Grown.refl _⟩
  case round =>
    obtain ⟨k, rfl, hk, hG, hB⟩ := hrel
    by_cases hlt : k < n
    · have hlt' : (k : Int) < (n : Int) := by omega
      have hpos : (0 : Int) ≤ (k : Int) := by omega
      have hkl : k < l.length := by rw [HN.out]; exact hlt
      have hkm : k < m.length := by rw [HN2.out]; exact hlt
      have hc := hB.cellv (HH.out k hkl)
      have hi := hB.cellv (HI.out k hkm)
      by_cases hv : l[k] = m[k]
      · have HS : Hid (l.take (k + 1) = m.take (k + 1)) := by show _ = _; rw [List.take_succ_eq_append_getElem hkl, List.take_succ_eq_append_getElem hkm, hG.out, hv]
        rw [← hv] at hi
        generalize l[k] = x at hc hi
        clear hv hG
        go_wp2
        go_quiet (fail)
        go_wp2
        exact ⟨⟨k + 1, by go_num, by omega, HS, hB.drewN _⟩, by simp [intOf]; omega⟩
      · have hrf : r = false := by
          rw [← HR.out, decide_eq_false_iff_not]
          intro e
          subst e
          exact hv rfl
        have HF : Hid (r = false) := hrf
        have hv' : (l[k] != m[k]) = true := by simpa using hv
        generalize l[k] = x at hc hv'
        generalize m[k] = y at hi hv'
        clear hv hG hrf
        go_wp2
        go_quiet (fail)
        go_wp2
        go_ret
        have hrf := HF.out
        exact ⟨by first | rfl | (rw [hrf]; rfl), hB.drewN _⟩
    · have hrt : r = true := by
        rw [← HR.out, decide_eq_true_eq]
        have := hG.out
        rwa [List.take_of_length_le (by rw [HN.out]; omega), List.take_of_length_le (by rw [HN2.out]; omega)] at this
      have HF : Hid (r = true) := hrt
      clear hG hrt
      go_wp2
      go_ret
      have hrf := HF.out
      exact ⟨by first | rfl | (rw [hrf]; rfl), hB⟩
theorem numbers_any (v u : Value) (l m : List Int) (w : World) (h : IR w v l) (h2 : IR w u m) (hn : l.length ≤ 4611686018427387904) : Calls Tryd.prog 26 #[v, u] w fun e w' => e = .returned (.bool (decide (l = m))) ∧ Grown w w' := by
  obtain ⟨a, cap, rfl, _, h⟩ := h
  obtain ⟨b, cap2, rfl, _, h2⟩ := h2
  by_cases hl : l.length = m.length
  · rcases h with rfl | ⟨g, o, rfl, h⟩
    · obtain rfl : m = [] := List.eq_nil_of_length_eq_zero (by simpa using hl.symm)
      exact numbers_nil a b cap cap2 w
    · rcases h2 with rfl | ⟨g2, o2, rfl, h2⟩
      · obtain rfl : l = [] := List.eq_nil_of_length_eq_zero (by simpa using hl)
        exact numbers_nil _ b cap cap2 w
      · exact numbers_walk g o cap g2 o2 cap2 l m w h h2 hn hl
  · rw [decide_eq_false (fun e => hl (by rw [e]))]
    exact numbers_many a b _ cap _ cap2 w hl
/-! places and units -/
theorem nth_lt : ∀ (l : List (Int × Int)) (n : Int), (∀ x ∈ l, Whole x) → 0 ≤ n → n < tot l → ∃ v, nthL l n = some v ∧ hasU l v
  | [], n, _, h0, h1 => by simp [tot] at h1; omega
  | x :: r, n, hw, h0, h1 => by
    rw [tot_cons] at h1
    unfold nthL
    by_cases h : n < x.2 - x.1 + 1
    · rw [if_pos h]
      exact ⟨_, rfl, (hasU_cons _ _ _).2 (.inl ⟨by omega, by omega⟩)⟩
    · rw [if_neg h]
      obtain ⟨v, h2, h3⟩ := nth_lt r (n - (x.2 - x.1 + 1)) (fun y hy => hw y (List.mem_cons_of_mem _ hy)) (by omega) (by omega)
      exact ⟨v, h2, (hasU_cons _ _ _).2 (.inr h3)⟩
theorem nth_has : ∀ (l : List (Int × Int)) (n v : Int), 0 ≤ n → nthL l n = some v → hasU l v
  | [], n, v, _, h => by simp [nthL] at h
  | x :: r, n, v, h0, h => by
    unfold nthL at h
    by_cases hn : n < x.2 - x.1 + 1
    · rw [if_pos hn] at h
      cases h
      exact (hasU_cons _ _ _).2 (.inl ⟨by omega, by omega⟩)
    · rw [if_neg hn] at h
      by_cases h1 : 0 ≤ n - (x.2 - x.1 + 1)
      · exact (hasU_cons _ _ _).2 (.inr (nth_has r _ v h1 h))
      · omega
theorem nth_mono : ∀ (l : List (Int × Int)), Good l → ∀ (n m u v : Int), 0 ≤ n → n < m → nthL l n = some u → nthL l m = some v → u < v
  | [], _, n, m, u, v, _, _, h, _ => by simp [nthL] at h
  | x :: r, hG, n, m, u, v, h0, hnm, hu, hv => by
    unfold nthL at hu hv
    by_cases h1 : n < x.2 - x.1 + 1
    · rw [if_pos h1] at hu
      cases hu
      by_cases h2 : m < x.2 - x.1 + 1
      · rw [if_pos h2] at hv
        cases hv
        omega
      · rw [if_neg h2] at hv
        have := has_above hG (nth_has r _ v (by omega) hv)
        omega
    · rw [if_neg h1] at hu
      rw [if_neg (by omega)] at hv
      exact nth_mono r (good_cons.1 hG).2.1 (n - (x.2 - x.1 + 1)) (m - (x.2 - x.1 + 1)) u v (by omega) (by omega) hu hv
theorem place_lt {l : List (Int × Int)} (h : Good l) {u : Int} (hu : hasU l u) : placeU l u < tot l := by
  have h1 := (nth_place h hu).1
  by_cases e : tot l ≤ placeU l u
  · rw [nth_over l _ h.1 e] at h1
    cases h1
  · omega
theorem place_nth {l : List (Int × Int)} (h : Good l) {n v : Int} (h0 : 0 ≤ n) (hv : nthL l n = some v) : placeU l v = n := by
  obtain ⟨h1, h2⟩ := nth_place h (nth_has l n v h0 hv)
  rcases Int.lt_trichotomy (placeU l v) n with h3 | h3 | h3
  · have := nth_mono l h _ _ _ _ h2 h3 h1 hv; omega
  · exact h3
  · have := nth_mono l h _ _ _ _ h0 h3 hv h1; omega
theorem place_iff {l : List (Int × Int)} (h : Good l) {u v : Int} (hu : hasU l u) (hv : hasU l v) : placeU l u < placeU l v ↔ u < v := by
  obtain ⟨a1, a2⟩ := nth_place h hu
  obtain ⟨b1, b2⟩ := nth_place h hv
  constructor
  · intro h1
    exact nth_mono l h _ _ _ _ a2 h1 a1 b1
  · intro h1
    rcases Int.lt_trichotomy (placeU l u) (placeU l v) with h3 | h3 | h3
    · exact h3
    · rw [h3, b1] at a1
      cases a1
      omega
    · have := nth_mono l h _ _ _ _ b2 h3 b1 a1; omega
/-- units of two sets can be paired -/
def pairB (f t : List (Int × Int)) : Bool := validB f && validB t && decide (0 < lenU f) && decide (lenU f = lenU t)
structure Paired (f t : List (Int × Int)) : Prop where
  vf : validB f = true
  vt : validB t = true
  p : 0 < lenU f
  e : lenU f = lenU t
theorem pairB_iff (f t : List (Int × Int)) : pairB f t = true ↔ Paired f t := by
  simp only [pairB, Bool.and_eq_true, decide_eq_true_eq]
  exact ⟨fun h => ⟨h.1.1.1, h.1.1.2, h.1.2, h.2⟩, fun h => ⟨⟨⟨h.vf, h.vt⟩, h.p⟩, h.e⟩⟩
theorem Paired.symm {f t : List (Int × Int)} (h : Paired f t) : Paired t f := ⟨h.vt, h.vf, by have := h.p; have := h.e; omega, h.e.symm⟩
theorem part_some {f t : List (Int × Int)} (h : Paired f t) {u : Int} (hu : hasU f u) : nthL t (placeU f u) = some (partU f t u) ∧ hasU t (partU f t u) := by
  have hf := (validB_iff f).1 h.vf
  have ht := (validB_iff t).1 h.vt
  have hp := (nth_place hf.2 hu).2
  have h1 := place_lt hf.2 hu
  have e := h.e
  unfold lenU at e
  rw [if_pos h.vf, if_pos h.vt] at e
  obtain ⟨v, h2, h3⟩ := nth_lt t (placeU f u) ht.2.1 hp (by omega)
  have hh : hasB f u = true := by simp [hasB, h.vf, hu]
  have : partU f t u = v := by
    unfold partU
    rw [if_pos hh]
    unfold nthU
    rw [if_neg (by simp [h.vt]; omega), h2]
    rfl
  rw [this]
  exact ⟨h2, h3⟩
theorem part_back {f t : List (Int × Int)} (h : Paired f t) {u : Int} (hu : hasU f u) : partU t f (partU f t u) = u := by
  have hf := (validB_iff f).1 h.vf
  have ht := (validB_iff t).1 h.vt
  obtain ⟨h1, h2⟩ := part_some h hu
  obtain ⟨a1, a2⟩ := nth_place hf.2 hu
  have h3 := place_nth ht.2 a2 h1
  obtain ⟨b1, _⟩ := part_some h.symm h2
  rw [h3, a1] at b1
  exact (Option.some.inj b1).symm
theorem part_iff {f t : List (Int × Int)} (h : Paired f t) {u v : Int} (hu : hasU f u) (hv : hasU f v) : partU f t u < partU f t v ↔ u < v := by
  have hf := (validB_iff f).1 h.vf
  have ht := (validB_iff t).1 h.vt
  obtain ⟨h1, h2⟩ := part_some h hu
  obtain ⟨k1, k2⟩ := part_some h hv
  rw [← place_iff ht.2 h2 k2, place_nth ht.2 (nth_place hf.2 hu).2 h1, place_nth ht.2 (nth_place hf.2 hv).2 k1, place_iff hf.2 hu hv]
/-- a rule that writes a pair -/
def pairR (f t : List (Int × Int)) : Rl := ⟨false, false, 1, [], [f], [], [⟨3, 0, 0, t⟩]⟩
theorem pair_chk (f t : List (Int × Int)) : chk (pairR f t) = 0 ↔ Paired f t := by
  have e : chk (pairR f t) = if okS f = false then 71 else if matB f t = false then 75 else 0 := by
    unfold chk pairR
    simp only [List.length_cons, List.length_nil, List.all_nil, List.all_cons, Bool.and_true, Bool.true_and]
    simp [fstE, pcE, keyAt]
    by_cases h1 : okS f = true
    · by_cases h2 : matB f t = true
      · simp [h1, h2]
      · simp [h1, h2]
    · simp [h1]
  rw [e]
  constructor
  · intro h
    by_cases h1 : okS f = false
    · rw [if_pos h1] at h; cases h
    · rw [if_neg h1] at h
      by_cases h2 : matB f t = false
      · rw [if_pos h2] at h; cases h
      · have h1' : okS f = true := by simpa using h1
        simp only [Bool.not_eq_false, matB, Bool.and_eq_true, decide_eq_true_eq] at h2
        have h3 := h1'
        simp only [okS, Bool.and_eq_true] at h3
        exact ⟨h3.1, h2.1, lenU_ok h1', h2.2⟩
  · intro h
    have h1 : okS f = true := by
      by_cases h1 : okS f = true
      · exact h1
      · have := lenU_no (l := f) (by simpa using h1)
        have := h.p
        omega
    rw [if_neg (by simp [h1]), if_neg (by simp [matB, h.vt, h.e])]
theorem pair_lay {f t : List (Int × Int)} (h : Paired f t) (a : Int) : layB (pairR f t) [a] = hasB f a := by
  unfold layB
  rw [(pair_chk f t).2 h]
  simp [stB, pairR]
theorem pair_outs (f t : List (Int × Int)) (a : Int) : outs (pairR f t) [a] = [partU f t a] := by
  simp [outs, pairR, wrt, keyAt, unitAt]
theorem rr_pair {W : World} {gk gr : Nat} {fv tv : Value} {f t : List (Int × Int)} (k0 : W.cell? ⟨gk, 0, none⟩ = some fv) (hf : Rs W fv f) (r0 : W.cell? ⟨gr, 0, none⟩ = some (.int .i64 3)) (r1 : W.cell? ⟨gr, 1, none⟩ = some (.int .i64 0)) (r2 : W.cell? ⟨gr, 2, none⟩ = some (.int .i64 0)) (r3 : W.cell? ⟨gr, 3, none⟩ = some tv) (ht : Rs W tv t) :
    RR W (.slice none 0 0) (.slice (some ⟨gk, 0, none⟩) 1 1) (.slice none 0 0) (.slice (some ⟨gr, 0, none⟩) 1 1) (pairR f t) := by
  refine ⟨sr_nil _, ⟨_, 1, rfl, Nat.le_refl _, .inr ⟨gk, 0, rfl, fun j hj => ?_⟩⟩, sr_nil _, ⟨_, 1, rfl, Nat.le_refl _, .inr ⟨gr, 0, rfl, fun j hj => ?_⟩⟩⟩
  · obtain rfl : j = 0 := by simpa [pairR] using hj
    exact ⟨fv, k0, hf⟩
  · obtain rfl : j = 0 := by simpa [pairR] using hj
    exact ⟨tv, r0, r1, r2, r3, ht⟩
/-- what a pair writes -/
theorem lays_pair {f t : List (Int × Int)} (h : Paired f t) (av kv pv rv uv : Value) (a : Int) (w : World) (hT : Tab w) (hR : RR w av kv pv rv (pairR f t)) (hu : IR w uv [a]) :
    Calls Tryd.prog 21 #[.agg #[.bool false, av, kv, pv, .bool false, rv, .int .i64 1], uv] w fun e w' => ∃ v2, ((hasB f a = false ∧ e = .returned (.tuple #[.slice none 0 0, v2])) ∨ (hasB f a = true ∧ ∃ g, e = .returned (.tuple #[.slice (some ⟨g, 0, none⟩) 1 1, v2]) ∧ w'.cell? ⟨g, 0, none⟩ = some (.int .i64 (partU f t a)))) ∧ Below w.heap.size w w' := by
  refine (lays_any (pairR f t) av kv pv rv uv [a] w hT hR hu).mono ?_
  rintro e w' ⟨v1, v2, rfl, hO, hb⟩
  rcases hO with ⟨h1, rfl, rfl⟩ | ⟨h1, h2, h3, _⟩
  · rw [pair_lay h] at h1
    exact ⟨_, .inl ⟨h1, rfl⟩, hb⟩
  · rw [pair_lay h] at h1
    rw [pair_outs] at h2
    have k2 := h2
    obtain ⟨g, rfl, _⟩ := h2
    exact ⟨_, .inr ⟨h1, g, rfl, newI_cell k2 rfl⟩, hb⟩
end Go.Proofs
