/-
  The document: what is in the one and not in the other.
-/
import Derived.RangeFuncNested
import Derived.RangeFuncBound
import Derived.RangeFuncCalls
import Derived.RangeFuncLeaves
import Derived.Shelf.Abstract
import Derived.Shelf.RegionOpen
import Derived.WalkKit
import Derived.WalkSpells
import Derived.WalkLawsBesides
import Derived.OwnWalkIn
import Derived.TacticsInMore
import Derived.LoopNIn
import Derived.LoopIn
import Derived.BigQuiet
import Derived.RegionIn
import Derived.Deep.QuietTactic
import Derived.Deep.RegionWith
import Derived.Lib.OthersKept
import Derived.Maps.AppendAt
import Derived.Maps.OwnIn
import Derived.Lib.SmallJoins
import Derived.Test.YtmgkolelcflcbaaDoorRi
namespace Go.Proofs
open Go.RowKit Go.Shelf

set_option maxRecDepth 100000
attribute [local go_sem] Oper.semAt_some
attribute [local go_sem ↓] Go.wp_at_zero Go.wp_at_succ
/-- the pieces of one range when k ranges of the other row are done -/
def WO (b : List (Int × Int)) (alo ahi : Int) (k : Nat) (lo : Int) (ps : List (Int × Int)) : Prop :=
  (∀ u, hasU ps u ↔ alo ≤ u ∧ u < lo ∧ u ≤ ahi ∧ ¬ hasU (b.take k) u) ∧ (∀ u, hasU (b.take k) u → u < lo ∨ ahi < u) ∧ (lo = alo ∨ ∀ j, k ≤ j → j < b.length → lo ≤ (rg b j).1) ∧ alo ≤ lo ∧ ps.length ≤ k ∧ lo ≤ 1114368
theorem wo_start {b : List (Int × Int)} {alo ahi : Int} (h : alo ≤ 1114367) : WO b alo ahi 0 alo [] :=
  ⟨fun u => ⟨fun h => absurd h (hasU_nil u), fun h => by omega⟩, fun u hu => absurd hu (by simp [hasU]), .inl rfl, Int.le_refl _, by simp, by omega⟩
theorem take_has {b : List (Int × Int)} {k : Nat} {p q : Int} (hk : k < b.length) (e : rg b k = (p, q)) (u : Int) : hasU (b.take (k + 1)) u ↔ hasU (b.take k) u ∨ (p ≤ u ∧ u ≤ q) := by
  rw [take_rg hk, e, hasU_append, hasU_one]
theorem wo_skip {b ps : List (Int × Int)} {alo ahi lo p q : Int} {k : Nat} (hb : Good b) (hk : k < b.length) (e : rg b k = (p, q)) (h : WO b alo ahi k lo ps) (hs : q < lo ∨ ahi < p) : WO b alo ahi (k + 1) lo ps := by
  obtain ⟨h1, h2, h3, h4, h5, h6⟩ := h
  have hw := good_at hb hk
  rw [e] at hw
  have hpq := ((whole_iff _ _).1 hw).1
  have hT := take_has hk e
  refine ⟨fun u => ?_, fun u hu => ?_, ?_, h4, by omega, h6⟩
  · rw [h1 u, hT u]
    constructor
    · rintro ⟨a1, a2, a3, a4⟩
      refine ⟨a1, a2, a3, ?_⟩
      rintro (c | c)
      · exact a4 c
      · rcases hs with hs | hs
        · rcases h3 with h3 | h3
          · omega
          · have := h3 k (Nat.le_refl _) hk
            rw [e] at this
            simp only at this
            omega
        · omega
    · rintro ⟨a1, a2, a3, a4⟩
      exact ⟨a1, a2, a3, fun c => a4 (.inl c)⟩
  · rcases (hT u).1 hu with c | c
    · exact h2 u c
    · rcases hs with hs | hs
      · exact .inl (by omega)
      · exact .inr (by omega)
  · rcases h3 with h3 | h3
    · exact .inl h3
    · exact .inr fun j hj => h3 j (by omega)
theorem wo_take {b ps : List (Int × Int)} {alo ahi lo p q : Int} {k : Nat} (hb : Good b) (hk : k < b.length) (e : rg b k = (p, q)) (h : WO b alo ahi k lo ps) (hs : ¬ q < lo) (hs2 : ¬ ahi < p) : WO b alo ahi (k + 1) (q + 1) (ps ++ [(lo, p - 1)]) := by
  obtain ⟨h1, h2, h3, h4, h5, h6⟩ := h
  have hw := good_at hb hk
  rw [e] at hw
  have hpq := (whole_iff _ _).1 hw
  have hT := take_has hk e
  have hlp : ∀ u, alo ≤ u → u < lo → u < p := fun u a1 a2 => by
    rcases h3 with h3 | h3
    · omega
    · have := h3 k (Nat.le_refl _) hk
      rw [e] at this
      simp only at this
      omega
  refine ⟨fun u => ?_, fun u hu => ?_, .inr fun j hj hjl => ?_, by omega, by simp; omega, by omega⟩
  · rw [hasU_append, hasU_one, h1 u, hT u]
    constructor
    · rintro (⟨a1, a2, a3, a4⟩ | ⟨a1, a2⟩)
      · refine ⟨a1, by omega, a3, ?_⟩
        rintro (c | c)
        · exact a4 c
        · have := hlp u a1 a2
          omega
      · refine ⟨by omega, by omega, by omega, ?_⟩
        rintro (c | c)
        · rcases h2 u c with c | c <;> omega
        · omega
    · rintro ⟨a1, a2, a3, a4⟩
      have hup : u < p := by
        by_cases c : u < p
        · exact c
        · exact absurd (.inr (by omega)) a4
      by_cases c : u < lo
      · exact .inl ⟨a1, c, a3, fun d => a4 (.inl d)⟩
      · exact .inr (by omega)
  · rcases (hT u).1 hu with c | c
    · rcases h2 u c with c | c
      · exact .inl (by omega)
      · exact .inr c
    · exact .inl (by omega)
  · have := good_rise hb (show k < j by omega) hjl
    rw [e] at this
    simp only at this
    omega
theorem wo_end {b ps : List (Int × Int)} {alo ahi lo : Int} (h : WO b alo ahi b.length lo ps) (u : Int) : hasU (ps ++ [(lo, ahi)]) u ↔ (alo ≤ u ∧ u ≤ ahi) ∧ ¬ hasU b u := by
  obtain ⟨h1, h2, h3, h4, h5, h6⟩ := h
  rw [List.take_length] at h1 h2
  rw [hasU_append, hasU_one, h1 u]
  constructor
  · rintro (⟨a1, a2, a3, a4⟩ | ⟨a1, a2⟩)
    · exact ⟨⟨a1, a3⟩, a4⟩
    · exact ⟨⟨by omega, a2⟩, fun c => by rcases h2 u c with c | c <;> omega⟩
  · rintro ⟨⟨a1, a2⟩, a3⟩
    by_cases c : u < lo
    · exact .inl ⟨a1, c, a2, a3⟩
    · exact .inr ⟨by omega, a2⟩
/-- what is gathered when i ranges of the first row are done -/
def WA (a b : List (Int × Int)) (i : Nat) (acc : List (Int × Int)) : Prop := (∀ u, hasU acc u ↔ hasU (a.take i) u ∧ ¬ hasU b u) ∧ acc.length ≤ i * (b.length + 1)
theorem wa_start (a b : List (Int × Int)) : WA a b 0 [] := ⟨fun u => by simp [hasU], by simp⟩
theorem wa_step {a b acc ps : List (Int × Int)} {i : Nat} {alo ahi lo : Int} (hi : i < a.length) (e : rg a i = (alo, ahi)) (h : WA a b i acc) (k : WO b alo ahi b.length lo ps) : WA a b (i + 1) (acc ++ ps ++ [(lo, ahi)]) := by
  refine ⟨fun u => ?_, ?_⟩
  · rw [List.append_assoc, hasU_append, wo_end k u, h.1 u, take_has hi e u]
    constructor
    · rintro (⟨a1, a2⟩ | ⟨a1, a2⟩)
      · exact ⟨.inl a1, a2⟩
      · exact ⟨.inr a1, a2⟩
    · rintro ⟨a1 | a1, a2⟩
      · exact .inl ⟨a1, a2⟩
      · exact .inr ⟨a1, a2⟩
  · have h1 := h.2
    have h2 := k.2.2.2.2.1
    simp only [List.length_append, List.length_cons, List.length_nil]
    have : (i + 1) * (b.length + 1) = i * (b.length + 1) + (b.length + 1) := Nat.succ_mul _ _
    omega
theorem good_low {r : List (Int × Int)} (h : Good r) : ∀ j, j < r.length → (2 * j : Int) ≤ (rg r j).1
  | 0, hj => by have := good_at h hj; unfold Whole at this; omega
  | j + 1, hj => by
    have h1 := good_low h j (by omega)
    have h2 := good_rise h (show j < j + 1 by omega) hj
    have h3 := good_at h (show j < r.length by omega)
    unfold Whole at h3
    omega
theorem good_many {r : List (Int × Int)} (h : Good r) : r.length ≤ 600000 := by
  by_cases h0 : r.length = 0
  · omega
  · have h1 := good_low h (r.length - 1) (by omega)
    have h2 := good_at h (show r.length - 1 < r.length by omega)
    unfold Whole at h2
    omega
end Go.Proofs
