/-
  gaps: the numbers that are in none of a set's ranges; ranges: whether two rows are alike.
-/
import Derived.RangeFuncNested
import Derived.RangeFuncBound
import Derived.RangeFuncCalls
import Derived.RangeFuncLeaves
import Derived.Shelf.Abstract
import Derived.Shelf.RegionOpen
import Derived.WalkKit
import Derived.WalkSpells
import Derived.WalkLawsBesides
import Derived.OwnWalkIn
import Derived.TacticsInMore
import Derived.LoopNIn
import Derived.LoopIn
import Derived.BigQuiet
import Derived.RegionIn
import Derived.Deep.QuietTactic
import Derived.Deep.RegionWith
import Derived.Lib.OthersKept
import Derived.Maps.AppendAt
import Derived.Lib.SmallJoins
import Derived.Test.YtmgkolelcflcbaaDoorMa
namespace Go.Proofs
open Go.RowKit Go.Shelf

set_option maxRecDepth 100000
attribute [local go_sem] Oper.semAt_some
/-! gaps -/
/-- what is gathered when k ranges are done: the numbers below lo that are in none of them -/
def Gap (s out : List (Int × Int)) (k : Nat) (lo : Int) : Prop :=
  out.Pairwise (fun x y => x.2 + 2 ≤ y.1) ∧ (∀ x ∈ out, x.2 + 2 ≤ lo) ∧ (∀ u, 0 ≤ u → u < lo → (hasU out u ↔ ¬ hasU (s.take k) u)) ∧ (∀ u, hasU out u → 0 ≤ u ∧ u < lo) ∧ (∀ u, hasU (s.take k) u → u < lo) ∧ 0 ≤ lo ∧ lo ≤ 1114368 ∧ out.length ≤ k ∧ (∀ j, k ≤ j → j < s.length → (0 < k → lo + 1 ≤ (rg s j).1) ∧ lo ≤ (rg s j).1)
theorem gap_start {s : List (Int × Int)} (h : Good s) : Gap s [] 0 0 :=
  ⟨List.Pairwise.nil, fun x hx => by simp at hx, fun u h0 h1 => by omega, fun u hu => absurd hu (hasU_nil u), fun u hu => absurd hu (by simp [hasU]), by omega, by omega, by simp, fun j _ hj => ⟨fun h => by omega, by have := good_at h hj; unfold Whole at this; omega⟩⟩
theorem gap_step {s out : List (Int × Int)} {k : Nat} {lo a b : Int} (h : Good s) (hk : k < s.length) (hg : Gap s out k lo) (e : rg s k = (a, b)) :
    Gap s (if lo < a then out ++ [(lo, a - 1)] else out) (k + 1) (b + 1) ∧ lo ≤ a ∧ a ≤ b ∧ b ≤ 1114367 := by
  obtain ⟨g1, g2, g3, g4, g5, g6, g7, g8, g9⟩ := hg
  have hw := good_at h hk
  rw [e] at hw
  have hw2 := (whole_iff _ _).1 hw
  have hlo := (g9 k (Nat.le_refl _) hk).2
  rw [e] at hlo
  simp only at hlo
  have ht : s.take (k + 1) = s.take k ++ [(a, b)] := by rw [take_rg hk, e]
  have hT : ∀ u, hasU (s.take (k + 1)) u ↔ hasU (s.take k) u ∨ (a ≤ u ∧ u ≤ b) := fun u => by rw [ht, hasU_append, hasU_one]
  have hO : ∀ u, hasU (if lo < a then out ++ [(lo, a - 1)] else out) u ↔ hasU out u ∨ (lo ≤ u ∧ u < a) := fun u => by
    split
    · rw [hasU_append, hasU_one]
      constructor
      · rintro (h | h)
        · exact .inl h
        · exact .inr (by omega)
      · rintro (h | h)
        · exact .inl h
        · exact .inr (by omega)
    · constructor
      · exact .inl
      · rintro (h | h)
        · exact h
        · omega
  refine ⟨⟨?_, ?_, ?_, ?_, ?_, by omega, by omega, ?_, ?_⟩, by omega, by omega, by omega⟩
  · split
    · rw [List.pairwise_append]
      refine ⟨g1, by simp, fun x hx y hy => ?_⟩
      rw [List.mem_singleton] at hy
      subst hy
      exact g2 x hx
    · exact g1
  · intro x hx
    split at hx
    · rw [List.mem_append, List.mem_singleton] at hx
      rcases hx with hx | rfl
      · have := g2 x hx; omega
      · simp only; omega
    · have := g2 x hx; omega
  · intro u h0 h1
    rw [hO u, hT u]
    by_cases hu : u < lo
    · have := g3 u h0 hu
      constructor
      · rintro (q | q)
        · rintro (q2 | q2)
          · exact this.1 q q2
          · omega
        · omega
      · intro q
        exact .inl (this.2 (fun q2 => q (.inl q2)))
    · have q1 : ¬ hasU out u := fun q => by have := g4 u q; omega
      have q2 : ¬ hasU (s.take k) u := fun q => by have := g5 u q; omega
      constructor
      · rintro (q | q)
        · exact absurd q q1
        · rintro (q3 | q3)
          · exact q2 q3
          · omega
      · intro q
        exact .inr (by
          by_cases q4 : u < a
          · omega
          · exact absurd (.inr (by omega)) q)
  · intro u hu
    rcases (hO u).1 hu with q | q
    · have := g4 u q; omega
    · omega
  · intro u hu
    rcases (hT u).1 hu with q | q
    · have := g5 u q; omega
    · omega
  · split
    · simp; omega
    · omega
  · intro j hj hjl
    have := good_rise h (show k < j by omega) hjl
    rw [e] at this
    simp only at this
    exact ⟨fun _ => by omega, by omega⟩
theorem gap_end {s out : List (Int × Int)} {lo : Int} (_h : Good s) (hg : Gap s out s.length lo) : (out ++ [(lo, 1114367)] : List (Int × Int)).Pairwise (fun x y => x.2 + 2 ≤ y.1) ∧ ∀ u, 0 ≤ u → u ≤ 1114367 → (hasU (out ++ [(lo, 1114367)]) u ↔ ¬ hasU s u) := by
  obtain ⟨g1, g2, g3, g4, g5, g6, g7, g8, g9⟩ := hg
  rw [List.take_length] at g3 g5
  refine ⟨?_, fun u h0 h1 => ?_⟩
  · rw [List.pairwise_append]
    refine ⟨g1, by simp, fun x hx y hy => ?_⟩
    rw [List.mem_singleton] at hy
    subst hy
    exact g2 x hx
  · rw [hasU_append, hasU_one]
    by_cases hu : u < lo
    · rw [← g3 u h0 hu]
      constructor
      · rintro (q | q)
        · exact q
        · omega
      · exact .inl
    · have q1 : ¬ hasU out u := fun q => by have := g4 u q; omega
      have q2 : ¬ hasU s u := fun q => by have := g5 u q; omega
      exact ⟨fun _ => q2, fun _ => .inr (by omega)⟩
set_option maxHeartbeats 2000000 in
theorem gaps_walk (A : Option Addr) (c : Nat) (s : List (Int × Int)) (w : World) (h : s = [] ∨ ∃ g o, A = some ⟨g, o, none⟩ ∧ Reads w g o s) (hs : Good s) (hn : s.length ≤ 512) :
    Calls Tryd.prog 57 #[.slice A s.length c] w fun e w' => ∃ v r, e = .returned v ∧ (r.Pairwise (fun x y => x.2 + 2 ≤ y.1) ∧ (∀ u, 0 ≤ u → u ≤ 1114367 → (hasU r u ↔ ¬ hasU s u)) ∧ r.length ≤ 513) ∧ OwnR w' w.heap.size v r ∧ Below w.heap.size w w' := by
  obtain ⟨n, hnn⟩ : ∃ n, s.length = n := ⟨_, rfl⟩
  have HN : Hid (s.length = n) := hnn
  rw [hnn] at hn ⊢
  have HS : Hid (Good s) := hs
  have HH : Hid (s = [] ∨ ∃ g o, A = some ⟨g, o, none⟩ ∧ Reads w g o s) := h
  clear h hs hnn
  go_enter Tryd.func57, Tryd.ntmps57
  go_wp2
  go_loopw [3, 4, 9] (fun vs vl vi wr => ∃ k : Nat, ∃ lo : Int, ∃ r : List (Int × Int), vi = .int .i64 k ∧ vl = .int .i64 lo ∧ k ≤ n ∧ Hid (Gap s r k lo) ∧ OwnR wr w.heap.size vs r ∧ Below w.heap.size w wr) (fun _ _ vi _ => n - (intOf vi).toNat)
  case atStart => exact ⟨0, 0, [], rfl, rfl, by omega, gap_start HS.out, OwnR.nil _ _, Below.refl _ _⟩
  case round =>
    obtain ⟨k, lo, r, rfl, rfl, hk, hG, hO, hB⟩ := hrel
    have hz := hB.size
    have hrl : r.length ≤ 512 := by have := hG.out.2.2.2.2.2.2.2.1; omega
    have hl0 : 0 ≤ lo ∧ lo ≤ 1114368 := ⟨hG.out.2.2.2.2.2.1, hG.out.2.2.2.2.2.2.1⟩
    obtain ⟨l1, l2⟩ := hl0
    by_cases hlt : k < n
    · as_aux_lemma =>
        have hlt' : (k : Int) < (n : Int) := by omega
        have hpos : (0 : Int) ≤ (k : Int) := by omega
        have hks : k < s.length := by rw [HN.out]; exact hlt
        obtain ⟨g, o, hA, hr⟩ := HH.out.resolve_left (fun e => by rw [e] at hks; simp at hks)
        subst hA
        have hg : g < w.heap.size := hr.lt (fun e => by rw [e] at hks; simp at hks)
        obtain ⟨a, b, hab⟩ : ∃ a b : Int, rg s k = (a, b) := ⟨_, _, rfl⟩
        obtain ⟨ca, cb⟩ := (hr.below hB hg) k hks
        rw [hab] at ca cb
        simp only at ca cb
        obtain ⟨hst, s1, s2, s3⟩ := gap_step HS.out hks hG.out hab
        clear hab hr hG
        by_cases hc : lo < a
        · rw [if_pos hc] at hst
          have HG : Hid (Gap s (r ++ [(lo, a - 1)]) (k + 1) (b + 1)) := hst
          clear hst
          go_wp2_with (at_builtin; go_must (refine push_R rfl _ _ 22 rfl Tryd.underlying22 w.heap.size _ _ rfl ((hO.alloc _).alloc _) _ _ lo (a - 1) rfl (new_cells (wr.alloc _) _ _ _ _ (World.size_alloc wr _)).1 (new_cells (wr.alloc _) _ _ _ _ (World.size_alloc wr _)).2 (by omega) (by rw [World.size_alloc, World.size_alloc]; omega) ?_); intro v' w3 hO1 hgr hb1; have cR := (World.cell?_of_block (w := (wr.alloc (.cells #[.int .i64 a, .int .i64 b] 38)).alloc (.cells #[.int .i64 lo, .int .i64 (a - 1)] 38)) (hgr.block wr.heap.size (by simp; omega) (fun e => by have := (World.ownsRow.lt hO _ e.symm).2; omega)) : w3.cell? ⟨wr.heap.size, 1, none⟩ = _).trans (cell_up (new_cells wr _ _ _ _ rfl).2 _))
          exact ⟨⟨k + 1, b + 1, _, by go_num, rfl, by omega, HG, hO1, ((hB.alloc hz _).alloc (by simp; omega) _).trans hb1⟩, by simp [intOf]; omega⟩
        · rw [if_neg hc] at hst
          have HG : Hid (Gap s r (k + 1) (b + 1)) := hst
          have hd : decide (lo < a) = false := by simp; omega
          clear hst hc
          go_wp2
          exact ⟨⟨k + 1, b + 1, _, by go_num, rfl, by omega, HG, hO.alloc _, hB.alloc hz _⟩, by simp [intOf]; omega⟩
    · as_aux_lemma =>
        have hkn : k = s.length := by rw [HN.out]; omega
        have hE := gap_end HS.out (hkn ▸ hG.out)
        have HE : Hid ((r ++ [(lo, 1114367)] : List (Int × Int)).Pairwise (fun x y => x.2 + 2 ≤ y.1) ∧ (∀ u, 0 ≤ u → u ≤ 1114367 → (hasU (r ++ [(lo, 1114367)]) u ↔ ¬ hasU s u)) ∧ (r ++ [(lo, 1114367)]).length ≤ 513) := ⟨hE.1, hE.2, by simp; omega⟩
        clear hG hE hkn
        go_wp2_with (at_builtin; go_must (refine push_R rfl _ _ 22 rfl Tryd.underlying22 w.heap.size _ _ rfl (hO.alloc _) _ _ lo 1114367 rfl (new_cells wr _ _ _ _ rfl).1 (new_cells wr _ _ _ _ rfl).2 (by omega) (by rw [World.size_alloc]; omega) ?_); intro v' w3 hO1 hgr hb1)
        go_ret
        exact ⟨_, _, rfl, HE.out, hO1, (hB.alloc hz _).trans hb1⟩
theorem gaps_any (v : Value) (s : List (Int × Int)) (w : World) (h : Rs w v s) (hs : Good s) (hn : s.length ≤ 512) :
    Calls Tryd.prog 57 #[v] w fun e w' => ∃ v r, e = .returned v ∧ (r.Pairwise (fun x y => x.2 + 2 ≤ y.1) ∧ (∀ u, 0 ≤ u → u ≤ 1114367 → (hasU r u ↔ ¬ hasU s u)) ∧ r.length ≤ 513) ∧ OwnR w' w.heap.size v r ∧ Below w.heap.size w w' := by
  obtain ⟨A, c, rfl, _, h⟩ := h
  exact gaps_walk A c s w h hs hn
/-! ranges -/
theorem neq_R (a b c d : Int) (W : World) : (binOp .neq 38 (.agg #[.int .i64 a, .int .i64 b]) (.agg #[.int .i64 c, .int .i64 d])).run Tryd.prog W = .ok (.bool (!decide ((a, b) = (c, d)))) W := by
  go_simp
  by_cases h1 : a = c
  · by_cases h2 : b = d <;> simp [h1, h2]
  · simp [h1]
set_option maxHeartbeats 1000000 in
theorem ranges_lens (A B : Option Addr) (n c m d : Nat) (w : World) (h : n ≠ m) : Calls Tryd.prog 40 #[.slice A n c, .slice B m d] w fun e w' => e = .returned (.bool false) ∧ Grown w w' := by
  have e1 : ((n : Int) != (m : Int)) = true := by rw [bne_iff_ne]; omega
  go_enter Tryd.func40, Tryd.ntmps40
  go_wp2
  go_ret
  exact ⟨rfl, Grown.refl _⟩
set_option maxHeartbeats 2000000 in
theorem ranges_walk (A B : Option Addr) (c d : Nat) (a b : List (Int × Int)) (w : World) (h1 : a = [] ∨ ∃ g o, A = some ⟨g, o, none⟩ ∧ Reads w g o a) (h2 : b = [] ∨ ∃ g o, B = some ⟨g, o, none⟩ ∧ Reads w g o b) (hl : b.length = a.length) (hn : a.length ≤ 1152921504606846976) :
    Calls Tryd.prog 40 #[.slice A a.length c, .slice B a.length d] w fun e w' => e = .returned (.bool (decide (a = b))) ∧ Grown w w' := by
  obtain ⟨n, hnn⟩ : ∃ n, a.length = n := ⟨_, rfl⟩
  have HA : Hid (a.length = n) := hnn
  have HB : Hid (b.length = n) := by rw [hnn] at hl; exact hl
  rw [hnn] at hn ⊢
  obtain ⟨r, hr⟩ : ∃ r : Bool, decide (a = b) = r := ⟨_, rfl⟩
  have HR : Hid (decide (a = b) = r) := hr
  have H1 : Hid (a = [] ∨ ∃ g o, A = some ⟨g, o, none⟩ ∧ Reads w g o a) := h1
  have H2 : Hid (b = [] ∨ ∃ g o, B = some ⟨g, o, none⟩ ∧ Reads w g o b) := h2
  rw [hr]
  clear hr hl h1 h2 hnn
  go_enter Tryd.func40, Tryd.ntmps40
  go_wp2
  go_loopw [5] (fun vi wr => ∃ k : Nat, vi = .int .i64 k ∧ k ≤ n ∧ Hid (∀ j, j < k → rg a j = rg b j) ∧ Grown w wr) (fun vi _ => n - (intOf vi).toNat)
  case atStart => exact ⟨0, rfl, by omega, fun j hj => by omega, Grown.refl _⟩
  case round =>
    obtain ⟨k, rfl, hk, hT, hG⟩ := hrel
    by_cases hlt : k < n
    · as_aux_lemma =>
        have hlt' : (k : Int) < (n : Int) := by omega
        have hpos : (0 : Int) ≤ (k : Int) := by omega
        have hka : k < a.length := by rw [HA.out]; exact hlt
        have hkb : k < b.length := by rw [HB.out]; exact hlt
        obtain ⟨g1, o1, hA1, hr1⟩ := H1.out.resolve_left (fun e => by rw [e] at hka; simp at hka)
        obtain ⟨g2, o2, hB1, hr2⟩ := H2.out.resolve_left (fun e => by rw [e] at hkb; simp at hkb)
        subst hA1
        subst hB1
        obtain ⟨p, q, hpq⟩ : ∃ p q : Int, rg a k = (p, q) := ⟨_, _, rfl⟩
        obtain ⟨s, t, hst⟩ : ∃ s t : Int, rg b k = (s, t) := ⟨_, _, rfl⟩
        have x1 := hr1 k hka
        have x2 := hr2 k hkb
        rw [hpq] at x1
        rw [hst] at x2
        have cp := hG.cellv x1.1
        have cq := hG.cellv x1.2
        have cs := hG.cellv x2.1
        have ct := hG.cellv x2.2
        simp only at cp cq cs ct
        have hne := neq_R p q s t
        clear x1 x2 hr1 hr2
        by_cases he : (p, q) = (s, t)
        · have hT' : Hid (∀ j, j < k + 1 → rg a j = rg b j) := fun j hj => by
            by_cases e : j = k
            · subst e; rw [hpq, hst]; exact he
            · exact hT.out j (by omega)
          simp only [he, decide_true, Bool.not_true] at hne
          clear hT hpq hst he
          go_wp2
          go_quiet (fail)
          go_wp2
          exact ⟨⟨k + 1, by go_num, by omega, hT', hG.drewN _⟩, by simp [intOf]; omega⟩
        · have hrf : r = false := by
            rw [← HR.out, decide_eq_false_iff_not]
            rintro rfl
            exact he (hpq.symm.trans hst)
          have HF : Hid (r = false) := hrf
          simp only [he, decide_false, Bool.not_false] at hne
          clear hT hpq hst he hrf
          go_wp2
          go_quiet (fail)
          go_wp2
          go_ret
          have hrf := HF.out
          exact ⟨by first | rfl | (rw [hrf]; rfl), hG.drewN _⟩
    · have hrt : r = true := by
        rw [← HR.out, decide_eq_true_eq]
        refine List.ext_getElem (by rw [HA.out, HB.out]) (fun j h1 h2 => ?_)
        have := hT.out j (by rw [HA.out] at h1; omega)
        rw [rg_lt h1, rg_lt h2] at this
        exact this
      have HF : Hid (r = true) := hrt
      clear hT hrt
      go_wp2
      go_ret
      have hrf := HF.out
      exact ⟨by first | rfl | (rw [hrf]; rfl), hG⟩
theorem ranges_any (v1 v2 : Value) (a b : List (Int × Int)) (w : World) (h1 : Rs w v1 a) (h2 : Rs w v2 b) (hn : a.length ≤ 1152921504606846976) : Calls Tryd.prog 40 #[v1, v2] w fun e w' => e = .returned (.bool (decide (a = b))) ∧ Grown w w' := by
  obtain ⟨A, c, rfl, _, h1⟩ := h1
  obtain ⟨B, d, rfl, _, h2⟩ := h2
  by_cases hl : b.length = a.length
  · rw [hl]; exact ranges_walk A B c d a b w h1 h2 hl hn
  · rw [decide_eq_false (fun e => hl (by rw [e]))]
    exact ranges_lens A B a.length c b.length d w (fun e => hl e.symm)
end Go.Proofs
