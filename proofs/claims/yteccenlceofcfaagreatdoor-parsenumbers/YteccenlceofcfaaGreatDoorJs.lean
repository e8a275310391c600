/-
  The examples at the head of each statement hold: shown answers true.
-/
import Derived.Shelf.Abstract
import Derived.Shelf.RegionOpen
import Derived.WalkKit
import Derived.WalkSpells
import Derived.WalkLawsBesides
import Derived.BigQuiet
import Derived.Deep.QuietTactic
import Derived.Deep.LoopGhost
import Derived.WalkMore
import Derived.Test.YteccenlceofcfaaGreatDoorJr
namespace Go.Proofs
open Go.RowKit Go.Shelf

set_option maxRecDepth 100000
attribute [local go_sem] Oper.semAt_some

theorem cells_take {w : World} {g : Nat} {cur : Array Value} {T : TypeId} {n : Nat} {xs : List Value} (h : w.heap[g]? = some (.cells cur T (0, 0))) (ht : cur.toList.take n = xs) (j : Nat) (u : Value) (hj : xs[j]? = some u) : w.cell? ⟨g, j, none⟩ = some u := by
  rw [← ht, List.getElem?_take] at hj
  split at hj
  · simp only [World.cell?, h]
    simpa using hj
  · cases hj
theorem RowsL.one {w : World} {b : Nat} {v : Value} {l : Ln} (h : RowsL w b v [l]) : ∃ g c m, v = .slice (some ⟨g, 0, none⟩) 1 c ∧ (∀ j u, (ml1 m)[j]? = some u → w.cell? ⟨g, j, none⟩ = some u) ∧ LR 3 w b none m l ∧ g < w.heap.size := by
  obtain ⟨A, c, ms, rfl, h2, h3⟩ := h
  rcases h3 with h3 | ⟨g, cur, rfl, k1, k2, k3⟩
  · cases h3
  · cases ms with
    | nil => exact h2.elim
    | cons m ms =>
      cases ms with
      | nil => exact ⟨g, c, m, rfl, fun j u hj => cells_take k2 k3 j u (by simpa [fl10] using hj), h2.1, (Array.getElem?_eq_some_iff.1 k2).1⟩
      | cons _ _ => exact h2.2.elim
theorem RowsS.one {d : Nat} {w : World} {b : Nat} {x : Option Nat} {s : SL} {i : It} (h : RowsS d w b x s [i]) : ∃ g c m, s = ⟨some ⟨g, 0, none⟩, 1, c⟩ ∧ (∀ j u, (mi1 m)[j]? = some u → w.cell? ⟨g, j, none⟩ = some u) ∧ DR d w b x m i ∧ g < w.heap.size := by
  obtain ⟨ms, h1, h2⟩ := h
  cases ms with
  | nil => exact h2.elim
  | cons m ms =>
    cases ms with
    | cons _ _ => exact h2.2.elim
    | nil =>
      rcases h1.2 with ⟨_, h0, _⟩ | ⟨g, cur, e, _, _, k2, _, _, _, k6⟩
      · have := h1.1; simp at this; omega
      · have hn : s.n = 1 := h1.1
        obtain ⟨A, n, c⟩ := s
        simp only at e hn k6
        subst e hn
        exact ⟨g, c, m, rfl, fun j u hj => cells_take k2 k6 j u (by simpa [fi] using hj), h2.1, (Array.getElem?_eq_some_iff.1 k2).1⟩
/-- what is looked at of the first text's line -/
structure CF (w : World) (g g2 c2 : Nat) : Prop where
  a : w.cell? ⟨g, 0, none⟩ = some (.int .i64 2)
  b : w.cell? ⟨g, 6, none⟩ = some (.slice (some ⟨g2, 0, none⟩) 1 c2)
  c : w.cell? ⟨g, 9, none⟩ = some (.int .i64 1)
  d : w.cell? ⟨g2, 1, none⟩ = some (.int .i64 97)
  lt : g < w.heap.size
  lt2 : g2 < w.heap.size
theorem CF.below {w w' : World} {g g2 c2 : Nat} (h : CF w g g2 c2) (hb : Below w.heap.size w w') : CF w' g g2 c2 :=
  ⟨(hb.cell (p := ⟨g, 0, none⟩) h.lt).trans h.a, (hb.cell (p := ⟨g, 6, none⟩) h.lt).trans h.b, (hb.cell (p := ⟨g, 9, none⟩) h.lt).trans h.c, (hb.cell (p := ⟨g2, 1, none⟩) h.lt2).trans h.d, Nat.lt_of_lt_of_le h.lt hb.size, Nat.lt_of_lt_of_le h.lt2 hb.size⟩
theorem CF.alloc {w : World} {g g2 c2 : Nat} (h : CF w g g2 c2) (o : Obj) : CF (w.alloc o) g g2 c2 := h.below ((Below.refl _ _).alloc (Nat.le_refl _) _)
set_option maxHeartbeats 2000000 in
theorem shown_any (w : World) : Calls Tryz.prog 8 #[] w fun e w' => e = .returned (.bool true) ∧ Below w.heap.size w w' := by
  go_enter Tryz.func8, Tryz.ntmps8
  go_wp2_with fail
  refine (parseSa _).mono ?_
  rintro x w1 ⟨v1, rfl, hO1, hb1⟩
  obtain ⟨g, c, m, rfl, hm, hL, hg⟩ := hO1.one
  obtain ⟨⟨e1, e2, e3, e4, e5, e6⟩, -, hK, -, -⟩ := hL
  obtain ⟨g2, c2, m2, hs2, hm2, hD, hg2⟩ := hK.one
  have HL : Hid (CF w1 g g2 c2) := ⟨hm 0 _ (by simp [ml1, e1]), hm 6 _ (by simp [ml1, hs2]), hm 9 _ (by simp [ml1, e6]), hm2 1 _ (by simp [mi1, hD.1.2.1]), hg, hg2⟩
  have HB : Hid (Below w.heap.size w w1) := hb1
  clear hO1 hb1 hm e1 e2 e3 e4 e5 e6 hK hs2 hm2 hD hg hg2
  go_wp2_with fail
  refine (parseSb _).mono ?_
  rintro x w2 ⟨rfl, hb2⟩
  have HL2 : Hid (CF w2 g g2 c2 ∧ FB w2 w1.heap.size 0 0) := ⟨(HL.out.alloc _).below hb2, (FB.new w1 0 0).below hb2 (by simp)⟩
  have HB2 : Hid (Below w.heap.size w w2) := (HB.out.alloc HB.out.size _).trans (hb2.mono (by have := HB.out.size; simp; omega))
  clear HL HB hb2
  go_wp2_with fail
  refine (parseSc _).mono ?_
  rintro x w3 ⟨rfl, hb3⟩
  have HL3 : Hid (CF w3 g g2 c2 ∧ FB w3 w1.heap.size 0 0 ∧ FB w3 w2.heap.size 4 50) := ⟨(HL2.out.1.alloc _).below hb3, (HL2.out.2.allocs _).below hb3 (by have := HL2.out.2.lt; simp; omega), (FB.new w2 4 50).below hb3 (by simp)⟩
  have HB3 : Hid (Below w.heap.size w w3) := (HB2.out.alloc HB2.out.size _).trans (hb3.mono (by have := HB2.out.size; simp; omega))
  clear HL2 HB2 hb3
  go_wp2_with fail
  refine (parseSd _).mono ?_
  rintro x w4 ⟨A4, c4, rfl, hb4⟩
  have HL4 : Hid (CF w4 g g2 c2 ∧ FB w4 w1.heap.size 0 0 ∧ FB w4 w2.heap.size 4 50 ∧ FB w4 w3.heap.size 1 51) := ⟨(HL3.out.1.alloc _).below hb4, (HL3.out.2.1.allocs _).below hb4 (by have := HL3.out.2.1.lt; simp; omega), (HL3.out.2.2.allocs _).below hb4 (by have := HL3.out.2.2.lt; simp; omega), (FB.new w3 1 51).below hb4 (by simp)⟩
  have HB4 : Hid (Below w.heap.size w w4) := (HB3.out.alloc HB3.out.size _).trans (hb4.mono (by have := HB3.out.size; simp; omega))
  clear HL3 HB3 hb4
  go_wp2_with fail
  have hLB : LB ((w4.alloc (.cells #[.int .i64 0, .int .i64 0] 26)).alloc (.cells (ml1 L3).toArray 39)) (w4.heap.size + 1) L3 := by
    have := LB.new (w4.alloc (.cells #[.int .i64 0, .int .i64 0] 26)) L3
    rwa [World.size_alloc] at this
  refine (print3 (w4.heap.size + 1) 1 _ hLB).mono ?_
  rintro x w5 ⟨rfl, hb5⟩
  rw [show thenT = ⟨#[116, 104, 101, 110, 32, 59, 10]⟩ from rfl]
  have hC := ((HL4.out.1.alloc _).alloc _).below hb5
  have hF1 := ((HL4.out.2.1.allocs _).allocs _).below hb5 (by have := HL4.out.2.1.lt; simp; omega)
  have hF2 := ((HL4.out.2.2.1.allocs _).allocs _).below hb5 (by have := HL4.out.2.2.1.lt; simp; omega)
  have hF3 := ((HL4.out.2.2.2.allocs _).allocs _).below hb5 (by have := HL4.out.2.2.2.lt; simp; omega)
  have hF4 : FB w5 w4.heap.size 0 0 := ((FB.new w4 0 0).allocs _).below hb5 (by simp; omega)
  have HB5 : Hid (Below w.heap.size w w5) := ((HB4.out.alloc HB4.out.size _).alloc (by have := HB4.out.size; simp; omega) _).trans (hb5.mono (by have := HB4.out.size; simp; omega))
  obtain ⟨k0, k1, k2, k3, -, -⟩ := hC
  obtain ⟨f0, f1, -, -⟩ := hF1.cells
  obtain ⟨i0, i1, -, -⟩ := hF2.cells
  obtain ⟨j0, j1, -, -⟩ := hF3.cells
  obtain ⟨l0, l1, -, -⟩ := hF4.cells
  clear hLB hb5 hF1 hF2 hF3 hF4 HL4 HB4
  go_wp2
  go_ret
  exact ⟨rfl, HB5.out⟩
set_option maxHeartbeats 1000000 in
theorem numbers_any (w : World) : Calls Tryz.prog 7 #[] w fun e w' => e = .returned (.bool true) ∧ Below w.heap.size w w' := by
  go_enter Tryz.func7, Tryz.ntmps7
  go_wp2_with (go_at_call 8; refine (shown_any _).mono ?_; rintro x w1 ⟨rfl, hb1⟩)
  go_ret
  exact ⟨rfl, hb1⟩
end Go.Proofs
