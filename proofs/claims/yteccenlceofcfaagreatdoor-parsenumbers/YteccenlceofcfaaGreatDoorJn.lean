/-
  Parse.
-/
import Derived.Shelf.Abstract
import Derived.WalkKit
import Derived.WalkSpells
import Derived.WalkLawsBesides
import Derived.BigQuiet
import Derived.Deep.QuietTactic
import Derived.Deep.LoopGhost
import Derived.WalkMore
import Derived.Test.YteccenlceofcfaaGreatDoorXg
import Derived.Test.YteccenlceofcfaaGreatDoorJl
namespace Go.Proofs
open Go.RowKit Go.Shelf

set_option maxRecDepth 100000
attribute [local go_sem] Oper.semAt_some

theorem ft_at (l : List Tok) {j : Nat} {x : Tok} (hj : l[j]? = some x) : (ft l)[j * 6]? = some (.int .i64 x.k) ∧ (ft l)[j * 6 + 1]? = some (.int .i64 x.a) ∧ (ft l)[j * 6 + 2]? = some (.int .i64 x.l) ∧ (ft l)[j * 6 + 3]? = some (.int .i64 x.u) ∧ (ft l)[j * 6 + 4]? = some (.string x.t) ∧ (ft l)[j * 6 + 5]? = some (.int .i64 x.n) := by
  induction l generalizing j with
  | nil => simp at hj
  | cons a l ih =>
    cases j with
    | zero => simp at hj; subst hj; simp [ft, tok1]
    | succ j =>
      have := ih (j := j) (by simpa using hj)
      rw [show (j + 1) * 6 = j * 6 + 6 by omega]
      simpa [ft, tok1] using this
theorem OwnT.tr {w : World} {base : Nat} {v : Value} {ts : List Tok} {e : Int} (h : OwnT w base v (ts ++ [sen e])) (hg : ∀ t, t ∈ ts → GoodT t) : ∃ g c, v = .slice (some ⟨g, 0, none⟩) (ts.length + 1) c ∧ TR w g c ts e := by
  rcases h.2 with ⟨rfl, h0⟩ | ⟨g, cap, cur, rfl, k1, k2, k3, k4, k5, k6⟩
  · simp at h0
  · rw [List.length_append] at *
    refine ⟨g, cap, rfl, ⟨k3, k4⟩, fun j x hj => ?_, hg⟩
    have h1 : ∀ i u, (ft (ts ++ [sen e]))[i]? = some u → w.cell? ⟨g, i, none⟩ = some u := by
      intro i u hi
      rw [← k6, List.getElem?_take] at hi
      split at hi
      · simp only [World.cell?, k2]
        simpa using hi
      · cases hi
    obtain ⟨a0, a1, a2, a3, a4, a5⟩ := ft_at _ hj
    exact ⟨h1 _ _ a0, h1 _ _ a1, h1 _ _ a2, h1 _ _ a3, h1 _ _ a4, h1 _ _ a5⟩
theorem RowsL.step {w w' : World} {b b' : Nat} {v : Value} {l : List Ln} (h : RowsL w b v l) (hb : b' ≤ b) (hw : ∀ k, k < w.heap.size → b ≤ k → w'.heap[k]? = w.heap[k]?) : RowsL w' b' v l := by
  obtain ⟨A, c, ms, e1, e2, e3⟩ := h
  refine ⟨A, c, ms, e1, e2.mono fun _ _ r => r.step hb (.inl rfl) (fun k h1 h2 _ => hw k h1 h2), e3.imp id ?_⟩
  rintro ⟨g, cur, k1, k2, k3, k4⟩
  exact ⟨g, cur, k1, by omega, (hw g (Array.getElem?_eq_some_iff.1 k3).1 k2).trans k3, k4⟩
/-- what Parse tells of a text of these tokens, or of this fault -/
def PO (w : World) (e : Int) (toks : List Tok) (fa fe : Int) (x : Ending) (w' : World) : Prop :=
  if fe = 0 then LinesOut w (linesT e toks.length toks) x w' else x = .returned (.tuple #[.slice none 0 0, .agg #[.int .i64 fa, .int .i64 fe]]) ∧ Below w.heap.size w w'
set_option maxHeartbeats 1000000 in
theorem parse_run (s : ByteArray) (toks : List Tok) (fa : Nat) (fe : Int) (hs : s.size ≤ 32768) (hR : Run s 0 true toks fa fe) (hg : ∀ t, t ∈ toks → GoodT t) (hl : toks.length ≤ 32768) (w : World) :
    Calls Tryz.prog 9 #[.string s] w (PO w s.size toks fa fe) := by
  have HR : Hid (Run s 0 true toks fa fe ∧ ∀ t, t ∈ toks → GoodT t) := ⟨hR, hg⟩
  clear hR hg
  go_enter Tryz.func9, Tryz.ntmps9
  go_wp2_with fail
  refine (scan_run s toks fa fe hs HR.out.1 _).mono ?_
  rintro x w1 ⟨v, rfl, hv, hb1⟩
  have hF1 : FB w1 w.heap.size 0 0 := (FB.new w 0 0).below hb1 (by simp)
  have hB1 : Below w.heap.size w w1 := ((Below.refl _ w).alloc (Nat.le_refl _) _).trans (hb1.mono (by simp))
  by_cases hfe : fe = 0
  · subst hfe
    rw [if_pos rfl] at hv
    have hv2 : OwnT w1 (w.heap.size + 1) v toks := by
      rw [World.size_alloc] at hv
      exact hv
    obtain ⟨A, c, rfl⟩ := formT hv2
    have HO : Hid (OwnT w1 (w.heap.size + 1) (.slice A toks.length c) toks ∧ FB w1 w.heap.size 0 0 ∧ Below w.heap.size w w1) := ⟨hv2, hF1, hB1⟩
    clear hv hv2 hb1 hF1 hB1
    have hY : Hid (TB ((w1.alloc (.cells #[.int .i64 fa, .int .i64 0] 26)).alloc (.cells #[.int .i64 0, .int .i64 s.size, .int .i64 0, .int .i64 0, .string ⟨#[]⟩, .int .i64 0] 47)) (w1.heap.size + 1) 0 s.size 0 0 ⟨#[]⟩ 0) := by
      have := TB.new (w1.alloc (.cells #[.int .i64 fa, .int .i64 0] 26)) 0 s.size 0 0 ⟨#[]⟩ 0
      rwa [World.size_alloc] at this
    go_wp2_with (first | (at_builtin; go_must (refine push_T rfl _ _ 42 rfl Tryz.underlying42 (w.heap.size + 1) _ toks rfl ((HO.out.1.alloc _).alloc _) _ _ (sen s.size) rfl hY.out (by omega) (by have := HO.out.2.1.lt; simp; omega) ?_); intro v' w3 hO3 hgr hb3) | fail)
    have hz1 := HO.out.2.1.lt
    have hF3 : FB w3 w.heap.size 0 0 := (hgr.block w.heap.size (by simp; omega) (fun e => by have := (World.ownsRow.lt HO.out.1 _ e.symm).1; omega)).trans ((HO.out.2.1.allocs _).allocs _)
    have hB3 : Below w.heap.size w w3 := ((HO.out.2.2.alloc (by omega) _).alloc (by simp; omega) _).trans (hb3.mono (by omega))
    have hz3 : w.heap.size < w3.heap.size := hF3.lt
    obtain ⟨g, c2, rfl, hTR⟩ := hO3.tr HR.out.2
    refine (read_any s.size g c2 toks (by omega) w3 hTR).mono ?_
    rintro x w4 ⟨hb4, hx⟩
    have hF4 : FB w4 w.heap.size 0 0 := hF3.below hb4 hz3
    have hB4 : Below w.heap.size w w4 := hB3.trans (hb4.mono (by omega))
    have HX : Hid (FB w4 w.heap.size 0 0 ∧ Below w.heap.size w w4) := ⟨hF4, hB4⟩
    obtain ⟨c0, c1, c2, c3⟩ := hF4.cells
    clear hF4 hB4 hb4 hB3 hF3 hTR hO3 hgr hb3 hY HO hz1
    cases hS : linesT s.size toks.length toks with
    | no a ec =>
      rw [hS] at hx
      simp only at hx
      subst hx
      have HS : Hid (linesT s.size toks.length toks = .no a ec) := hS
      clear hS
      go_wp2
      have K := HX.out.1.set a ec
      obtain ⟨d0, d1, -, -⟩ := K.cells
      refine bodyPost_ret (v := .tuple #[.slice none 0 0, .agg #[.int .i64 a, .int .i64 ec]]) (by simp [results, Tryz.f9, go_sem, d0, d1]) rfl ?_
      unfold PO
      rw [if_pos rfl, HS.out]
      exact ⟨(HX.out.2.setCell (p := ⟨w.heap.size, 0, none⟩) (Nat.le_refl _) _).setCell (p := ⟨w.heap.size, 1, none⟩) (Nat.le_refl _) _, rfl⟩
    | ok ls r =>
      rw [hS] at hx
      obtain ⟨v, rfl, hL⟩ := hx
      have HS : Hid (linesT s.size toks.length toks = .ok ls r ∧ RowsL w4 w3.heap.size v ls) := ⟨hS, hL⟩
      clear hS hL
      go_wp2
      have K := HX.out.1.set 0 0
      obtain ⟨d0, d1, -, -⟩ := K.cells
      refine bodyPost_ret (v := .tuple #[v, .agg #[.int .i64 0, .int .i64 0]]) (by simp [results, Tryz.f9, go_sem, d0, d1]) rfl ?_
      unfold PO
      rw [if_pos rfl, HS.out.1]
      exact ⟨(HX.out.2.setCell (p := ⟨w.heap.size, 0, none⟩) (Nat.le_refl _) _).setCell (p := ⟨w.heap.size, 1, none⟩) (Nat.le_refl _) _, v, rfl, HS.out.2.step (by omega) (fun k _ h2 => (heap_set_other _ (by omega) _ _).trans (heap_set_other _ (by omega) _ _))⟩
  · have hd : (fe != 0) = true := by simpa using hfe
    rw [if_neg hfe] at hv
    subst hv
    have HB : Hid (Below w.heap.size w w1 ∧ FB w1 w.heap.size 0 0) := ⟨hB1, hF1⟩
    have c := fun o => (hF1.allocs o).cells
    have c0 := fun o => (c o).1
    have c1 := fun o => (c o).2.1
    have c2 := fun o => (c o).2.2.1
    have c3 := fun o => (c o).2.2.2
    clear c hb1 hF1 hB1
    go_wp2
    go_region
    all_goals go_wp2
    all_goals
      have K := (HB.out.2.allocs (.cells #[.int .i64 fa, .int .i64 fe] 26)).set fa fe
      obtain ⟨d0, d1, -, -⟩ := K.cells
      refine bodyPost_ret (v := .tuple #[.slice none 0 0, .agg #[.int .i64 fa, .int .i64 fe]]) (by simp [results, Tryz.f9, go_sem, d0, d1]) rfl ?_
      unfold PO
      rw [if_neg hfe]
      have hb := ((HB.out.1.alloc HB.out.1.size (.cells #[.int .i64 fa, .int .i64 fe] 26)).setCell (p := ⟨w.heap.size, 0, none⟩) (Nat.le_refl _) (.int .i64 fa)).setCell (p := ⟨w.heap.size, 1, none⟩) (Nat.le_refl _) (.int .i64 fe)
      exact ⟨rfl, hb.os, hb.tape, hb.output, hb.size, hb.block⟩
end Go.Proofs
