/-
  Several texts in one (Jsr Thr V2r V3r Tmr).
-/
import Derived.Shelf.Abstract
import Derived.Shelf.RegionOpen
import Derived.WalkKit
import Derived.WalkSpells
import Derived.WalkLawsBesides
import Derived.BigQuiet
import Derived.Deep.QuietTactic
import Derived.Deep.LoopGhost
import Derived.WalkMore
import Derived.Test.YtknaoahokopplaaGreatDoorMhhr
import Derived.Deep.DeepCutAuto
import Derived.Maps.AppendAt
import Derived.Lib.SmallJoins
import Derived.Shelf.SlSortCmp.QuietGrown
import Derived.Lib.SlBytesConst
import Derived.ArgAppend
import Derived.Test.YtknaoahokopplaaGreatDoorMgvr
import Derived.Test.YtknaoahokopplaaGreatDoorMhfr
import Derived.Test.YtknaoahokopplaaGreatDoorKkr
import Derived.Test.YtknaoahokopplaaGreatDoorMhdr
import Derived.Test.YtknaoahokopplaaGreatDoorMhgr
import Derived.Deep.SlicePairs
import Derived.SizedLaws
import Derived.ProofKit
import Derived.OpenShut
import Derived.Deep.DeepHandedRow
import Derived.Lib.LaidTab
import Derived.Lib.LaidU8
import Derived.MakeChecks
import Derived.Lay
import Derived.LaidLaws
import Derived.Test.YtknaoahokopplaaGreatDoorR1r
import Derived.Test.YtknaoahokopplaaGreatDoorTie
import Derived.Test.YtknaoahokopplaaGreatDoorCards
namespace Go.Proofs
open Go.RowKit Go.Shelf

set_option maxRecDepth 100000
attribute [local go_sem] Oper.semAt_some

theorem cells_take {w : World} {g : Nat} {cur : Array Value} {T : TypeId} {n : Nat} {xs : List Value} (h : w.heap[g]? = some (.cells cur T (0, 0))) (ht : cur.toList.take n = xs) (j : Nat) (u : Value) (hj : xs[j]? = some u) : w.cell? ⟨g, j, none⟩ = some u := by
  rw [← ht, List.getElem?_take] at hj
  split at hj
  · simp only [World.cell?, h]
    simpa using hj
  · cases hj
theorem RowsL.one {w : World} {b : Nat} {v : Value} {l : Ln} (h : RowsL w b v [l]) : ∃ g c m, v = .slice (some ⟨g, 0, none⟩) 1 c ∧ (∀ j u, (ml1 m)[j]? = some u → w.cell? ⟨g, j, none⟩ = some u) ∧ LR 3 w b none m l ∧ g < w.heap.size := by
  obtain ⟨A, c, ms, rfl, h2, h3⟩ := h
  rcases h3 with ⟨h3, -⟩ | ⟨g, cur, rfl, k1, k2, k3, -⟩
  · cases h3
  · cases ms with
    | nil => exact h2.elim
    | cons m ms =>
      cases ms with
      | nil => exact ⟨g, c, m, rfl, fun j u hj => cells_take k2 k3 j u (by simpa [fl10] using hj), h2.1, (Array.getElem?_eq_some_iff.1 k2).1⟩
      | cons _ _ => exact h2.2.elim
theorem RowsS.one {d : Nat} {w : World} {b : Nat} {x : Option Nat} {s : SL} {i : It} (h : RowsS d w b x s [i]) : ∃ g c m, s = ⟨some ⟨g, 0, none⟩, 1, c⟩ ∧ (∀ j u, (mi1 m)[j]? = some u → w.cell? ⟨g, j, none⟩ = some u) ∧ DR d w b x m i ∧ g < w.heap.size := by
  obtain ⟨ms, h1, h2⟩ := h
  cases ms with
  | nil => exact h2.elim
  | cons m ms =>
    cases ms with
    | cons _ _ => exact h2.2.elim
    | nil =>
      rcases h1.2 with ⟨_, h0, _⟩ | ⟨g, cur, e, _, _, k2, _, _, _, k6⟩
      · have := h1.1; simp at this; omega
      · have hn : s.n = 1 := h1.1
        obtain ⟨A, n, c⟩ := s
        simp only at e hn k6
        subst e hn
        exact ⟨g, c, m, rfl, fun j u hj => cells_take k2 k6 j u (by simpa [fi] using hj), h2.1, (Array.getElem?_eq_some_iff.1 k2).1⟩
/-- what is looked at of the first text's line -/
structure CF (w : World) (g g2 c2 : Nat) : Prop where
  a : w.cell? ⟨g, 0, none⟩ = some (.int .i64 2)
  b : w.cell? ⟨g, 6, none⟩ = some (.slice (some ⟨g2, 0, none⟩) 1 c2)
  c : w.cell? ⟨g, 9, none⟩ = some (.int .i64 1)
  d : w.cell? ⟨g2, 1, none⟩ = some (.int .i64 97)
  lt : g < w.heap.size
  lt2 : g2 < w.heap.size
theorem CF.below {w w' : World} {g g2 c2 : Nat} (h : CF w g g2 c2) (hb : Below w.heap.size w w') : CF w' g g2 c2 :=
  ⟨(hb.cell (p := ⟨g, 0, none⟩) h.lt).trans h.a, (hb.cell (p := ⟨g, 6, none⟩) h.lt).trans h.b, (hb.cell (p := ⟨g, 9, none⟩) h.lt).trans h.c, (hb.cell (p := ⟨g2, 1, none⟩) h.lt2).trans h.d, Nat.lt_of_lt_of_le h.lt hb.size, Nat.lt_of_lt_of_le h.lt2 hb.size⟩
theorem CF.alloc {w : World} {g g2 c2 : Nat} (h : CF w g g2 c2) (o : Obj) : CF (w.alloc o) g g2 c2 := h.below ((Below.refl _ _).alloc (Nat.le_refl _) _)
set_option maxHeartbeats 2000000 in
theorem shown_any (w : World) : Calls Tryz.prog 12 #[] w fun e w' => e = .returned (.bool true) ∧ Below w.heap.size w w' := by
  go_enter Tryz.func12, Tryz.ntmps12
  go_wp2_with fail
  refine (parseSa _).mono ?_
  rintro x w1 ⟨v1, rfl, hO1, hb1⟩
  obtain ⟨g, c, m, rfl, hm, hL, hg⟩ := hO1.one
  obtain ⟨⟨e1, e2, e3, e4, e5, e6⟩, -, hK, -, -⟩ := hL
  obtain ⟨g2, c2, m2, hs2, hm2, hD, hg2⟩ := hK.one
  have HL : Hid (CF w1 g g2 c2) := ⟨hm 0 _ (by simp [ml1, e1]), hm 6 _ (by simp [ml1, hs2]), hm 9 _ (by simp [ml1, e6]), hm2 1 _ (by simp [mi1, hD.1.2.1]), hg, hg2⟩
  have HB : Hid (Below w.heap.size w w1) := hb1
  clear hO1 hb1 hm e1 e2 e3 e4 e5 e6 hK hs2 hm2 hD hg hg2
  go_wp2_with fail
  refine (parseSb _).mono ?_
  rintro x w2 ⟨rfl, hb2⟩
  have HL2 : Hid (CF w2 g g2 c2 ∧ FB w2 w1.heap.size 0 0) := ⟨(HL.out.alloc _).below hb2, (FB.new w1 0 0).below hb2 (by simp)⟩
  have HB2 : Hid (Below w.heap.size w w2) := (HB.out.alloc HB.out.size _).trans (hb2.mono (by have := HB.out.size; simp; omega))
  clear HL HB hb2
  go_wp2_with fail
  refine (parseSc _).mono ?_
  rintro x w3 ⟨rfl, hb3⟩
  have HL3 : Hid (CF w3 g g2 c2 ∧ FB w3 w1.heap.size 0 0 ∧ FB w3 w2.heap.size 4 50) := ⟨(HL2.out.1.alloc _).below hb3, (HL2.out.2.allocs _).below hb3 (by have := HL2.out.2.lt; simp; omega), (FB.new w2 4 50).below hb3 (by simp)⟩
  have HB3 : Hid (Below w.heap.size w w3) := (HB2.out.alloc HB2.out.size _).trans (hb3.mono (by have := HB2.out.size; simp; omega))
  clear HL2 HB2 hb3
  go_wp2_with fail
  refine (parseSd _).mono ?_
  rintro x w4 ⟨A4, c4, rfl, hb4⟩
  have HL4 : Hid (CF w4 g g2 c2 ∧ FB w4 w1.heap.size 0 0 ∧ FB w4 w2.heap.size 4 50 ∧ FB w4 w3.heap.size 1 51) := ⟨(HL3.out.1.alloc _).below hb4, (HL3.out.2.1.allocs _).below hb4 (by have := HL3.out.2.1.lt; simp; omega), (HL3.out.2.2.allocs _).below hb4 (by have := HL3.out.2.2.lt; simp; omega), (FB.new w3 1 51).below hb4 (by simp)⟩
  have HB4 : Hid (Below w.heap.size w w4) := (HB3.out.alloc HB3.out.size _).trans (hb4.mono (by have := HB3.out.size; simp; omega))
  clear HL3 HB3 hb4
  go_wp2_with fail
  have hLB : LB ((w4.alloc (.cells #[.int .i64 0, .int .i64 0] 32)).alloc (.cells (ml1 L3).toArray 44)) (w4.heap.size + 1) L3 := by
    have := LB.new (w4.alloc (.cells #[.int .i64 0, .int .i64 0] 32)) L3
    rwa [World.size_alloc] at this
  refine (print3 (w4.heap.size + 1) 1 _ hLB).mono ?_
  rintro x w5 ⟨rfl, hb5⟩
  rw [show thenT = ⟨#[116, 104, 101, 110, 32, 59, 10]⟩ from rfl]
  have hC := ((HL4.out.1.alloc _).alloc _).below hb5
  have hF1 := ((HL4.out.2.1.allocs _).allocs _).below hb5 (by have := HL4.out.2.1.lt; simp; omega)
  have hF2 := ((HL4.out.2.2.1.allocs _).allocs _).below hb5 (by have := HL4.out.2.2.1.lt; simp; omega)
  have hF3 := ((HL4.out.2.2.2.allocs _).allocs _).below hb5 (by have := HL4.out.2.2.2.lt; simp; omega)
  have hF4 : FB w5 w4.heap.size 0 0 := ((FB.new w4 0 0).allocs _).below hb5 (by simp; omega)
  have HB5 : Hid (Below w.heap.size w w5) := ((HB4.out.alloc HB4.out.size _).alloc (by have := HB4.out.size; simp; omega) _).trans (hb5.mono (by have := HB4.out.size; simp; omega))
  obtain ⟨k0, k1, k2, k3, -, -⟩ := hC
  obtain ⟨f0, f1, -, -⟩ := hF1.cells
  obtain ⟨i0, i1, -, -⟩ := hF2.cells
  obtain ⟨j0, j1, -, -⟩ := hF3.cells
  obtain ⟨l0, l1, -, -⟩ := hF4.cells
  clear hLB hb5 hF1 hF2 hF3 hF4 HL4 HB4
  go_wp2
  go_ret
  exact ⟨rfl, HB5.out⟩
end Go.Proofs
namespace Go.Proofs
open Go.RowKit Go.Shelf

set_option maxRecDepth 100000
attribute [local go_sem] Oper.semAt_some

set_option maxHeartbeats 1000000 in
theorem rscan_long (s : ByteArray) (hs : 32768 < s.size) (w : World) : Calls Tryz.prog 22 #[.string s] w fun e w' => e = .returned (.tuple #[.slice none 0 0, .agg #[.int .i64 32768, .int .i64 2]]) ∧ Below w.heap.size w w' := by
  have hd : (32768 : Int) < (s.size : Int) := by omega
  go_enter Tryz.func22, Tryz.ntmps22
  go_wp2
  exact bodyPost_ret (v := .tuple #[.slice none 0 0, .agg #[.int .i64 32768, .int .i64 2]]) (by simp [results, Tryz.f22, go_sem]) rfl ⟨rfl, (Below.refl _ _).alloc (Nat.le_refl _) _⟩
end Go.Proofs
namespace Go.Proofs
open Go.RowKit Go.Shelf

set_option maxRecDepth 100000
attribute [local go_sem] Oper.semAt_some

/-- the document's Parse refuses a text, or tells its lines -/
def QNo (s : ByteArray) (fa fe : Int) : Prop := ∀ w, Calls Tryz.prog 14 #[.string s] w fun e w' => e = .returned (.tuple #[.slice none 0 0, .agg #[.int .i64 fa, .int .i64 fe]]) ∧ Below w.heap.size w w'
def QYes (s : ByteArray) (ls : List Ln) : Prop := ∀ w, Calls Tryz.prog 14 #[.string s] w fun e w' => ∃ v, e = .returned (.tuple #[v, .agg #[.int .i64 0, .int .i64 0]]) ∧ RowsL w' w.heap.size v ls ∧ Below w.heap.size w w'
set_option maxHeartbeats 1000000 in
theorem qparse_long (s : ByteArray) (hs : 32768 < s.size) : QNo s 32768 2 := by
  intro w
  go_enter Tryz.func14, Tryz.ntmps14
  go_wp2_with fail
  refine (rscan_long s hs _).mono ?_
  rintro x w1 ⟨rfl, hb1⟩
  have hF1 : FB w1 w.heap.size 0 0 := (FB.new w 0 0).below hb1 (by simp)
  have hB1 : Below w.heap.size w w1 := ((Below.refl _ w).alloc (Nat.le_refl _) _).trans (hb1.mono (by simp))
  have HB : Hid (Below w.heap.size w w1 ∧ FB w1 w.heap.size 0 0) := ⟨hB1, hF1⟩
  have c := fun o => (hF1.allocs o).cells
  have c0 := fun o => (c o).1
  have c1 := fun o => (c o).2.1
  have c2 := fun o => (c o).2.2.1
  have c3 := fun o => (c o).2.2.2
  clear c hb1 hF1 hB1
  go_wp2
  go_region
  all_goals go_wp2
  all_goals
    have K := (HB.out.2.allocs (.cells #[.int .i64 32768, .int .i64 2] 32)).set 32768 2
    obtain ⟨d0, d1, -, -⟩ := K.cells
    refine bodyPost_ret (v := .tuple #[.slice none 0 0, .agg #[.int .i64 32768, .int .i64 2]]) (by simp [results, Tryz.f14, go_sem, d0, d1]) rfl ?_
    have hb := ((HB.out.1.alloc HB.out.1.size (.cells #[.int .i64 32768, .int .i64 2] 32)).setCell (p := ⟨w.heap.size, 0, none⟩) (Nat.le_refl _) (.int .i64 32768)).setCell (p := ⟨w.heap.size, 1, none⟩) (Nat.le_refl _) (.int .i64 2)
    exact ⟨rfl, hb.os, hb.tape, hb.output, hb.size, hb.block⟩
/-- what both tell of any text -/
theorem both_parse (s : ByteArray) : (∃ fa fe, PNo s fa fe ∧ QNo s fa fe) ∨ ∃ ls, PYes s ls ∧ QYes s ls ∧ (∀ l ∈ ls, SmLn 3 l) ∧ ls.length ≤ 32768 := by
  by_cases hs : s.size ≤ 32768
  · obtain ⟨toks, fa, fe, h1, h2, _⟩ := scan_both s hs
    have hl := run_len h1
    have hg := h1.good (by unfold maxLen; omega)
    have hu := h1.goodU (by unfold maxLen; omega)
    by_cases he : fe = 0
    · subst he
      cases hS : linesT s.size toks.length toks with
      | ok ls r =>
        obtain ⟨k1, k2⟩ := lines_small 3 s.size toks.length toks ls r hS
        refine .inr ⟨ls, parse_yes s hs toks fa h1 (by omega) hS, fun w => (qparse_run s toks fa 0 hs h2 hu (by omega) w).mono ?_, k2, by omega⟩
        intro x w' hx
        unfold PO at hx
        rw [if_pos rfl, hS] at hx
        obtain ⟨hb, v, rfl, hv⟩ := hx
        exact ⟨v, rfl, hv, hb⟩
      | no a c =>
        refine .inl ⟨a, c, ⟨nz_lines _ _ _ a c hS, fun w => (parse_run s toks fa 0 hs h1 hg (by omega) w).mono ?_⟩, fun w => (qparse_run s toks fa 0 hs h2 hu (by omega) w).mono ?_⟩
        · intro x w' hx
          unfold PO at hx
          rw [if_pos rfl, hS] at hx
          exact ⟨hx.2, hx.1⟩
        · intro x w' hx
          unfold PO at hx
          rw [if_pos rfl, hS] at hx
          exact ⟨hx.2, hx.1⟩
    · refine .inl ⟨fa, fe, ⟨he, fun w => (parse_run s toks fa fe hs h1 hg (by omega) w).mono ?_⟩, fun w => (qparse_run s toks fa fe hs h2 hu (by omega) w).mono ?_⟩
      · intro x w' hx
        unfold PO at hx
        rw [if_neg he] at hx
        exact hx
      · intro x w' hx
        unfold PO at hx
        rw [if_neg he] at hx
        exact hx
  · exact .inl ⟨32768, 2, ⟨by decide, parse_long s (by omega)⟩, qparse_long s (by omega)⟩
/-- the blocks from b on that w has stay -/
def Kp (w : World) (b : Nat) (W : World) : Prop := w.heap.size ≤ W.heap.size ∧ ∀ k, k < w.heap.size → b ≤ k → W.heap[k]? = w.heap[k]?
theorem Kp.refl (w : World) (b : Nat) : Kp w b w := ⟨Nat.le_refl _, fun _ _ _ => rfl⟩
theorem Kp.below {w W W' : World} {b : Nat} (h : Kp w b W) (hb : Below W.heap.size W W') : Kp w b W' := ⟨Nat.le_trans h.1 hb.size, fun k h1 h2 => (hb.block k (by have := h.1; omega)).trans (h.2 k h1 h2)⟩
theorem Kp.fr {w W W' : World} {b b0 b1 : Nat} (h : Kp w b W) (hf : Fr b0 b1 W W') (hb : w.heap.size ≤ b0 ∨ b1 ≤ b) : Kp w b W' := ⟨Nat.le_trans h.1 hf.size, fun k h1 h2 => (hf.out k (by have := h.1; omega) (by omega)).trans (h.2 k h1 h2)⟩
theorem same_refl (b : Bool) : ∀ ls : List Ln, All2 (SameA b) ls ls
  | [] => trivial
  | _ :: ls => ⟨⟨rfl, fun _ => rfl⟩, same_refl b ls⟩
/-- lines that were told, and lie still -/
structure Tl (ls : List Ln) (w : World) (b : Nat) (v : Value) (W : World) : Prop where
  rows : RowsL w b v ls
  kp : Kp w b W
theorem Tl.rd {ls : List Ln} {w : World} {b : Nat} {v : Value} {W : World} (h : Tl ls w b v W) : ∃ A c, v = .slice A ls.length c ∧ RdLs 3 W A ls.length ls := (h.rows.step (w' := W) (b' := b) (Nat.le_refl _) h.kp.2).rd
theorem Tl.lines {ls : List Ln} {w w2 : World} {b b2 : Nat} {v v2 : Value} {W : World} (h : Tl ls w b v W) (h2 : Tl ls w2 b2 v2 W) (hl : ls.length ≤ 32768) : Calls Tryz.prog 15 #[v, v2, .bool true] W fun e w' => e = .returned (.bool true) ∧ Below W.heap.size W w' := by
  obtain ⟨A, c, rfl, r1⟩ := h.rd
  obtain ⟨A2, c2, rfl, r2⟩ := h2.rd
  exact lines_any 3 true W A A2 _ _ c c2 ls ls (by omega) r1 r2 (same_refl true ls)
theorem Tl.below {ls : List Ln} {w : World} {b : Nat} {v : Value} {W W' : World} (h : Tl ls w b v W) (hb : Below W.heap.size W W') : Tl ls w b v W' := ⟨h.rows, h.kp.below hb⟩
theorem Tl.fr {ls : List Ln} {w : World} {b : Nat} {v : Value} {W W' : World} {b0 b1 : Nat} (h : Tl ls w b v W) (hf : Fr b0 b1 W W') (hb : w.heap.size ≤ b0 ∨ b1 ≤ b) : Tl ls w b v W' := ⟨h.rows, h.kp.fr hf hb⟩
theorem Tl.over {ls : List Ln} {w : World} {b : Nat} {v : Value} {W : World} (h : Tl ls w b v W) (hs : ∀ l ∈ ls, SmLn 3 l) (hl : ls.length ≤ 32768) (N : Int) (hN : 0 ≤ N ∧ N ≤ 1000) : Calls Tryz.prog 16 #[v, .int .i64 N] W fun x w' => x = .returned (.tuple #[]) ∧ Fr b w.heap.size W w' := over_any h.rows hs hl h.kp.2 N hN
theorem FB.fr {W W' : World} {B b0 b1 : Nat} {a e : Int} (h : FB W B a e) (hf : Fr b0 b1 W W') (hb : B < b0 ∨ b1 ≤ B) : FB W' B a e := (hf.out B h.lt hb).trans h
end Go.Proofs
namespace Go.Proofs
open Go.RowKit Go.Shelf

set_option maxRecDepth 100000
attribute [local go_sem] Oper.semAt_some

set_option maxHeartbeats 8000000 in
theorem reads_yes (s : ByteArray) (ls : List Ln) (hP : PYes s ls) (hQ : QYes s ls) (hs : ∀ l ∈ ls, SmLn 3 l) (hl : ls.length ≤ 32768) (w : World) : Calls Tryz.prog 4 #[.string s] w fun x w' => x = .returned (.bool true) ∧ Below w.heap.size w w' := by
  have H : Hid (PYes s ls ∧ QYes s ls ∧ ∀ l ∈ ls, SmLn 3 l) := ⟨hP, hQ, hs⟩
  clear hP hQ hs
  go_enter Tryz.func4, Tryz.ntmps4
  go_wp2_with fail
  refine (shown_any _).mono ?_
  rintro x w0 ⟨rfl, hb0⟩
  have HB0 := hidm hb0
  clear hb0
  go_wp2_with fail
  refine (H.out.1 _).mono ?_
  rintro x w1 ⟨va, rfl, ha, hb1⟩
  have H1 : Hid (Tl ls w1 w0.heap.size va (w1.alloc (.cells #[.int .i64 0, .int .i64 0] 32)) ∧ FB (w1.alloc (.cells #[.int .i64 0, .int .i64 0] 32)) w1.heap.size 0 0 ∧ Below w.heap.size w (w1.alloc (.cells #[.int .i64 0, .int .i64 0] 32)) ∧ w.heap.size ≤ w0.heap.size ∧ (w1.alloc (.cells #[.int .i64 0, .int .i64 0] 32)).heap.size = w1.heap.size + 1) :=
    ⟨⟨ha, (Kp.refl w1 _).below ((Below.refl _ w1).alloc (Nat.le_refl _) _)⟩, FB.new w1 0 0, (HB0.out.trans (hb1.mono HB0.out.size)).alloc (Nat.le_trans HB0.out.size hb1.size) _, HB0.out.size, by simp⟩
  clear ha hb1 HB0
  go_wp2_with fail
  generalize w1.alloc (.cells #[.int .i64 0, .int .i64 0] 32) = W1 at H1 ⊢
  refine (H.out.1 _).mono ?_
  rintro x w2 ⟨vb, rfl, ha, hb2⟩
  have H2 : Hid (Tl ls w2 W1.heap.size vb (w2.alloc (.cells #[.int .i64 0, .int .i64 0] 32)) ∧ FB (w2.alloc (.cells #[.int .i64 0, .int .i64 0] 32)) w2.heap.size 0 0 ∧ Below W1.heap.size W1 (w2.alloc (.cells #[.int .i64 0, .int .i64 0] 32)) ∧ W1.heap.size ≤ w2.heap.size ∧ (w2.alloc (.cells #[.int .i64 0, .int .i64 0] 32)).heap.size = w2.heap.size + 1) :=
    ⟨⟨ha, (Kp.refl w2 _).below ((Below.refl _ w2).alloc (Nat.le_refl _) _)⟩, FB.new w2 0 0, hb2.alloc hb2.size _, hb2.size, by simp⟩
  clear ha hb2
  go_wp2_with fail
  generalize w2.alloc (.cells #[.int .i64 0, .int .i64 0] 32) = W2 at H2 ⊢
  refine (H.out.2.1 _).mono ?_
  rintro x w3 ⟨vw, rfl, ha, hb3⟩
  have H3 : Hid (Tl ls w3 W2.heap.size vw (w3.alloc (.cells #[.int .i64 0, .int .i64 0] 32)) ∧ FB (w3.alloc (.cells #[.int .i64 0, .int .i64 0] 32)) w3.heap.size 0 0 ∧ Below W2.heap.size W2 (w3.alloc (.cells #[.int .i64 0, .int .i64 0] 32)) ∧ W2.heap.size ≤ w3.heap.size) :=
    ⟨⟨ha, (Kp.refl w3 _).below ((Below.refl _ w3).alloc (Nat.le_refl _) _)⟩, FB.new w3 0 0, hb3.alloc hb3.size _, hb3.size⟩
  clear ha hb3
  go_wp2_with fail
  generalize w3.alloc (.cells #[.int .i64 0, .int .i64 0] 32) = W3 at H3 ⊢
  have hz1 := H1.out.2.2.2.1
  have hz2 := H1.out.2.2.2.2
  have hz3 := H2.out.2.2.2.1
  have hz4 := H2.out.2.2.2.2
  have hz5 := H3.out.2.2.2
  have hz0 := H1.out.1.kp.1
  have hz6 := H1.out.2.2.1.size
  have K3 : Hid (Tl ls w1 w0.heap.size va W3 ∧ Tl ls w2 W1.heap.size vb W3 ∧ Tl ls w3 W2.heap.size vw W3 ∧ FB W3 w1.heap.size 0 0 ∧ FB W3 w2.heap.size 0 0 ∧ FB W3 w3.heap.size 0 0 ∧ Below w.heap.size w W3) :=
    ⟨(H1.out.1.below H2.out.2.2.1).below H3.out.2.2.1, H2.out.1.below H3.out.2.2.1, H3.out.1, (H1.out.2.1.below H2.out.2.2.1 (by omega)).below H3.out.2.2.1 (by omega), H2.out.2.1.below H3.out.2.2.1 (by omega), H3.out.2.1, (H1.out.2.2.1.trans (H2.out.2.2.1.mono H1.out.2.2.1.size)).trans (H3.out.2.2.1.mono (Nat.le_trans H1.out.2.2.1.size H2.out.2.2.1.size))⟩
  clear H1 H2 H3
  refine (K3.out.1.lines K3.out.2.2.1 hl).mono ?_
  rintro x w4 ⟨rfl, hb4⟩
  have K4 : Hid (Tl ls w1 w0.heap.size va w4 ∧ Tl ls w2 W1.heap.size vb w4 ∧ Tl ls w3 W2.heap.size vw w4 ∧ FB w4 w1.heap.size 0 0 ∧ FB w4 w2.heap.size 0 0 ∧ FB w4 w3.heap.size 0 0 ∧ Below w.heap.size w w4) :=
    ⟨K3.out.1.below hb4, K3.out.2.1.below hb4, K3.out.2.2.1.below hb4, K3.out.2.2.2.1.below hb4 K3.out.2.2.2.1.lt, K3.out.2.2.2.2.1.below hb4 K3.out.2.2.2.2.1.lt, K3.out.2.2.2.2.2.1.below hb4 K3.out.2.2.2.2.2.1.lt, K3.out.2.2.2.2.2.2.trans (hb4.mono K3.out.2.2.2.2.2.2.size)⟩
  clear hb4 K3
  go_wp2_with fail
  refine (K4.out.2.1.lines K4.out.2.2.1 hl).mono ?_
  rintro x w5 ⟨rfl, hb5⟩
  have K5 : Hid (Tl ls w1 w0.heap.size va w5 ∧ Tl ls w2 W1.heap.size vb w5 ∧ Tl ls w3 W2.heap.size vw w5 ∧ FB w5 w1.heap.size 0 0 ∧ FB w5 w2.heap.size 0 0 ∧ FB w5 w3.heap.size 0 0 ∧ Below w.heap.size w w5) :=
    ⟨K4.out.1.below hb5, K4.out.2.1.below hb5, K4.out.2.2.1.below hb5, K4.out.2.2.2.1.below hb5 K4.out.2.2.2.1.lt, K4.out.2.2.2.2.1.below hb5 K4.out.2.2.2.2.1.lt, K4.out.2.2.2.2.2.1.below hb5 K4.out.2.2.2.2.2.1.lt, K4.out.2.2.2.2.2.2.trans (hb5.mono K4.out.2.2.2.2.2.2.size)⟩
  clear hb5 K4
  obtain ⟨a0, a1, -, -⟩ := K5.out.2.2.2.1.cells
  obtain ⟨b0, b1, -, -⟩ := K5.out.2.2.2.2.1.cells
  obtain ⟨g0, g1, -, -⟩ := K5.out.2.2.2.2.2.1.cells
  go_wp2_with fail
  refine (K5.out.1.over H.out.2.2 hl 900 (by decide)).mono ?_
  rintro x w6 ⟨rfl, hf6⟩
  have K6 : Hid (Tl ls w2 W1.heap.size vb w6 ∧ Tl ls w3 W2.heap.size vw w6 ∧ FB w6 w3.heap.size 0 0 ∧ Below w.heap.size w w6) :=
    ⟨K5.out.2.1.fr hf6 (.inr (by omega)), K5.out.2.2.1.fr hf6 (.inr (by omega)), K5.out.2.2.2.2.2.1.fr hf6 (.inr (by omega)), K5.out.2.2.2.2.2.2.trans (hf6.below hz1 K5.out.2.2.2.2.2.2.size)⟩
  clear hf6 K5 a0 a1 b0 b1 g0 g1
  go_wp2_with fail
  refine (K6.out.1.lines K6.out.2.1 hl).mono ?_
  rintro x w7 ⟨rfl, hb7⟩
  have K7 : Hid (Tl ls w2 W1.heap.size vb w7 ∧ Tl ls w3 W2.heap.size vw w7 ∧ FB w7 w3.heap.size 0 0 ∧ Below w.heap.size w w7) :=
    ⟨K6.out.1.below hb7, K6.out.2.1.below hb7, K6.out.2.2.1.below hb7 K6.out.2.2.1.lt, K6.out.2.2.2.trans (hb7.mono K6.out.2.2.2.size)⟩
  clear hb7 K6
  go_wp2_with fail
  refine (K7.out.1.over H.out.2.2 hl 800 (by decide)).mono ?_
  rintro x w8 ⟨rfl, hf8⟩
  have K8 : Hid (Tl ls w3 W2.heap.size vw w8 ∧ FB w8 w3.heap.size 0 0 ∧ Below w.heap.size w w8) :=
    ⟨K7.out.2.1.fr hf8 (.inr (by omega)), K7.out.2.2.1.fr hf8 (.inr (by omega)), K7.out.2.2.2.trans (hf8.below (by omega) K7.out.2.2.2.size)⟩
  clear hf8 K7
  go_wp2_with fail
  refine (H.out.1 _).mono ?_
  rintro x w9 ⟨vc, rfl, ha, hb9⟩
  have K9 : Hid (Tl ls w9 w8.heap.size vc (w9.alloc (.cells #[.int .i64 0, .int .i64 0] 32)) ∧ Tl ls w3 W2.heap.size vw (w9.alloc (.cells #[.int .i64 0, .int .i64 0] 32)) ∧ FB (w9.alloc (.cells #[.int .i64 0, .int .i64 0] 32)) w3.heap.size 0 0 ∧ FB (w9.alloc (.cells #[.int .i64 0, .int .i64 0] 32)) w9.heap.size 0 0 ∧ Below w.heap.size w (w9.alloc (.cells #[.int .i64 0, .int .i64 0] 32))) :=
    ⟨⟨ha, (Kp.refl w9 _).below ((Below.refl _ w9).alloc (Nat.le_refl _) _)⟩, K8.out.1.below (hb9.alloc hb9.size _), (K8.out.2.1.below hb9 K8.out.2.1.lt).allocs _, FB.new w9 0 0, (K8.out.2.2.trans (hb9.mono K8.out.2.2.size)).alloc (Nat.le_trans K8.out.2.2.size hb9.size) _⟩
  clear ha hb9 K8
  go_wp2_with fail
  generalize w9.alloc (.cells #[.int .i64 0, .int .i64 0] 32) = W9 at K9 ⊢
  refine (K9.out.1.lines K9.out.2.1 hl).mono ?_
  rintro x wA ⟨rfl, hbA⟩
  have KA : Hid (FB wA w3.heap.size 0 0 ∧ FB wA w9.heap.size 0 0 ∧ Below w.heap.size w wA) := ⟨K9.out.2.2.1.below hbA K9.out.2.2.1.lt, K9.out.2.2.2.1.below hbA K9.out.2.2.2.1.lt, K9.out.2.2.2.2.trans (hbA.mono K9.out.2.2.2.2.size)⟩
  clear hbA K9
  obtain ⟨a0, a1, -, -⟩ := KA.out.1.cells
  obtain ⟨b0, b1, -, -⟩ := KA.out.2.1.cells
  go_wp2
  go_ret
  exact ⟨rfl, KA.out.2.2⟩
set_option maxHeartbeats 8000000 in
theorem reads_no (s : ByteArray) (fa fe : Int) (hP : PNo s fa fe) (hQ : QNo s fa fe) (w : World) : Calls Tryz.prog 4 #[.string s] w fun x w' => x = .returned (.bool true) ∧ Below w.heap.size w w' := by
  have H : Hid (PNo s fa fe ∧ QNo s fa fe) := ⟨hP, hQ⟩
  clear hP hQ
  have HL : Hid (∀ W, Calls Tryz.prog 15 #[.slice none 0 0, .slice none 0 0, .bool true] W fun e w' => e = .returned (.bool true) ∧ Below W.heap.size W w') := fun W => lines_any 3 true W none none 0 0 0 0 [] [] (by omega) ⟨[], rfl, .inl rfl, trivial⟩ ⟨[], rfl, .inl rfl, trivial⟩ trivial
  go_enter Tryz.func4, Tryz.ntmps4
  go_wp2_with fail
  refine (shown_any _).mono ?_
  rintro x w0 ⟨rfl, hb0⟩
  have HB0 := hidm hb0
  clear hb0
  go_wp2_with fail
  refine (H.out.1.2 _).mono ?_
  rintro x w1 ⟨rfl, hb1⟩
  have H1 : Hid (FB (w1.alloc (.cells #[.int .i64 fa, .int .i64 fe] 32)) w1.heap.size fa fe ∧ Below w.heap.size w (w1.alloc (.cells #[.int .i64 fa, .int .i64 fe] 32))) :=
    ⟨FB.new w1 fa fe, (HB0.out.trans (hb1.mono HB0.out.size)).alloc (Nat.le_trans HB0.out.size hb1.size) _⟩
  clear hb1 HB0
  go_wp2_with fail
  generalize w1.alloc (.cells #[.int .i64 fa, .int .i64 fe] 32) = W1 at H1 ⊢
  refine (H.out.1.2 _).mono ?_
  rintro x w2 ⟨rfl, hb2⟩
  have H2 : Hid (FB (w2.alloc (.cells #[.int .i64 fa, .int .i64 fe] 32)) w1.heap.size fa fe ∧ FB (w2.alloc (.cells #[.int .i64 fa, .int .i64 fe] 32)) w2.heap.size fa fe ∧ Below w.heap.size w (w2.alloc (.cells #[.int .i64 fa, .int .i64 fe] 32))) :=
    ⟨(H1.out.1.below hb2 H1.out.1.lt).allocs _, FB.new w2 fa fe, (H1.out.2.trans (hb2.mono H1.out.2.size)).alloc (Nat.le_trans H1.out.2.size hb2.size) _⟩
  clear hb2 H1
  go_wp2_with fail
  generalize w2.alloc (.cells #[.int .i64 fa, .int .i64 fe] 32) = W2 at H2 ⊢
  refine (H.out.2 _).mono ?_
  rintro x w3 ⟨rfl, hb3⟩
  have H3 : Hid (FB (w3.alloc (.cells #[.int .i64 fa, .int .i64 fe] 32)) w1.heap.size fa fe ∧ FB (w3.alloc (.cells #[.int .i64 fa, .int .i64 fe] 32)) w2.heap.size fa fe ∧ FB (w3.alloc (.cells #[.int .i64 fa, .int .i64 fe] 32)) w3.heap.size fa fe ∧ Below w.heap.size w (w3.alloc (.cells #[.int .i64 fa, .int .i64 fe] 32))) :=
    ⟨(H2.out.1.below hb3 H2.out.1.lt).allocs _, (H2.out.2.1.below hb3 H2.out.2.1.lt).allocs _, FB.new w3 fa fe, (H2.out.2.2.trans (hb3.mono H2.out.2.2.size)).alloc (Nat.le_trans H2.out.2.2.size hb3.size) _⟩
  clear hb3 H2
  go_wp2_with fail
  generalize w3.alloc (.cells #[.int .i64 fa, .int .i64 fe] 32) = W3 at H3 ⊢
  refine (HL.out _).mono ?_
  rintro x w4 ⟨rfl, hb4⟩
  have H4 : Hid (FB w4 w1.heap.size fa fe ∧ FB w4 w2.heap.size fa fe ∧ FB w4 w3.heap.size fa fe ∧ Below w.heap.size w w4) :=
    ⟨H3.out.1.below hb4 H3.out.1.lt, H3.out.2.1.below hb4 H3.out.2.1.lt, H3.out.2.2.1.below hb4 H3.out.2.2.1.lt, H3.out.2.2.2.trans (hb4.mono H3.out.2.2.2.size)⟩
  clear hb4 H3
  go_wp2_with fail
  refine (HL.out _).mono ?_
  rintro x w5 ⟨rfl, hb5⟩
  have H5 : Hid (FB w5 w1.heap.size fa fe ∧ FB w5 w2.heap.size fa fe ∧ FB w5 w3.heap.size fa fe ∧ Below w.heap.size w w5) :=
    ⟨H4.out.1.below hb5 H4.out.1.lt, H4.out.2.1.below hb5 H4.out.2.1.lt, H4.out.2.2.1.below hb5 H4.out.2.2.1.lt, H4.out.2.2.2.trans (hb5.mono H4.out.2.2.2.size)⟩
  clear hb5 H4
  obtain ⟨a0, a1, -, -⟩ := H5.out.1.cells
  obtain ⟨b0, b1, -, -⟩ := H5.out.2.1.cells
  obtain ⟨g0, g1, -, -⟩ := H5.out.2.2.1.cells
  go_wp2_with fail
  refine (over_nil w5.heap.size w5.heap.size 900 _).mono ?_
  rintro x w6 ⟨rfl, hf6⟩
  have hb6 : Below w5.heap.size w5 w6 := hf6.below (Nat.le_refl _) (Nat.le_refl _)
  have H6 : Hid (FB w6 w3.heap.size fa fe ∧ Below w.heap.size w w6) := ⟨H5.out.2.2.1.below hb6 H5.out.2.2.1.lt, H5.out.2.2.2.trans (hb6.mono H5.out.2.2.2.size)⟩
  clear hf6 hb6 H5 a0 a1 b0 b1 g0 g1
  go_wp2_with fail
  refine (HL.out _).mono ?_
  rintro x w7 ⟨rfl, hb7⟩
  have H7 : Hid (FB w7 w3.heap.size fa fe ∧ Below w.heap.size w w7) := ⟨H6.out.1.below hb7 H6.out.1.lt, H6.out.2.trans (hb7.mono H6.out.2.size)⟩
  clear hb7 H6
  go_wp2_with fail
  refine (over_nil w7.heap.size w7.heap.size 800 _).mono ?_
  rintro x w8 ⟨rfl, hf8⟩
  have hb8 : Below w7.heap.size w7 w8 := hf8.below (Nat.le_refl _) (Nat.le_refl _)
  have H8 : Hid (FB w8 w3.heap.size fa fe ∧ Below w.heap.size w w8) := ⟨H7.out.1.below hb8 H7.out.1.lt, H7.out.2.trans (hb8.mono H7.out.2.size)⟩
  clear hf8 hb8 H7
  go_wp2_with fail
  refine (H.out.1.2 _).mono ?_
  rintro x w9 ⟨rfl, hb9⟩
  have H9 : Hid (FB (w9.alloc (.cells #[.int .i64 fa, .int .i64 fe] 32)) w3.heap.size fa fe ∧ FB (w9.alloc (.cells #[.int .i64 fa, .int .i64 fe] 32)) w9.heap.size fa fe ∧ Below w.heap.size w (w9.alloc (.cells #[.int .i64 fa, .int .i64 fe] 32))) :=
    ⟨(H8.out.1.below hb9 H8.out.1.lt).allocs _, FB.new w9 fa fe, (H8.out.2.trans (hb9.mono H8.out.2.size)).alloc (Nat.le_trans H8.out.2.size hb9.size) _⟩
  clear hb9 H8
  go_wp2_with fail
  generalize w9.alloc (.cells #[.int .i64 fa, .int .i64 fe] 32) = W9 at H9 ⊢
  refine (HL.out _).mono ?_
  rintro x wA ⟨rfl, hbA⟩
  have HA : Hid (FB wA w3.heap.size fa fe ∧ FB wA w9.heap.size fa fe ∧ Below w.heap.size w wA) := ⟨H9.out.1.below hbA H9.out.1.lt, H9.out.2.1.below hbA H9.out.2.1.lt, H9.out.2.2.trans (hbA.mono H9.out.2.2.size)⟩
  clear hbA H9
  obtain ⟨a0, a1, -, -⟩ := HA.out.1.cells
  obtain ⟨b0, b1, -, -⟩ := HA.out.2.1.cells
  go_wp2
  go_ret
  exact ⟨rfl, HA.out.2.2⟩
theorem reads_any (s : ByteArray) (w : World) : Calls Tryz.prog 4 #[.string s] w fun x w' => x = .returned (.bool true) ∧ Below w.heap.size w w' := by
  rcases both_parse s with ⟨fa, fe, h1, h2⟩ | ⟨ls, h1, h2, h3, h4⟩
  · exact reads_no s fa fe h1 h2 w
  · exact reads_yes s ls h1 h2 h3 h4 w
end Go.Proofs
namespace Go.Proofs.YtknaoahokopplaaGreatDoor
open Go.ChangeShapes Go.WideShapes Go.ChangeAt Go.RowKit Go.WideMaps Go.WideElems Go.Deep

theorem own : ownKnob Tryz.prog.godebug = none := by kernel_rfl
theorem witness_row_zip {H : Type} {enc : TypeId × Value → H} {C : Checked} {os : Os} {f : FuncId} {fn : Func} {s : OpenSpec} {conds : List PathCond} {apart : Bool} {laid : List (String × DataW Unit)} (modest : Bool) (w0 : World) (args : Array Value) (hos : w0.os = os)
    (hsh : (w0.forCall (fun _ _ => 0) ⟨#[], args, []⟩).Shaped C.prog)
    (hok : Input.okWideB C.prog (w0.forCall (fun _ _ => 0) ⟨#[], args, []⟩) f ⟨#[], args, []⟩ = true)
    (hrow : s.preRow enc C.prog fn conds apart laid (w0.forCall (fun _ _ => 0) ⟨#[], args, []⟩).memory args) :
    ∃ (w : World) (tape : Tape) (i : Input), w.os = os ∧ (w.forCall tape i).Shaped C.prog ∧ i.vars = [] ∧ Input.okWide C.prog (w.forCall tape i) .any w.heap.size f i ∧
      s.preRow enc C.prog fn conds apart laid (w.forCall tape i).memory i.args ∧ ({ modest := modest } : Assume).holds C.prog (lone (Frame.enter C.prog f i.args .normal) [] (w.forCall tape i)) :=
  ⟨w0, fun _ _ => 0, ⟨#[], args, []⟩, hos, hsh, (Input.okWide_of_okWideB (base := 0) hok).1, (Input.okWide_of_okWideB hok).2, hrow, by
    simp only [Assume.holds]
    exact ⟨by simp, by simp, fun _ => Modest.zero, by simp, by simp⟩⟩
end Go.Proofs.YtknaoahokopplaaGreatDoor
