/-
  Two lists of the same tokens are the same.
-/
import Derived.Shelf.Abstract
import Derived.Shelf.RegionOpen
import Derived.WalkKit
import Derived.WalkSpells
import Derived.WalkLawsBesides
import Derived.BigQuiet
import Derived.Deep.QuietTactic
import Derived.Deep.LoopGhost
import Derived.Lib.OthersKept
import Derived.ScopeJumps
import Derived.WalkMore
import Derived.Maps.AppendAt
import Derived.Lib.SmallJoins
import Derived.Shelf.SlSorted.Search
import Derived.Shelf.SlSortCmp.QuietGrown
import Derived.Deep.DrawnRows
import Derived.Test.YtknaoahokopplaaGreatDoorXgc
namespace Go.Proofs
open Go.RowKit Go.Shelf

set_option maxRecDepth 100000
attribute [local go_sem] Oper.semAt_some


def Grown (w w' : World) : Prop := ∃ q os, w' = Go.Sort.grow (w.drewN q) os
theorem Grown.refl (w : World) : Grown w w := ⟨0, #[], (Go.Sort.grow_empty _).symm⟩
theorem Grown.trans {w w1 w2 : World} (h : Grown w w1) (k : Grown w1 w2) : Grown w w2 := by
  obtain ⟨q, os, rfl⟩ := h
  obtain ⟨q', os', rfl⟩ := k
  refine ⟨q + q', os ++ os', ?_⟩
  show Go.Sort.grow (Go.Sort.grow ((w.drewN q).drewN q') os) os' = _
  rw [Go.Sort.grow_grow, World.drewN_drewN]
theorem Grown.alloc {w w1 : World} (h : Grown w w1) (o : Obj) : Grown w (w1.alloc o) := h.trans ⟨0, #[o], by rw [Go.Sort.alloc_eq_grow]; rfl⟩
theorem Grown.drewN {w w1 : World} (h : Grown w w1) (n : Nat) : Grown w (w1.drewN n) := h.trans ⟨n, #[], (Go.Sort.grow_empty _).symm⟩
theorem Grown.below {w w' : World} (h : Grown w w') : Below w.heap.size w w' := by
  obtain ⟨q, os, rfl⟩ := h
  exact below_grown_sl _ w q os (Nat.le_refl _)
theorem Grown.cell {w w' : World} (h : Grown w w') {a : Addr} (ha : a.block < w.heap.size) : w'.cell? a = w.cell? a := h.below.cell ha
theorem Grown.cellv {w w' : World} (h : Grown w w') {a : Addr} {v : Value} (hv : w.cell? a = some v) : w'.cell? a = some v := by
  obtain ⟨o, ho, _⟩ := cells_of_cell hv
  rw [h.cell (Array.getElem?_eq_some_iff.1 ho).1]; exact hv
/-- tokens lie in a block from its beginning on -/
def ReadsT (w : World) (g : Nat) (l : List Tok) : Prop := ∀ j x, l[j]? = some x → w.cell? ⟨g, j * 6, none⟩ = some (.int .i64 x.k) ∧ w.cell? ⟨g, j * 6 + 1, none⟩ = some (.int .i64 x.a) ∧ w.cell? ⟨g, j * 6 + 2, none⟩ = some (.int .i64 x.l) ∧ w.cell? ⟨g, j * 6 + 3, none⟩ = some (.int .i64 x.u) ∧ w.cell? ⟨g, j * 6 + 4, none⟩ = some (.string x.t) ∧ w.cell? ⟨g, j * 6 + 5, none⟩ = some (.int .i64 x.n)
def RT (w : World) (v : Value) (l : List Tok) : Prop := ∃ (A : Option Addr) (c : Nat), v = .slice A l.length c ∧ (l = [] ∨ ∃ g, A = some ⟨g, 0, none⟩ ∧ ReadsT w g l)
theorem ft_at (l : List Tok) {j : Nat} {x : Tok} (hj : l[j]? = some x) : (ft l)[j * 6]? = some (.int .i64 x.k) ∧ (ft l)[j * 6 + 1]? = some (.int .i64 x.a) ∧ (ft l)[j * 6 + 2]? = some (.int .i64 x.l) ∧ (ft l)[j * 6 + 3]? = some (.int .i64 x.u) ∧ (ft l)[j * 6 + 4]? = some (.string x.t) ∧ (ft l)[j * 6 + 5]? = some (.int .i64 x.n) := by
  induction l generalizing j with
  | nil => simp at hj
  | cons a l ih =>
    cases j with
    | zero => simp at hj; subst hj; simp [ft, tok1]
    | succ j =>
      have := ih (j := j) (by simpa using hj)
      rw [show (j + 1) * 6 = j * 6 + 6 by omega]
      simpa [ft, tok1] using this
theorem add_zero_at' (g j : Nat) : (⟨g, 0, none⟩ : Addr).add j = ⟨g, j, none⟩ := by
  unfold Addr.add
  by_cases h : j = 0
  · subst h; rfl
  · simp [h]
theorem OwnT.rt {w : World} {base : Nat} {v : Value} {l : List Tok} (h : OwnT w base v l) : RT w v l := by
  rcases h.2 with ⟨rfl, h0⟩ | ⟨g, cap, cur, rfl, _, _, hc, _⟩
  · have : l = [] := List.eq_nil_of_length_eq_zero h0
    subst this
    exact ⟨none, 0, rfl, .inl rfl⟩
  · refine ⟨_, cap, rfl, .inr ⟨g, rfl, fun j x hj => ?_⟩⟩
    have h1 := h.cells rfl
    obtain ⟨a0, a1, a2, a3, a4, a5⟩ := ft_at l hj
    have b0 := h1 _ _ a0
    have b1 := h1 _ _ a1
    have b2 := h1 _ _ a2
    have b3 := h1 _ _ a3
    have b4 := h1 _ _ a4
    have b5 := h1 _ _ a5
    rw [add_zero_at'] at b0 b1 b2 b3 b4 b5
    exact ⟨b0, b1, b2, b3, b4, b5⟩
theorem ReadsT.below {w w' : World} {n g : Nat} {l : List Tok} (h : ReadsT w g l) (hb : Below n w w') (hn : g < n) : ReadsT w' g l := fun j x hj => by
  obtain ⟨a0, a1, a2, a3, a4, a5⟩ := h j x hj
  exact ⟨(hb.cell (p := ⟨g, _, none⟩) hn).trans a0, (hb.cell (p := ⟨g, _, none⟩) hn).trans a1, (hb.cell (p := ⟨g, _, none⟩) hn).trans a2, (hb.cell (p := ⟨g, _, none⟩) hn).trans a3, (hb.cell (p := ⟨g, _, none⟩) hn).trans a4, (hb.cell (p := ⟨g, _, none⟩) hn).trans a5⟩
theorem ReadsT.lt {w : World} {g : Nat} {l : List Tok} (h : ReadsT w g l) (h0 : l ≠ []) : g < w.heap.size := by
  cases l with
  | nil => exact absurd rfl h0
  | cons x l =>
    obtain ⟨o, ho, _⟩ := cells_of_cell (h 0 x rfl).1
    exact (Array.getElem?_eq_some_iff.1 ho).1
theorem RT.below {w w' : World} {n : Nat} {v : Value} {l : List Tok} (h : RT w v l) (hb : Below n w w') (hn : w.heap.size ≤ n) : RT w' v l := by
  obtain ⟨A, c, rfl, h⟩ := h
  refine ⟨A, c, rfl, ?_⟩
  by_cases hl : l = []
  · exact .inl hl
  · obtain ⟨g, rfl, hr⟩ := h.resolve_left hl
    exact .inr ⟨g, rfl, hr.below hb (Nat.lt_of_lt_of_le (hr.lt hl) hn)⟩
theorem neq34 (x : Tok) (w : World) : (binOp .neq 52 (tk x.k x.a x.l x.u x.t x.n) (tk x.k x.a x.l x.u x.t x.n)).run Tryz.prog w = .ok (.bool false) w := by
  go_simp
  try simp
set_option maxHeartbeats 2000000 in
theorem same_walk (g h c d n : Nat) (l : List Tok) (w : World) (hn : l.length = n) (hn5 : n ≤ 9223372036854775807) (h1 : ReadsT w g l) (h2 : ReadsT w h l) :
    Calls Tryz.prog 25 #[.slice (some ⟨g, 0, none⟩) n c, .slice (some ⟨h, 0, none⟩) n d] w fun e w' => e = .returned (.bool true) ∧ Grown w w' := by
  have H1 : Hid (ReadsT w g l) := h1
  have H2 : Hid (ReadsT w h l) := h2
  clear h1 h2
  go_enter Tryz.func25, Tryz.ntmps25
  go_wp2
  go_loopw [13] (fun vi wr => ∃ k : Nat, vi = .int .i64 k ∧ k ≤ n ∧ Grown w wr) (fun vi _ => n - (intOf vi).toNat)
  case atStart => exact ⟨0, rfl, by omega, Grown.refl _⟩
  case round =>
    obtain ⟨k, rfl, hk, hG⟩ := hrel
    have HG : Hid (Grown w wr) := hG
    by_cases hkn : k = n
    · subst hkn
      clear hG
      go_wp2
      go_ret
      exact ⟨rfl, HG.out⟩
    · obtain ⟨x, hx⟩ : ∃ x, l[k]? = some x := ⟨l[k]'(by omega), List.getElem?_eq_getElem (by omega)⟩
      obtain ⟨a0, a1, a2, a3, a4, a5⟩ := H1.out k x hx
      obtain ⟨b0, b1, b2, b3, b4, b5⟩ := H2.out k x hx
      have hne := neq34 x
      obtain ⟨xk, xa, xl, xu, xt, xn⟩ := x
      simp only at a0 a1 a2 a3 a4 a5 b0 b1 b2 b3 b4 b5 hne
      replace a0 := hG.cellv a0
      replace a1 := hG.cellv a1
      replace a2 := hG.cellv a2
      replace a3 := hG.cellv a3
      replace a4 := hG.cellv a4
      replace a5 := hG.cellv a5
      replace b0 := hG.cellv b0
      replace b1 := hG.cellv b1
      replace b2 := hG.cellv b2
      replace b3 := hG.cellv b3
      replace b4 := hG.cellv b4
      replace b5 := hG.cellv b5
      clear hG hx
      go_wp2
      go_quiet (fail)
      go_wp2
      exact ⟨⟨k + 1, by go_num, by omega, HG.out.drewN _⟩, by simp [intOf]; omega⟩
set_option maxHeartbeats 2000000 in
theorem same_nil (a b : Option Addr) (c d : Nat) (w : World) : Calls Tryz.prog 25 #[.slice a 0 c, .slice b 0 d] w fun e w' => e = .returned (.bool true) ∧ Grown w w' := by
  go_enter Tryz.func25, Tryz.ntmps25
  go_wp2
  refine wp_loop_rounds 1 ?_
  rw [rounds_succ]
  go_wp2
  go_ret
  exact ⟨rfl, Grown.refl _⟩
theorem same_any (v u : Value) (l : List Tok) (w : World) (hn : l.length ≤ 9223372036854775807) (h1 : RT w v l) (h2 : RT w u l) : Calls Tryz.prog 25 #[v, u] w fun e w' => e = .returned (.bool true) ∧ Grown w w' := by
  obtain ⟨a, c, rfl, h1⟩ := h1
  obtain ⟨b, d, rfl, h2⟩ := h2
  by_cases hl : l = []
  · subst hl
    exact same_nil a b c d w
  · obtain ⟨g, rfl, r1⟩ := h1.resolve_left hl
    obtain ⟨h, rfl, r2⟩ := h2.resolve_left hl
    exact same_walk g h c d _ l w rfl hn r1 r2
end Go.Proofs
