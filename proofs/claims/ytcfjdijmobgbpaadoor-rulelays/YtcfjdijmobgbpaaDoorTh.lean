/-
  RuleSame: what lies where; rules that are lent in any order.
-/
import Derived.RangeFuncNested
import Derived.RangeFuncBound
import Derived.RangeFuncCalls
import Derived.RangeFuncLeaves
import Derived.Shelf.Abstract
import Derived.Shelf.RegionOpen
import Derived.WalkKit
import Derived.WalkSpells
import Derived.WalkLawsBesides
import Derived.OwnWalkIn
import Derived.TacticsInMore
import Derived.LoopNIn
import Derived.LoopIn
import Derived.BigQuiet
import Derived.RegionIn
import Derived.Deep.QuietTactic
import Derived.Deep.RegionWith
import Derived.Lib.OthersKept
import Derived.Maps.AppendAt
import Derived.Lib.SmallJoins
import Derived.Shelf.SlSortCmp.QuietGrown
import Derived.Test.YtcfjdijmobgbpaaDoorTg
import Derived.Test.YtcfjdijmobgbpaaDoorZd
import Derived.Test.YtcfjdijmobgbpaaDoorGg
namespace Go.Proofs
open Go.RowKit Go.Shelf

set_option maxRecDepth 100000
attribute [local go_sem] Oper.semAt_some
attribute [local go_sem ↓] Go.wp_at_zero Go.wp_at_succ
/-- a rule that came in, with all its values -/
structure RI where
  r : Rl
  av : Value
  kv : Value
  pv : Value
  rv : Value
  sa : List Value
  sk : List Value
  sp : List Value
  tv : List Value
/-- a rule's value -/
def lval (r : Rl) (a k p q : Value) : Value := .agg #[.bool r.bg, a, k, p, .bool r.en, q, .int .i64 r.cu]
def RI.In (x : RI) (w : World) : Prop := RRv w x.av x.kv x.pv x.rv x.sa x.sk x.sp x.tv x.r
theorem RI.In.below {x : RI} {w w' : World} {n : Nat} (h : x.In w) (hb : Below n w w') (hn : w.heap.size ≤ n) : x.In w' := RRv.below h hb hn
/-- what was lent of it -/
def RI.Lent (x : RI) (W : World) (base : Nat) (a k p q : Value) : Prop := LRl W base a k p q x.av x.kv x.pv x.rv x.sa x.sk x.sp x.tv x.r
theorem RI.Lent.below {x : RI} {W W' : World} {base n : Nat} {a k p q : Value} (h : x.Lent W base a k p q) (hb : Below n W W') (hn : W.heap.size ≤ n) : x.Lent W' base a k p q := LRl.below h hb hn
theorem RI.Lent.rr {x : RI} {W w : World} {base : Nat} {a k p q : Value} (h : x.Lent W base a k p q) (hi : x.In w) : RR W a k p q x.r := LRl.rr h hi
/-- one block turns -/
def Turns (B : Nat) (W W' : World) : Prop := ∀ b, b ≠ B → W'.heap[b]? = W.heap[b]?
theorem turns_set (W : World) (B j : Nat) (u : Value) : Turns B W (W.setCell ⟨B, j, none⟩ u) := fun b hb => by
  show (W.heap.modify B _)[b]? = _
  rw [Array.getElem?_modify, if_neg (fun e => hb e.symm)]
theorem Turns.trans {B : Nat} {W W1 W2 : World} (h : Turns B W W1) (k : Turns B W1 W2) : Turns B W W2 := fun b hb => (k b hb).trans (h b hb)
theorem ownsRow_turn {W W' : World} {B base : Nat} {e : TypeId} {size m : Nat} {v : Value} {xs : List Value} {cs : Array Value} {mm : Nat × Nat} (h : W.ownsRow base e size v m xs) (hB : W.heap[B]? = some (.cells cs 25 mm)) (he : e ≠ 25) (k : Turns B W W') : W'.ownsRow base e size v m xs := by
  refine ⟨h.1, ?_⟩
  rcases h.2 with h | ⟨g, cap, cur, e1, h1, h2, h3⟩
  · exact .inl h
  · refine .inr ⟨g, cap, cur, e1, h1, (k g ?_).trans h2, h3⟩
    rintro rfl
    rw [hB] at h2
    cases h2
    exact he rfl
section
variable {W W' : World} {B base : Nat} {cs : Array Value} {mm : Nat × Nat}
theorem LS.turn {ov sv : Value} {l : List (Int × Int)} (h : LS W base ov sv l) (hB : W.heap[B]? = some (.cells cs 25 mm)) (k : Turns B W W') : LS W' base ov sv l := by
  rcases h with h | ⟨h1, g, cap, h2, h3, h4⟩
  · exact .inl h
  · exact .inr ⟨h1, g, cap, h2, h3, ownsRow_turn h4 hB (by decide) k⟩
theorem LR.turn {ov v : Value} {svs : List Value} {ls : List (List (Int × Int))} (h : LR W base ov v svs ls) (hB : W.heap[B]? = some (.cells cs 25 mm)) {x : Bool} (h0 : cs[0]? = some (.bool x)) (k : Turns B W W') : LR W' base ov v svs ls := by
  rcases h with h | ⟨h1, g, cap, ovs, gm, h2, h3, h4, h5, h6, hgm, h7⟩
  · exact .inl h
  · refine .inr ⟨h1, g, cap, ovs, gm, h2, h3, h4, ownsRow_turn h5 hB (by decide) k, ?_, hgm, fun j a b c => (h7 j a b c).turn hB k⟩
    have hne : gm ≠ B := by
      rintro rfl
      simp only [World.cell?, hB] at h6
      simp [h0] at h6
    have := k gm hne
    simp only [World.cell?] at h6 ⊢
    rw [this]
    exact h6
theorem LP.turn {ov v : Value} {tvs : List Value} {ps : List Pc} (h : LP W base ov v tvs ps) (hB : W.heap[B]? = some (.cells cs 25 mm)) (k : Turns B W W') : LP W' base ov v tvs ps := by
  rcases h with h | ⟨h1, g, cap, es, h2, h3, h4, h5, h6⟩
  · exact .inl h
  · exact .inr ⟨h1, g, cap, es, h2, h3, h4, ownsRow_turn h5 hB (by decide) k, fun j a b => (h6 j a b).turn hB k⟩
theorem RI.Lent.turn {x : RI} {a k p q : Value} (h : x.Lent W base a k p q) (hB : W.heap[B]? = some (.cells cs 25 mm)) {y : Bool} (h0 : cs[0]? = some (.bool y)) (t : Turns B W W') : x.Lent W' base a k p q := ⟨h.a.turn hB h0 t, h.k.turn hB h0 t, h.p.turn hB h0 t, h.r.turn hB t⟩
end
def zeroC : Array Value := #[.bool false, .slice none 0 0, .slice none 0 0, .slice none 0 0, .bool false, .slice none 0 0, .int .i64 0]
def rcA (r : Rl) (a k p q : Value) : Array Value := #[.bool r.bg, a, k, p, .bool r.en, q, .int .i64 r.cu]
/-- a rule is stored into a block -/
def set7 (W : World) (B : Nat) (r : Rl) (a k p q : Value) : World := ((((((W.setCell ⟨B, 0, none⟩ (.bool r.bg)).setCell ⟨B, 1, none⟩ a).setCell ⟨B, 2, none⟩ k).setCell ⟨B, 3, none⟩ p).setCell ⟨B, 4, none⟩ (.bool r.en)).setCell ⟨B, 5, none⟩ q).setCell ⟨B, 6, none⟩ (.int .i64 r.cu)
theorem set7_turns (W : World) (B : Nat) (r : Rl) (a k p q : Value) : Turns B W (set7 W B r a k p q) := ((((((turns_set _ _ _ _).trans (turns_set _ _ _ _)).trans (turns_set _ _ _ _)).trans (turns_set _ _ _ _)).trans (turns_set _ _ _ _)).trans (turns_set _ _ _ _)).trans (turns_set _ _ _ _)
theorem set7_below {w W : World} {n B : Nat} (h : Below n w W) (hB : n ≤ B) (r : Rl) (a k p q : Value) : Below n w (set7 W B r a k p q) :=
  ((((((h.setCell (p := ⟨B, 0, none⟩) hB _).setCell (p := ⟨B, 1, none⟩) hB _).setCell (p := ⟨B, 2, none⟩) hB _).setCell (p := ⟨B, 3, none⟩) hB _).setCell (p := ⟨B, 4, none⟩) hB _).setCell (p := ⟨B, 5, none⟩) hB _).setCell (p := ⟨B, 6, none⟩) hB _
theorem set7_heap {W : World} {B : Nat} (h : W.heap[B]? = some (.cells zeroC 25 (0, 0))) (r : Rl) (a k p q : Value) : (set7 W B r a k p q).heap[B]? = some (.cells (rcA r a k p q) 25 (0, 0)) := by
  have v0 : W.heap[B]? = some (.cells #[.bool false, .slice none 0 0, .slice none 0 0, .slice none 0 0, .bool false, .slice none 0 0, .int .i64 0] 25 (0, 0)) := h
  have v1 := cells_setS (j := 0) (u := .bool r.bg) v0
  have v2 := cells_setS (j := 1) (u := a) v1
  have v3 := cells_setS (j := 2) (u := k) v2
  have v4 := cells_setS (j := 3) (u := p) v3
  have v5 := cells_setS (j := 4) (u := .bool r.en) v4
  have v6 := cells_setS (j := 5) (u := q) v5
  have v7 := cells_setS (j := 6) (u := .int .i64 r.cu) v6
  simpa [set7, rcA] using v7
/-- a store of a rule -/
theorem step_store7 {ops : Array Oper} {o : Oper} {a : Act} {w : World} {K : Act → World → Prop} {Q : Exit → Act → World → Prop} {E : Prop} (hg : o.guard = none) (hd : o.dst = none) (i j : Tmp) (ho : o.op = .store 25 (.tmp i) (.tmp j)) (B : Nat) (r : Rl) (a1 k1 p1 q1 : Option Addr) (a2 a3 k2 k3 p2 p3 q2 q3 : Nat)
    (hp : a.tmps.getD i undef = .pointer (some ⟨B, 0, none⟩)) (hx : a.tmps.getD j undef = lval r (.slice a1 a2 a3) (.slice k1 k2 k3) (.slice p1 p2 p3) (.slice q1 q2 q3)) (hB : w.heap[B]? = some (.cells zeroC 25 (0, 0)))
    (h : ∀ v, K (a.put o.dst v) (set7 w B r (.slice a1 a2 a3) (.slice k1 k2 k3) (.slice p1 p2 p3) (.slice q1 q2 q3))) : if Region.wanted o (yielded ops a.tmps) = true then Oper.wp Tryd.prog o a w K Q else E := by
  have hw : Region.wanted o (yielded ops a.tmps) = true := by simp [Region.wanted, hg]
  rw [if_pos hw]
  have v0 : w.heap[B]? = some (.cells #[.bool false, .slice none 0 0, .slice none 0 0, .slice none 0 0, .bool false, .slice none 0 0, .int .i64 0] 25 (0, 0)) := hB
  have v1 : (w.setCell ⟨B, 0, none⟩ (.bool r.bg)).heap[B]? = some (.cells #[.bool r.bg, .slice none 0 0, .slice none 0 0, .slice none 0 0, .bool false, .slice none 0 0, .int .i64 0] 25 (0, 0)) := by simpa using cells_setS (j := 0) (u := .bool r.bg) v0
  have v2 : ((w.setCell ⟨B, 0, none⟩ (.bool r.bg)).setCell ⟨B, 1, none⟩ (.slice a1 a2 a3)).heap[B]? = some (.cells #[.bool r.bg, .slice a1 a2 a3, .slice none 0 0, .slice none 0 0, .bool false, .slice none 0 0, .int .i64 0] 25 (0, 0)) := by simpa using cells_setS (j := 1) (u := .slice a1 a2 a3) v1
  have v3 : (((w.setCell ⟨B, 0, none⟩ (.bool r.bg)).setCell ⟨B, 1, none⟩ (.slice a1 a2 a3)).setCell ⟨B, 2, none⟩ (.slice k1 k2 k3)).heap[B]? = some (.cells #[.bool r.bg, .slice a1 a2 a3, .slice k1 k2 k3, .slice none 0 0, .bool false, .slice none 0 0, .int .i64 0] 25 (0, 0)) := by simpa using cells_setS (j := 2) (u := .slice k1 k2 k3) v2
  have v4 : ((((w.setCell ⟨B, 0, none⟩ (.bool r.bg)).setCell ⟨B, 1, none⟩ (.slice a1 a2 a3)).setCell ⟨B, 2, none⟩ (.slice k1 k2 k3)).setCell ⟨B, 3, none⟩ (.slice p1 p2 p3)).heap[B]? = some (.cells #[.bool r.bg, .slice a1 a2 a3, .slice k1 k2 k3, .slice p1 p2 p3, .bool false, .slice none 0 0, .int .i64 0] 25 (0, 0)) := by simpa using cells_setS (j := 3) (u := .slice p1 p2 p3) v3
  have v5 : (((((w.setCell ⟨B, 0, none⟩ (.bool r.bg)).setCell ⟨B, 1, none⟩ (.slice a1 a2 a3)).setCell ⟨B, 2, none⟩ (.slice k1 k2 k3)).setCell ⟨B, 3, none⟩ (.slice p1 p2 p3)).setCell ⟨B, 4, none⟩ (.bool r.en)).heap[B]? = some (.cells #[.bool r.bg, .slice a1 a2 a3, .slice k1 k2 k3, .slice p1 p2 p3, .bool r.en, .slice none 0 0, .int .i64 0] 25 (0, 0)) := by simpa using cells_setS (j := 4) (u := .bool r.en) v4
  have v6 : ((((((w.setCell ⟨B, 0, none⟩ (.bool r.bg)).setCell ⟨B, 1, none⟩ (.slice a1 a2 a3)).setCell ⟨B, 2, none⟩ (.slice k1 k2 k3)).setCell ⟨B, 3, none⟩ (.slice p1 p2 p3)).setCell ⟨B, 4, none⟩ (.bool r.en)).setCell ⟨B, 5, none⟩ (.slice q1 q2 q3)).heap[B]? = some (.cells #[.bool r.bg, .slice a1 a2 a3, .slice k1 k2 k3, .slice p1 p2 p3, .bool r.en, .slice q1 q2 q3, .int .i64 0] 25 (0, 0)) := by simpa using cells_setS (j := 5) (u := .slice q1 q2 q3) v5
  have v7 : (((((((w.setCell ⟨B, 0, none⟩ (.bool r.bg)).setCell ⟨B, 1, none⟩ (.slice a1 a2 a3)).setCell ⟨B, 2, none⟩ (.slice k1 k2 k3)).setCell ⟨B, 3, none⟩ (.slice p1 p2 p3)).setCell ⟨B, 4, none⟩ (.bool r.en)).setCell ⟨B, 5, none⟩ (.slice q1 q2 q3)).setCell ⟨B, 6, none⟩ (.int .i64 r.cu)).heap[B]? = some (.cells #[.bool r.bg, .slice a1 a2 a3, .slice k1 k2 k3, .slice p1 p2 p3, .bool r.en, .slice q1 q2 q3, .int .i64 r.cu] 25 (0, 0)) := by simpa using cells_setS (j := 6) (u := .int .i64 r.cu) v6
  have g0 : w.cell? ⟨B, 0, none⟩ = some (.bool false) := by simp only [World.cell?, v0]; rfl
  have k0' : w.frozen? ⟨B, 0, none⟩ = false := by simp [World.frozen?, v0]
  have g1 : (w.setCell ⟨B, 0, none⟩ (.bool r.bg)).cell? ⟨B, 1, none⟩ = some (.slice none 0 0) := by simp only [World.cell?, v1]; rfl
  have k1' : (w.setCell ⟨B, 0, none⟩ (.bool r.bg)).frozen? ⟨B, 1, none⟩ = false := by simp [World.frozen?, v1]
  have g2 : ((w.setCell ⟨B, 0, none⟩ (.bool r.bg)).setCell ⟨B, 1, none⟩ (.slice a1 a2 a3)).cell? ⟨B, 2, none⟩ = some (.slice none 0 0) := by simp only [World.cell?, v2]; rfl
  have k2' : ((w.setCell ⟨B, 0, none⟩ (.bool r.bg)).setCell ⟨B, 1, none⟩ (.slice a1 a2 a3)).frozen? ⟨B, 2, none⟩ = false := by simp [World.frozen?, v2]
  have g3 : (((w.setCell ⟨B, 0, none⟩ (.bool r.bg)).setCell ⟨B, 1, none⟩ (.slice a1 a2 a3)).setCell ⟨B, 2, none⟩ (.slice k1 k2 k3)).cell? ⟨B, 3, none⟩ = some (.slice none 0 0) := by simp only [World.cell?, v3]; rfl
  have k3' : (((w.setCell ⟨B, 0, none⟩ (.bool r.bg)).setCell ⟨B, 1, none⟩ (.slice a1 a2 a3)).setCell ⟨B, 2, none⟩ (.slice k1 k2 k3)).frozen? ⟨B, 3, none⟩ = false := by simp [World.frozen?, v3]
  have g4 : ((((w.setCell ⟨B, 0, none⟩ (.bool r.bg)).setCell ⟨B, 1, none⟩ (.slice a1 a2 a3)).setCell ⟨B, 2, none⟩ (.slice k1 k2 k3)).setCell ⟨B, 3, none⟩ (.slice p1 p2 p3)).cell? ⟨B, 4, none⟩ = some (.bool false) := by simp only [World.cell?, v4]; rfl
  have k4' : ((((w.setCell ⟨B, 0, none⟩ (.bool r.bg)).setCell ⟨B, 1, none⟩ (.slice a1 a2 a3)).setCell ⟨B, 2, none⟩ (.slice k1 k2 k3)).setCell ⟨B, 3, none⟩ (.slice p1 p2 p3)).frozen? ⟨B, 4, none⟩ = false := by simp [World.frozen?, v4]
  have g5 : (((((w.setCell ⟨B, 0, none⟩ (.bool r.bg)).setCell ⟨B, 1, none⟩ (.slice a1 a2 a3)).setCell ⟨B, 2, none⟩ (.slice k1 k2 k3)).setCell ⟨B, 3, none⟩ (.slice p1 p2 p3)).setCell ⟨B, 4, none⟩ (.bool r.en)).cell? ⟨B, 5, none⟩ = some (.slice none 0 0) := by simp only [World.cell?, v5]; rfl
  have k5' : (((((w.setCell ⟨B, 0, none⟩ (.bool r.bg)).setCell ⟨B, 1, none⟩ (.slice a1 a2 a3)).setCell ⟨B, 2, none⟩ (.slice k1 k2 k3)).setCell ⟨B, 3, none⟩ (.slice p1 p2 p3)).setCell ⟨B, 4, none⟩ (.bool r.en)).frozen? ⟨B, 5, none⟩ = false := by simp [World.frozen?, v5]
  have g6 : ((((((w.setCell ⟨B, 0, none⟩ (.bool r.bg)).setCell ⟨B, 1, none⟩ (.slice a1 a2 a3)).setCell ⟨B, 2, none⟩ (.slice k1 k2 k3)).setCell ⟨B, 3, none⟩ (.slice p1 p2 p3)).setCell ⟨B, 4, none⟩ (.bool r.en)).setCell ⟨B, 5, none⟩ (.slice q1 q2 q3)).cell? ⟨B, 6, none⟩ = some (.int .i64 0) := by simp only [World.cell?, v6]; rfl
  have k6' : ((((((w.setCell ⟨B, 0, none⟩ (.bool r.bg)).setCell ⟨B, 1, none⟩ (.slice a1 a2 a3)).setCell ⟨B, 2, none⟩ (.slice k1 k2 k3)).setCell ⟨B, 3, none⟩ (.slice p1 p2 p3)).setCell ⟨B, 4, none⟩ (.bool r.en)).setCell ⟨B, 5, none⟩ (.slice q1 q2 q3)).frozen? ⟨B, 6, none⟩ = false := by simp [World.frozen?, v6]
  have hh : ∀ v, K (a.put o.dst v) (((((((w.setCell ⟨B, 0, none⟩ (.bool r.bg)).setCell ⟨B, 1, none⟩ (.slice a1 a2 a3)).setCell ⟨B, 2, none⟩ (.slice k1 k2 k3)).setCell ⟨B, 3, none⟩ (.slice p1 p2 p3)).setCell ⟨B, 4, none⟩ (.bool r.en)).setCell ⟨B, 5, none⟩ (.slice q1 q2 q3)).setCell ⟨B, 6, none⟩ (.int .i64 r.cu)) := h
  unfold lval at hx
  clear v0 v1 v2 v3 v4 v5 v6 v7 hB hw h
  obtain ⟨dst, op, type, pos, after, guard⟩ := o
  simp only at ho hg hd hh
  subst ho hg hd
  simp only [Array.getD_eq_getD_getElem?] at hp hx
  go_simp
  exact hh undef
end Go.Proofs
