/-
  The book of sets that were handed out: what lies where; holds.
-/
import Derived.RangeFuncNested
import Derived.RangeFuncBound
import Derived.RangeFuncCalls
import Derived.RangeFuncLeaves
import Derived.Shelf.Abstract
import Derived.Shelf.RegionOpen
import Derived.WalkKit
import Derived.WalkSpells
import Derived.WalkLawsBesides
import Derived.OwnWalkIn
import Derived.TacticsInMore
import Derived.LoopNIn
import Derived.LoopIn
import Derived.BigQuiet
import Derived.RegionIn
import Derived.Deep.QuietTactic
import Derived.Deep.RegionWith
import Derived.Lib.OthersKept
import Derived.Maps.AppendAt
import Derived.Maps.OwnIn
import Derived.Lib.SmallJoins
import Derived.Test.YtmgkolelcflcbaaDoorB0
namespace Go.Proofs
open Go.RowKit Go.Shelf

set_option maxRecDepth 100000
attribute [local go_sem] Oper.semAt_some
attribute [local go_sem ↓] Go.wp_at_zero Go.wp_at_succ
/-- a list that was handed out, what it must read as, and what both read -/
structure BE where
  o : Value
  w : Value
  l : List (Int × Int)
def blO (v : Value) : List Nat := v.ownBlock.toList
def blksO (es : List BE) : List Nat := es.flatMap fun e => blO e.o ++ blO e.w
/-- what the lists must read as lies in blocks of their own -/
def AW (es : List BE) : Prop := ∀ (i j : Nat) (e e' : BE) (b : Nat), es[i]? = some e → es[j]? = some e' → e.w.ownBlock = some b → (i ≠ j → e'.w.ownBlock ≠ some b) ∧ e'.o.ownBlock ≠ some b
/-- lists from u to t lie in blocks of their own -/
def AO (es : List BE) (u t : Nat) : Prop := ∀ (i j : Nat) (e e' : BE) (b : Nat), u ≤ i → i < t → i ≠ j → es[i]? = some e → es[j]? = some e' → e.o.ownBlock = some b → e'.o.ownBlock ≠ some b
/-- the book in memory -/
structure Bok (W : World) (base hb : Nat) (ov wv : Value) (es : List BE) (f u t : Nat) : Prop where
  bk : W.heap[hb]? = some (.cells #[ov, wv, .int .i64 f] 27 (0, 0))
  hb : base ≤ hb
  out : W.ownsRow base 29 1 ov es.length (es.map BE.o)
  want : W.ownsRow base 29 1 wv es.length (es.map BE.w)
  ro : ∀ e ∈ es, OwnS W base e.o e.l
  rw : ∀ e ∈ es, OwnR W base e.w e.l
  aw : AW es
  ao : AO es u t
  ow : ov.ownBlock = none ∨ ov.ownBlock ≠ wv.ownBlock
  few : es.length ≤ 100
  sm : ∀ e ∈ es, e.l.length ≤ 900000
  fr : f ≤ es.length
section
variable {W W' : World} {base hb f u t : Nat} {ov wv : Value} {es : List BE}
theorem Bok.stays (h : Bok W base hb ov wv es f u t) (k : ∀ b cur y, base ≤ b → (y = 38 ∨ y = 29 ∨ y = 27) → W.heap[b]? = some (.cells cur y (0, 0)) → W'.heap[b]? = some (.cells cur y (0, 0))) : Bok W' base hb ov wv es f u t :=
  ⟨k _ _ _ h.hb (.inr (.inr rfl)) h.bk, h.hb, ownR_stays h.out fun b cur _ h1 h2 => k b cur 29 h1 (.inr (.inl rfl)) h2, ownR_stays h.want fun b cur _ h1 h2 => k b cur 29 h1 (.inr (.inl rfl)) h2, fun e he => ownS_stays (h.ro e he) fun b cur _ h1 h2 => k b cur 38 h1 (.inl rfl) h2, fun e he => ownR_stays (h.rw e he) fun b cur _ h1 h2 => k b cur 38 h1 (.inl rfl) h2, h.aw, h.ao, h.ow, h.few, h.sm, h.fr⟩
theorem Bok.below (h : Bok W base hb ov wv es f u t) {n : Nat} (hb' : Below n W W') (hn : W.heap.size ≤ n) : Bok W' base hb ov wv es f u t :=
  h.stays fun b _ _ _ _ ho => (hb'.block b (Nat.lt_of_lt_of_le (Array.getElem?_eq_some_iff.1 ho).1 hn)).trans ho
theorem Bok.grown (h : Bok W base hb ov wv es f u t) (k : Grown W W') : Bok W' base hb ov wv es f u t := h.below k.below (Nat.le_refl _)
theorem Bok.cell (h : Bok W base hb ov wv es f u t) : W.cell? ⟨hb, 0, none⟩ = some ov ∧ W.cell? ⟨hb, 1, none⟩ = some wv ∧ W.cell? ⟨hb, 2, none⟩ = some (.int .i64 f) := by
  simp [World.cell?, h.bk]
theorem row_some {n : Nat} {e : TypeId} {v : Value} {xs : List Value} (h : W.ownsRow base e 1 v n xs) (hn : n ≠ 0) : ∃ g cap, v = .slice (some ⟨g, 0, none⟩) n cap ∧ base ≤ g ∧ n ≤ cap ∧ ∀ (j : Nat) (u : Value), xs[j]? = some u → W.cell? ⟨g, j, none⟩ = some u := by
  rcases h.2 with ⟨_, h0⟩ | ⟨g, cap, cur, e1, h1, h2, h3, h4, h5, h6⟩
  · exact absurd h0 hn
  · refine ⟨g, cap, e1, h1, h3, fun j u hj => ?_⟩
    rw [← h6] at hj
    simp only [World.cell?, h2]
    have : cur.toList[j]? = some u := by
      rw [List.getElem?_take] at hj
      split at hj
      · exact hj
      · cases hj
    simpa using this
theorem row_nil {n : Nat} {e : TypeId} {v : Value} {xs : List Value} (h : W.ownsRow base e 1 v n xs) : ∃ a cap, v = .slice a n cap := by
  rcases h.2 with ⟨e1, h0⟩ | ⟨g, cap, cur, e1, h1, h2, h3, h4, h5, h6⟩
  · exact ⟨_, _, by rw [e1, h0]⟩
  · exact ⟨_, _, e1⟩
end
set_option maxHeartbeats 1000000 in
theorem holds_nil (hb : Nat) (a b : Option Addr) (c d : Nat) (w : World) (h0 : w.cell? ⟨hb, 0, none⟩ = some (.slice a 0 c)) (h1 : w.cell? ⟨hb, 1, none⟩ = some (.slice b 0 d)) : Calls Tryd.prog 52 #[.pointer (some ⟨hb, 0, none⟩)] w fun e w' => e = .returned (.bool true) ∧ Grown w w' := by
  go_enter Tryd.func52, Tryd.ntmps52
  go_wp2
  go_loopw [3] (fun vi wr => vi = .int .i64 0 ∧ wr = w) (fun _ _ => 0)
  case atStart => exact ⟨rfl, rfl⟩
  case round =>
    obtain ⟨rfl, rfl⟩ := hrel
    go_wp2
    go_ret
    exact ⟨rfl, Grown.refl _⟩
set_option maxHeartbeats 2000000 in
theorem holds_any (base hb : Nat) (ov wv : Value) (es : List BE) (f u t : Nat) (w : World) (h : Bok w base hb ov wv es f u t) : Calls Tryd.prog 52 #[.pointer (some ⟨hb, 0, none⟩)] w fun e w' => e = .returned (.bool true) ∧ Grown w w' := by
  by_cases hz : es.length = 0
  · have ho := h.out
    have hw := h.want
    rw [hz] at ho hw
    obtain ⟨a, c, rfl⟩ := row_nil ho
    obtain ⟨b, d, rfl⟩ := row_nil hw
    exact holds_nil hb a b c d w h.cell.1 h.cell.2.1
  · obtain ⟨go, co, rfl, _, hoc, hoe⟩ := row_some h.out hz
    obtain ⟨gw, cw, rfl, _, hwc, hwe⟩ := row_some h.want hz
    obtain ⟨n, hnn⟩ : ∃ n, es.length = n := ⟨_, rfl⟩
    have HN : Hid (es.length = n) := hnn
    have hn1 : n ≤ 100 := by rw [← hnn]; exact h.few
    have h0 := h.cell.1
    have h1 := h.cell.2.1
    have HO : Hid (∀ j u, (es.map BE.o)[j]? = some u → w.cell? ⟨go, j, none⟩ = some u) := hoe
    have HW : Hid (∀ j u, (es.map BE.w)[j]? = some u → w.cell? ⟨gw, j, none⟩ = some u) := hwe
    rw [hnn] at h0 h1 hoc hwc
    have HC : Hid (∀ (j : Nat) (hj : j < es.length) (W : World), Grown w W → Calls Tryd.prog 40 #[es[j].o, es[j].w] W fun e w' => e = .returned (.bool true) ∧ Grown W w') := fun j hj W hG => by
      have hm : es[j] ∈ es := List.getElem_mem hj
      have h1 := (h.ro _ hm).rs
      have h2 := (h.rw _ hm).rs
      refine (ranges_any _ _ _ _ W (h1.below hG.below (Nat.le_refl _)) (h2.below hG.below (Nat.le_refl _)) (by have := h.sm _ hm; omega)).mono fun e w' ⟨a, b⟩ => ⟨by rw [a]; simp, b⟩
    have HSL : Hid (∀ (j : Nat) (hj : j < es.length), IsSl es[j].o ∧ IsSl es[j].w) := fun j hj => by
      have hm : es[j] ∈ es := List.getElem_mem hj
      obtain ⟨a1, c1, e1⟩ := (h.ro _ hm).form
      obtain ⟨a2, c2, e2⟩ := (h.rw _ hm).form
      exact ⟨⟨_, _, _, e1⟩, ⟨_, _, _, e2⟩⟩
    clear hoe hwe hnn h hz
    go_enter Tryd.func52, Tryd.ntmps52
    go_wp2
    go_loopw [3] (fun vi wr => ∃ k : Nat, vi = .int .i64 k ∧ k ≤ n ∧ Grown w wr) (fun vi _ => n - (intOf vi).toNat)
    case atStart => exact ⟨0, rfl, by omega, Grown.refl _⟩
    case round =>
      obtain ⟨k, rfl, hk, hB⟩ := hrel
      by_cases hlt : k < n
      · have hlt' : (k : Int) < (n : Int) := by omega
        have hpos : (0 : Int) ≤ (k : Int) := by omega
        have hkl : k < es.length := by rw [HN.out]; exact hlt
        have hc := hB.cellv (HO.out k es[k].o (by simp [hkl]))
        have hi := hB.cellv (HW.out k es[k].w (by simp [hkl]))
        have h0' := hB.cellv h0
        have h1' := hB.cellv h1
        have HCC : Hid (∀ W, Grown w W → Calls Tryd.prog 40 #[es[k].o, es[k].w] W fun e w' => e = .returned (.bool true) ∧ Grown W w') := HC.out k hkl
        obtain ⟨⟨a1, n1, c1, e1⟩, ⟨a2, n2, c2, e2⟩⟩ := HSL.out k hkl
        rw [e1] at hc HCC
        rw [e2] at hi HCC
        clear e1 e2 HSL HC
        have HBB := Hid.mk2 hB
        clear hB h0 h1
        go_wp2
        go_region_with (go_at_call 40; go_must (refine (HCC.out _ (HBB.out.trans (by (repeat (first | exact Grown.refl _ | refine Grown.alloc ?_ _ | refine Grown.drew ?_ | refine Grown.drewN ?_ _ | refine Grown.quiet ?_ _ _))))).mono ?_; rintro e w5 ⟨rfl, hG2⟩; have HG2 := Hid.mk2 hG2; clear hG2))
        all_goals (go_wp2; exact ⟨⟨k + 1, by go_num, by omega, HBB.out.trans (((Grown.refl wr).drew).trans HG2.out)⟩, by simp [intOf]; omega⟩)
      · have h0' := hB.cellv h0
        go_wp2
        go_ret
        exact ⟨rfl, hB⟩
end Go.Proofs
