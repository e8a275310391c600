/-
  What was lent stays when a row of rules grows by one.
-/
import Derived.RangeFuncNested
import Derived.RangeFuncBound
import Derived.RangeFuncCalls
import Derived.RangeFuncLeaves
import Derived.Shelf.Abstract
import Derived.Shelf.RegionOpen
import Derived.WalkKit
import Derived.WalkSpells
import Derived.WalkLawsBesides
import Derived.OwnWalkIn
import Derived.TacticsInMore
import Derived.LoopNIn
import Derived.LoopIn
import Derived.BigQuiet
import Derived.RegionIn
import Derived.Deep.QuietTactic
import Derived.Deep.RegionWith
import Derived.Lib.OthersKept
import Derived.Maps.AppendAt
import Derived.Lib.SmallJoins
import Derived.Shelf.SlSortCmp.QuietGrown
import Derived.Test.YtcfjdijmobgbpaaDoorQf
namespace Go.Proofs
open Go.RowKit Go.Shelf

set_option maxRecDepth 100000
attribute [local go_sem] Oper.semAt_some
attribute [local go_sem ↓] Go.wp_at_zero Go.wp_at_succ
/-- all blocks but one stay -/
def But (g : Nat) (W W' : World) : Prop := ∀ b, b ≠ g → ∀ o, W.heap[b]? = some o → W'.heap[b]? = some o
/-- the one block holds rules, and no mark of a row of sets -/
structure RowB (g : Nat) (W : World) : Prop where
  t : ∃ cur m, W.heap[g]? = some (.cells cur 25 m)
  c : W.cell? ⟨g, 0, none⟩ ≠ some (.int .i64 (-8))
theorem But.kt {g : Nat} {W W' : World} (k : But g W W') (h : RowB g W) {t : TypeId} (ht : (25 : Nat) ≠ t) : KT t W W' := fun b cs m hb => by
  by_cases e : b = g
  · subst e
    obtain ⟨cur, m', h1⟩ := h.t
    rw [h1] at hb
    injection hb with hb
    injection hb with _ h2 _
    exact absurd h2 ht
  · exact k b e _ hb
theorem LR.but {g : Nat} {W W' : World} {base : Nat} {ov v : Value} {svs : List Value} {ls : List (List (Int × Int))} (h : LR W base ov v svs ls) (k : But g W W') (hg : RowB g W) : LR W' base ov v svs ls := by
  rcases h with h | ⟨h1, g1, cap, ovs, gm, h2, h3, h4, h5, h6, hgm, h7⟩
  · exact .inl h
  · refine .inr ⟨h1, g1, cap, ovs, gm, h2, h3, h4, own_kept_t h5 (k.kt hg (by decide)), ?_, hgm, fun j a b c => (h7 j a b c).kt (k.kt hg (by decide))⟩
    have hne : gm ≠ g := fun e => by subst e; exact hg.c h6
    cases ho : W.heap[gm]? with
    | none => simp [World.cell?, ho] at h6
    | some o =>
      have := k gm hne o ho
      simp only [World.cell?] at h6 ⊢
      rw [this, ← ho]
      exact h6
theorem LP.but {g : Nat} {W W' : World} {base : Nat} {ov v : Value} {tvs : List Value} {ps : List Pc} (h : LP W base ov v tvs ps) (k : But g W W') (hg : RowB g W) : LP W' base ov v tvs ps := by
  rcases h with h | ⟨h1, g1, cap, es, h2, h3, h4, h5, h6⟩
  · exact .inl h
  · exact .inr ⟨h1, g1, cap, es, h2, h3, h4, own_kept_t h5 (k.kt hg (by decide)), fun j a b => (h6 j a b).kt (k.kt hg (by decide))⟩
theorem LEl.but {g : Nat} {W W' : World} {base : Nat} {e : Rw} {x : RV} (h : LEl W base e x) (k : But g W W') (hg : RowB g W) : LEl W' base e x :=
  ⟨h.bg, h.en, h.cu, h.l.a.but k hg, h.l.k.but k hg, h.l.p.but k hg, h.l.r.but k hg⟩
theorem rinfo25 : (Tryd.prog.info? 25).map (fun i => (i.zero, i.size, i.bytes)) = some (some (.agg #[.bool false, .slice none 0 0, .slice none 0 0, .slice none 0 0, .bool false, .slice none 0 0, .int .i64 0]), 7, 120) := by kernel_rfl
/-- one rule more behind a row of the call's own -/
theorem app_Rl {ops : Array Oper} {rest : List Oper} {o : Oper} {a : Act} {Q : Exit → Act → World → Prop} {w : World} (hgd : o.guard = none) (s x : Operand)
    (ho : o.op = .call { callee := .builtin .append, args := #[s, x], argTypes := #[26, 26] }) (base : Nat) (g0 c0 : Nat) (n : Nat) (es : List Rw) (hn : es.length = n) (hs : a.eval s = .slice (some ⟨g0, 0, none⟩) n c0) (hown : w.ownsRow base 25 7 (.slice (some ⟨g0, 0, none⟩) n c0) n (fr es)) (gs c : Nat) (e : Rw) (hx : a.eval x = .slice (some ⟨gs, 0, none⟩) 1 c)
    (hc : ∀ (i : Nat) (u : Value), (fr1 e)[i]? = some u → w.cell? ⟨gs, i, none⟩ = some u) (hsl : IsSl e.a ∧ IsSl e.k ∧ IsSl e.p ∧ IsSl e.r) (hl : n ≤ 2000000) (hbase : base ≤ w.heap.size)
    (h : ∀ g cap w', n + 1 ≤ cap → w'.ownsRow base 25 7 (.slice (some ⟨g, 0, none⟩) (n + 1) cap) (n + 1) (fr (es ++ [e])) → But g0 w w' → Below base w w' → wpList Tryd.prog ops Q rest (a.put o.dst (.slice (some ⟨g, 0, none⟩) (n + 1) cap)) w') : wpList Tryd.prog ops Q (o :: rest) a w := by
  obtain ⟨i0, hi, hz0, hz1, hz2⟩ := info_parts rinfo25
  subst hn
  refine wpList_append_own w hgd s x 26 ho base 25 i0 (.agg #[.bool false, .slice none 0 0, .slice none 0 0, .slice none 0 0, .bool false, .slice none 0 0, .int .i64 0]) 7 120 Tryd.underlying26 hi hz0 hz1 hz2 rfl (by decide) _ es.length (fr es) hs hown ⟨gs, 0, none⟩ 1 c (fr1 e) hx rfl ?_ ?_ (by unfold maxLen; omega) (by omega) hbase (fun v' w' h2 h3 h4 => ?_)
  · intro j u hj
    rw [add_zero_at]
    exact hc j u hj
  · intro u hu
    simp [fr1] at hu
    obtain ⟨⟨A1, n1, c1, e1⟩, ⟨A2, n2, c2, e2⟩, ⟨A3, n3, c3, e3⟩, ⟨A4, n4, c4, e4⟩⟩ := hsl
    rcases hu with rfl | rfl | rfl | rfl | rfl | rfl | rfl
    · rfl
    · rw [e1]; rfl
    · rw [e2]; rfl
    · rw [e3]; rfl
    · rfl
    · rw [e4]; rfl
    · rfl
  · have h2' : w'.ownsRow base 25 7 v' (es.length + 1) (fr (es ++ [e])) := by
      rw [fr_append]
      simpa [fr] using h2
    rcases h2'.2 with ⟨e', _⟩ | ⟨g, cap, cur, e', _, _, hcp, _⟩
    · exact absurd (h4.1 e').1 (by intro e; cases e)
    · subst e'
      refine h g cap w' hcp h2' ?_ ((Below.refl _ w).grown h3 hbase (fun k hk => (World.ownsRow.lt hown k hk).1))
      exact fun b hb o hbo => (h3.block b (Array.getElem?_eq_some_iff.1 hbo).1 (fun er => hb (by simpa [Value.ownBlock] using er))).trans hbo
theorem rowB_of {W : World} {base g n c : Nat} {es : List Rw} (h : W.ownsRow base 25 7 (.slice (some ⟨g, 0, none⟩) n c) n (fr es)) (hn : es.length = n) (h0 : n = 0 → c = 0) : RowB g W := by
  by_cases hz : n = 0
  · rcases h.2 with ⟨e, _⟩ | ⟨g', cap, cur, e, _, hg, _, _, hsz, _⟩
    · cases e
    · injection e with e1 _ e3
      injection e1 with e1
      injection e1 with e1
      subst e1 e3
      refine ⟨⟨cur, _, hg⟩, ?_⟩
      have hs0 : cur.size = 0 := by rw [hsz, h0 hz]
      simp [World.cell?, hg, hs0]
  · have hc := own_cell7 h (j := 0) (u := .bool (es[0]'(by omega)).bg) (by have := fr_at es (j := 0) (by omega) 0 (by omega); simpa [fr1] using this)
    refine ⟨?_, by rw [hc]; intro e; cases e⟩
    rcases h.2 with ⟨e, _⟩ | ⟨g', cap, cur, e, _, hg, _⟩
    · cases e
    · injection e with e1 _ e3
      injection e1 with e1
      injection e1 with e1
      subst e1
      exact ⟨cur, _, hg⟩
theorem ret_ps {fn : Func} {p : Tmp} {W : World} {B : Nat} {tmps : Array Value} {v : Value} {Q : Ending → World → Prop} (hr : fn.results = #[.cell p 28]) (hp : tmps.getD p undef = .pointer (some ⟨B, 0, none⟩)) (c0 : W.cell? ⟨B, 0, none⟩ = some v)
    (K : Q (.returned (.agg #[v])) W) : bodyPost Tryd.prog fn Q Exit.ret { tmps := tmps, defers := [] } W := by
  refine bodyPost_ret (v := .agg #[v]) ?_ rfl K
  rw [Array.getD_eq_getD_getElem?] at hp
  simp only [results, hr]
  simp [hp, go_sem, c0]
set_option maxHeartbeats 2000000 in
theorem lentPass_nil (w : World) : Calls Tryd.prog 11 #[.agg #[.slice none 0 0]] w fun e w' => e = .returned (.agg #[.slice none 0 0]) ∧ Grown w w' := by
  have he := nil26
  go_enter Tryd.func11, Tryd.ntmps11
  go_wp2
  exact ret_ps (p := 2) (B := w.heap.size + 1) (v := .slice none 0 0) rfl rfl (by simp) ⟨rfl, ((Grown.refl _).alloc _).alloc _⟩
end Go.Proofs
