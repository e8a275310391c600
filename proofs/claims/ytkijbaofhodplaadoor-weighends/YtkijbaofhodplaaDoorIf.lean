/-
  What a run has in memory.
-/
import Derived.RangeFuncNested
import Derived.RangeFuncBound
import Derived.RangeFuncCalls
import Derived.RangeFuncLeaves
import Derived.Shelf.Abstract
import Derived.Shelf.RegionOpen
import Derived.WalkKit
import Derived.WalkSpells
import Derived.WalkLawsBesides
import Derived.OwnWalkIn
import Derived.TacticsInMore
import Derived.LoopNIn
import Derived.LoopIn
import Derived.BigQuiet
import Derived.RegionIn
import Derived.Deep.QuietTactic
import Derived.Deep.RegionWith
import Derived.Lib.OthersKept
import Derived.Maps.AppendAt
import Derived.Lib.SmallJoins
import Derived.Shelf.SlSortCmp.QuietGrown
import Derived.Deep.AppendLies
import Derived.Deep.Upon
import Derived.Test.YtkijbaofhodplaaDoorIx
import Derived.Test.YtkijbaofhodplaaDoorJg
import Derived.Test.YtkijbaofhodplaaDoorHf
namespace Go.Proofs
open Go.RowKit Go.Shelf

set_option maxRecDepth 100000
attribute [local go_sem] Oper.semAt_some
attribute [local go_sem ↓] Go.wp_at_zero Go.wp_at_succ

def fs1 (x : Stp) : List Value := [.int .i64 x.r, .int .i64 x.d, .int .i64 x.l, .int .i64 x.t, .int .i64 x.a, .int .i64 x.b]
def fs (xs : List Stp) : List Value := xs.flatMap fs1
theorem fs_append (l k : List Stp) : fs (l ++ k) = fs l ++ fs k := by simp [fs]
theorem fs_one (l : List Stp) : ∀ u ∈ fs l, u.oneCell' = true := by
  intro u hu
  simp only [fs, List.mem_flatMap] at hu
  obtain ⟨x, _, hx⟩ := hu
  simp only [fs1, List.mem_cons, List.not_mem_nil, or_false] at hx
  rcases hx with rfl | rfl | rfl | rfl | rfl | rfl <;> rfl
/-- a row of steps of the call's own -/
def OwnS (w : World) (base : Nat) (v : Value) (l : List Stp) : Prop := w.ownsRow base 49 6 v l.length (fs l)
theorem OwnS.nil (w : World) (base : Nat) : OwnS w base (.slice none 0 0) [] := World.ownsRow_nil _ _ _ _
theorem OwnS.below {w w' : World} {base n : Nat} {v : Value} {l : List Stp} (h : OwnS w base v l) (hb : Below n w w') (hn : w.heap.size ≤ n) : OwnS w' base v l := by
  refine ⟨h.1, ?_⟩
  rcases h.2 with h1 | ⟨g, cap, cur, h1, h2, h3, h4⟩
  · exact .inl h1
  · exact .inr ⟨g, cap, cur, h1, h2, blk_below h3 hb (by have := blk_lt h3; omega), h4⟩
theorem OwnS.turn {w w' : World} {base : Nat} {v : Value} {l : List Stp} (h : OwnS w base v l) (hk : ∀ b, base ≤ b → w'.heap[b]? = w.heap[b]?) : OwnS w' base v l := by
  refine ⟨h.1, ?_⟩
  rcases h.2 with h1 | ⟨g, cap, cur, h1, h2, h3, h4⟩
  · exact .inl h1
  · exact .inr ⟨g, cap, cur, h1, h2, (hk g h2).trans h3, h4⟩
theorem row_blk {w : World} {base size n : Nat} {e : TypeId} {v : Value} {xs : List Value} (h : w.ownsRow base e size v n xs) : v.ownBlock = none ∨ ∃ g cur, v.ownBlock = some g ∧ base ≤ g ∧ w.heap[g]? = some (.cells cur e (0, 0)) := by
  rcases h.2 with ⟨rfl, _⟩ | ⟨g, cap, cur, rfl, h2, h3, _⟩
  · exact .inl rfl
  · exact .inr ⟨g, cur, rfl, h2, h3⟩
/-- what is done, the steps, what is left: in memory -/
structure GS (w1 : World) (op : Nat) (wr : World) (uv sv lv : Value) (d : List Int) (xs : List Stp) (l : List Int) : Prop where
  blk : wr.heap[op]? = some (.cells #[uv, sv] 46 (0, 0))
  own : OwnI wr (op + 1) uv d
  ows : OwnS wr (op + 1) sv xs
  lef : IR wr lv l
  lap : l ≠ [] → ∀ g, lv.ownBlock = some g → g ≠ op ∧ uv.ownBlock ≠ some g ∧ sv.ownBlock ≠ some g ∧ g < wr.heap.size
  bel : Below op w1 wr
theorem ir_some {w : World} {v : Value} {l : List Int} (h : IR w v l) (hl : l ≠ []) : ∃ g o n c, v = .slice (some ⟨g, o, none⟩) n c ∧ l.length = n ∧ n ≤ c ∧ IRd w g o l := by
  obtain ⟨a, c, rfl, hc, hr⟩ := h
  obtain ⟨g, o, rfl, hd⟩ := hr.resolve_left hl
  exact ⟨g, o, _, c, rfl, rfl, hc, hd⟩
theorem ir_turn {w w' : World} {v : Value} {l : List Int} (h : IR w v l) (hk : l ≠ [] → ∀ g, v.ownBlock = some g → w'.heap[g]? = w.heap[g]?) : IR w' v l := by
  by_cases hl : l = []
  · subst hl
    obtain ⟨a, c, rfl, hc, _⟩ := h
    exact ⟨a, c, rfl, hc, .inl rfl⟩
  · obtain ⟨g, o, n, c, rfl, h1, h2, hd⟩ := ir_some h hl
    exact ⟨_, c, by rw [h1], by omega, .inr ⟨g, o, rfl, fun j hj => (cell_same (hk hl g rfl)).trans (hd j hj)⟩⟩
theorem GS.grown {w1 : World} {op : Nat} {wr wr' : World} {uv sv lv : Value} {d : List Int} {xs : List Stp} {l : List Int} (h : GS w1 op wr uv sv lv d xs l) (k : Grown wr wr') : GS w1 op wr' uv sv lv d xs l :=
  ⟨blk_below h.blk k.below (blk_lt h.blk), h.own.below k.below (Nat.le_refl _), h.ows.below k.below (Nat.le_refl _), h.lef.grown k, fun hl g hg => by
    obtain ⟨a, b, c, e⟩ := h.lap hl g hg
    exact ⟨a, b, c, Nat.lt_of_lt_of_le e k.size⟩, h.bel.trans (k.below.mono (by have := h.bel.size; have := blk_lt h.blk; omega))⟩
theorem GS.apart {w1 : World} {op : Nat} {wr : World} {uv sv lv : Value} {d : List Int} {xs : List Stp} {l : List Int} (h : GS w1 op wr uv sv lv d xs l) : (uv.ownBlock = none ∨ uv.ownBlock ≠ sv.ownBlock) ∧ uv.ownBlock ≠ some op ∧ sv.ownBlock ≠ some op ∧ (∀ g, uv.ownBlock = some g → g < wr.heap.size) ∧ (∀ g, sv.ownBlock = some g → g < wr.heap.size) := by
  have h1 := row_blk h.own
  have h2 := row_blk h.ows
  refine ⟨?_, ?_, ?_, ?_, ?_⟩
  · rcases h1 with h1 | ⟨g, cur, h1, _, h3⟩
    · exact .inl h1
    · refine .inr fun e => ?_
      rcases h2 with h2 | ⟨g', cur', h2, _, h4⟩
      · rw [h1, h2] at e; cases e
      · rw [h1, h2] at e
        injection e with e
        subst e
        rw [h3] at h4
        injection h4 with h4
        injection h4 with _ h4
        cases h4
  · intro e
    rcases h1 with h1 | ⟨g, cur, h1, h5, _⟩
    · rw [h1] at e; cases e
    · rw [h1] at e; injection e with e; omega
  · intro e
    rcases h2 with h2 | ⟨g, cur, h2, h5, _⟩
    · rw [h2] at e; cases e
    · rw [h2] at e; injection e with e; omega
  · intro g hg
    rcases h1 with h1 | ⟨g', cur, h1, _, h3⟩
    · rw [h1] at hg; cases hg
    · rw [h1] at hg; injection hg with hg; subst hg; exact blk_lt h3
  · intro g hg
    rcases h2 with h2 | ⟨g', cur, h2, _, h3⟩
    · rw [h2] at hg; cases hg
    · rw [h2] at hg; injection hg with hg; subst hg; exact blk_lt h3
/-- more is done -/
theorem GS.unit {w1 : World} {op : Nat} {wr w2 : World} {uv sv lv : Value} {d e : List Int} {xs : List Stp} {l : List Int} (h : GS w1 op wr uv sv lv d xs l) {g n cap : Nat} (ho : w2.ownsRow (op + 1) 3 1 (.slice (some ⟨g, 0, none⟩) n cap) n (ints (d ++ e))) (hn : n = (d ++ e).length) (hg : wr.grownBy w2 uv.ownBlock) (hG : uv.ownBlock = some g ∨ g = wr.heap.size) :
    GS w1 op (w2.setCell ⟨op, 0, none⟩ (.slice (some ⟨g, 0, none⟩) n cap)) (.slice (some ⟨g, 0, none⟩) n cap) sv lv (d ++ e) xs l := by
  obtain ⟨ap1, ap2, ap3, ap4, ap5⟩ := h.apart
  have hop := blk_lt h.blk
  have hsz : w2.heap.size ≤ (w2.setCell ⟨op, 0, none⟩ (.slice (some ⟨g, 0, none⟩) n cap)).heap.size := by simp
  have hb : w2.heap[op]? = some (.cells #[uv, sv] 46 (0, 0)) := (hg.block op hop (fun x => ap2 x.symm)).trans h.blk
  have ht : ∀ b, op + 1 ≤ b → (w2.setCell ⟨op, 0, none⟩ (.slice (some ⟨g, 0, none⟩) n cap)).heap[b]? = w2.heap[b]? := fun b hb => turns_set _ _ _ _ b (by omega)
  refine ⟨by rw [set_heap hb]; rfl, ?_, ?_, ?_, fun hl g' hg' => ?_, ?_⟩
  · exact OwnI.turn (l := d ++ e) (by unfold OwnI; rw [← hn]; exact ho) ht
  · refine OwnS.turn (World.ownsRow.kept h.ows hg ?_) ht
    rcases ap1 with ap1 | ap1
    · rw [ap1]
      cases hs : sv.ownBlock with
      | none => exact .inl rfl
      | some x => exact .inr (by simp)
    · exact .inr fun x => ap1 x.symm
  · refine ir_turn h.lef fun hl g' hg' => ?_
    obtain ⟨q1, q2, q3, q4⟩ := h.lap hl g' hg'
    rw [turns_set _ _ _ _ g' q1]
    exact hg.block g' q4 (fun x => q2 x.symm)
  · obtain ⟨q1, q2, q3, q4⟩ := h.lap hl g' hg'
    refine ⟨q1, fun x => ?_, q3, by have := hg.size; omega⟩
    have e1 : g = g' := by simpa [Value.ownBlock] using x
    rcases hG with hG | hG
    · rw [e1] at hG; exact q2 hG
    · omega
  · exact ((h.bel.grown hg (by have := h.bel.size; have := hg.size; omega) (fun k hk => by
      rcases row_blk h.own with h1 | ⟨g', _, h1, h2, _⟩
      · rw [h1] at hk; cases hk
      · rw [h1] at hk; injection hk with hk; omega)).setCell (Nat.le_refl _) _)
/-- a step more -/
theorem GS.step {w1 : World} {op : Nat} {wr w2 : World} {uv sv lv : Value} {d : List Int} {xs e : List Stp} {l : List Int} (h : GS w1 op wr uv sv lv d xs l) {g n cap : Nat} (ho : w2.ownsRow (op + 1) 49 6 (.slice (some ⟨g, 0, none⟩) n cap) n (fs (xs ++ e))) (hn : n = (xs ++ e).length) (hg : wr.grownBy w2 sv.ownBlock) (hG : sv.ownBlock = some g ∨ g = wr.heap.size) :
    GS w1 op (w2.setCell ⟨op, 1, none⟩ (.slice (some ⟨g, 0, none⟩) n cap)) uv (.slice (some ⟨g, 0, none⟩) n cap) lv d (xs ++ e) l := by
  obtain ⟨ap1, ap2, ap3, ap4, ap5⟩ := h.apart
  have hop := blk_lt h.blk
  have hsz : w2.heap.size ≤ (w2.setCell ⟨op, 1, none⟩ (.slice (some ⟨g, 0, none⟩) n cap)).heap.size := by simp
  have hb : w2.heap[op]? = some (.cells #[uv, sv] 46 (0, 0)) := (hg.block op hop (fun x => ap3 x.symm)).trans h.blk
  have ht : ∀ b, op + 1 ≤ b → (w2.setCell ⟨op, 1, none⟩ (.slice (some ⟨g, 0, none⟩) n cap)).heap[b]? = w2.heap[b]? := fun b hb => turns_set _ _ _ _ b (by omega)
  refine ⟨by rw [set_heap hb]; rfl, ?_, ?_, ?_, fun hl g' hg' => ?_, ?_⟩
  · exact OwnI.turn (World.ownsRow.kept h.own hg ap1) ht
  · exact OwnS.turn (l := xs ++ e) (by unfold OwnS; rw [← hn]; exact ho) ht
  · refine ir_turn h.lef fun hl g' hg' => ?_
    obtain ⟨q1, q2, q3, q4⟩ := h.lap hl g' hg'
    rw [turns_set _ _ _ _ g' q1]
    exact hg.block g' q4 (fun x => q3 x.symm)
  · obtain ⟨q1, q2, q3, q4⟩ := h.lap hl g' hg'
    refine ⟨q1, q2, fun x => ?_, by have := hg.size; omega⟩
    have e1 : g = g' := by simpa [Value.ownBlock] using x
    rcases hG with hG | hG
    · rw [e1] at hG; exact q3 hG
    · omega
  · exact ((h.bel.grown hg (by have := h.bel.size; have := hg.size; omega) (fun k hk => by
      rcases row_blk h.ows with h1 | ⟨g', _, h1, h2, _⟩
      · rw [h1] at hk; cases hk
      · rw [h1] at hk; injection hk with hk; omega)).setCell (Nat.le_refl _) _)
/-- something else is left -/
theorem GS.left {w1 : World} {op : Nat} {wr : World} {uv sv lv lv' : Value} {d : List Int} {xs : List Stp} {l l' : List Int} (h : GS w1 op wr uv sv lv d xs l) (hi : IR wr lv' l') (ha : l' ≠ [] → ∀ g, lv'.ownBlock = some g → g ≠ op ∧ uv.ownBlock ≠ some g ∧ sv.ownBlock ≠ some g ∧ g < wr.heap.size) : GS w1 op wr uv sv lv' d xs l' :=
  ⟨h.blk, h.own, h.ows, hi, ha, h.bel⟩
theorem sinfo49 : (Tryd.prog.info? 49).map (fun i => (i.zero, i.size, i.bytes)) = some (some (.agg #[.int .i64 0, .int .i64 0, .int .i64 0, .int .i64 0, .int .i64 0, .int .i64 0]), 6, 48) := by kernel_rfl
/-- a step appended, and stored -/
theorem push_St {ops : Array Oper} {rest : List Oper} {o : Oper} {a : Act} {Q : Exit → Act → World → Prop} {w w1 : World} {op : Nat} {uv sv lv : Value} {d : List Int} {xs : List Stp} {l : List Int} (hgd : o.guard = none) (s x : Operand)
    (ho : o.op = .call { callee := .builtin .append, args := #[s, x], argTypes := #[44, 44] }) (hs : a.eval s = sv) (h : GS w1 op w uv sv lv d xs l) (gb c : Nat) (y : Stp) (hx : a.eval x = .slice (some ⟨gb, 0, none⟩) 1 c)
    (hc : w.heap[gb]? = some (.cells (fs1 y).toArray 49 (0, 0))) (hl : xs.length + 1 ≤ 1000000000)
    (hK : ∀ g cap w2, w2.ownsRow (op + 1) 49 6 (.slice (some ⟨g, 0, none⟩) (xs.length + 1) cap) (xs.length + 1) (fs (xs ++ [y])) → w.grownBy w2 sv.ownBlock → (sv.ownBlock = some g ∨ g = w.heap.size) → wpList Tryd.prog ops Q rest (a.put o.dst (.slice (some ⟨g, 0, none⟩) (xs.length + 1) cap)) w2) : wpList Tryd.prog ops Q (o :: rest) a w := by
  obtain ⟨i0, hi, hz0, hz1, hz2⟩ := info_parts sinfo49
  have hown := h.ows
  unfold OwnS at hown
  refine wpList_plain hgd fun _ hK2 => wp_append_lies w s x 44 ho (op + 1) 49 i0 _ 6 48 Tryd.underlying44 hi hz0 hz1 hz2 rfl (by decide) sv xs.length (fs xs) hs hown ⟨gb, 0, none⟩ 1 c (fs [y]) hx rfl ?_ (fs_one _) (by omega) (by unfold maxLen; omega) (by omega) (by have := blk_lt h.blk; omega) _ rfl fun g cap w' h2 h3 h4 _ => hK2 _ _ (hK g cap w' (by rw [fs_append]; exact h2) h3 h4)
  intro j u hj
  rw [add_at, Nat.zero_add, cell_of hc]
  simpa [fs] using hj

/-- what an append to what is done leaves, ahead of its store -/
structure UP (w1 : World) (op : Nat) (w : World) (uv sv lv : Value) (d' : List Int) (xs : List Stp) (l : List Int) (uv' : Value) (w2 : World) : Prop where
  gs : GS w1 op (w2.setCell ⟨op, 0, none⟩ uv') uv' sv lv d' xs l
  sl : IsSl uv'
  c : w2.cell? ⟨op, 0, none⟩ = some uv
  f : w2.frozen? ⟨op, 0, none⟩ = false
  k : ∀ b, b < w.heap.size → b ≠ op → uv.ownBlock ≠ some b → (w2.setCell ⟨op, 0, none⟩ uv').heap[b]? = w.heap[b]?
theorem GS.up {w1 : World} {op : Nat} {wr w2 : World} {uv sv lv : Value} {d e : List Int} {xs : List Stp} {l : List Int} (h : GS w1 op wr uv sv lv d xs l) {g n cap : Nat} (ho : w2.ownsRow (op + 1) 3 1 (.slice (some ⟨g, 0, none⟩) n cap) n (ints (d ++ e))) (hn : n = (d ++ e).length) (hg : wr.grownBy w2 uv.ownBlock) (hG : uv.ownBlock = some g ∨ g = wr.heap.size) : UP w1 op wr uv sv lv (d ++ e) xs l (.slice (some ⟨g, 0, none⟩) n cap) w2 := by
  have hb : w2.heap[op]? = some (.cells #[uv, sv] 46 (0, 0)) := (hg.block op (blk_lt h.blk) (fun x => h.apart.2.1 x.symm)).trans h.blk
  exact ⟨h.unit ho hn hg hG, ⟨_, _, _, rfl⟩, by rw [cell_of hb]; simp, free_of hb, fun b h1 h2 h3 => (turns_set _ _ _ _ b h2).trans (hg.block b h1 (fun x => h3 x.symm))⟩
theorem GS.same {w1 : World} {op : Nat} {wr : World} {uv sv lv : Value} {d : List Int} {xs : List Stp} {l : List Int} (h : GS w1 op wr uv sv lv d xs l) : UP w1 op wr uv sv lv d xs l uv wr := by
  have ht : ∀ b, op + 1 ≤ b → (wr.setCell ⟨op, 0, none⟩ uv).heap[b]? = wr.heap[b]? := fun b hb => turns_set _ _ _ _ b (by omega)
  refine ⟨⟨by rw [set_heap h.blk]; rfl, h.own.turn ht, h.ows.turn ht, ir_turn h.lef fun hl g hg => turns_set _ _ _ _ g (h.lap hl g hg).1, fun hl g hg => ?_, h.bel.setCell (Nat.le_refl _) _⟩, ?_, by rw [cell_of h.blk]; simp, free_of h.blk, fun b _ h2 _ => turns_set _ _ _ _ b h2⟩
  · obtain ⟨a, b, c, e⟩ := h.lap hl g hg
    exact ⟨a, b, c, by simpa using e⟩
  · obtain ⟨a, c, e⟩ := h.own.sl
    exact ⟨a, _, c, e⟩
/-- a unit appended in a region that draws its order -/
theorem step_unit {ops : Array Oper} {o : Oper} {a : Act} {K : Act → World → Prop} {Q : Exit → Act → World → Prop} {E : Prop} {w w1 : World} {op : Nat} {uv sv lv : Value} {d : List Int} {xs : List Stp} {l : List Int} (hgd : o.guard = none) (s x : Operand)
    (ho : o.op = .call { callee := .builtin .append, args := #[s, x], argTypes := #[40, 40] }) (hs : a.eval s = uv) (h : GS w1 op w uv sv lv d xs l) (gb c : Nat) (p : Int) (hx : a.eval x = .slice (some ⟨gb, 0, none⟩) 1 c)
    (hp : w.cell? ⟨gb, 0, none⟩ = some (.int .i64 p)) (hl : d.length + 1 ≤ 1000000000)
    (hK : ∀ uv' w2, UP w1 op w uv sv lv (d ++ [p]) xs l uv' w2 → K (a.put o.dst uv') w2) : if Region.wanted o (yielded ops a.tmps) = true then Oper.wp Tryd.prog o a w K Q else E := by
  obtain ⟨i0, hi, hz0, hz1, hz2⟩ := info_parts iinfo3
  refine step_append_lies w hgd s x 40 ho (op + 1) 3 i0 (.int .i64 0) 1 8 Tryd.underlying40 hi hz0 hz1 hz2 rfl (by decide) uv d.length (ints d) hs h.own ⟨gb, 0, none⟩ 1 c (ints [p]) hx rfl ?_ (ints_one _) (by omega) (by unfold maxLen; omega) (by omega) (by have := blk_lt h.blk; omega) _ rfl fun g cap w' h2 h3 h4 _ => hK _ w' (h.up (by rw [ints_append]; exact h2) (by simp) h3 h4)
  intro j u hj
  match j, hj with
  | 0, hj => simp [ints] at hj; subst hj; exact hp
/-- numbers appended to what is done -/
theorem push_units {ops : Array Oper} {rest : List Oper} {o : Oper} {a : Act} {Q : Exit → Act → World → Prop} {w w1 : World} {op : Nat} {uv sv lv : Value} {d : List Int} {xs : List Stp} {l : List Int} (hgd : o.guard = none) (s x : Operand)
    (ho : o.op = .call { callee := .builtin .append, args := #[s, x], argTypes := #[40, 40] }) (hs : a.eval s = uv) (h : GS w1 op w uv sv lv d xs l) (e : List Int) (xv : Value) (hx : a.eval x = xv) (hi : IR w xv e) (hl : d.length + e.length ≤ 1000000000)
    (hK : ∀ uv' w2, UP w1 op w uv sv lv (d ++ e) xs l uv' w2 → wpList Tryd.prog ops Q rest (a.put o.dst uv') w2) : wpList Tryd.prog ops Q (o :: rest) a w := by
  obtain ⟨i0, hi0, hz0, hz1, hz2⟩ := info_parts iinfo3
  by_cases he : e = []
  · subst he
    rw [List.append_nil] at hK
    obtain ⟨A, c, rfl⟩ := ir_nil hi
    obtain ⟨ua, uc, huv⟩ := h.own.sl
    have hle : d.length ≤ uc := by obtain ⟨_, c', e', h1, _⟩ := h.own.ir; rw [huv] at e'; injection e' with _ _ e3; omega
    refine wpList_plain hgd fun _ hK2 => ?_
    have hr := run_append_nothing (P := Tryd.prog) w 40 40 o.type 3 i0 Tryd.underlying40 hi0 ua d.length uc hle (.slice A 0 c) ?_
    · unfold Oper.wp execOp
      simp only [ho, resolve, invoke, builtin, Sem.run_bind, Sem.run_pure, Result.andThen_ok, List.map_toArray, List.map_cons, List.map_nil, hs, hx, huv, hr]
      exact hK2 _ _ (by rw [← huv]; exact hK uv w h.same)
    · exact ⟨.inl ⟨3, Tryd.underlying40⟩, fun w' => by cases A <;> simp [Builtin.lenOf, go_sem], by cases A <;> simp [Builtin.firstCells, go_sem], by cases A <;> simp [Builtin.firstCells, go_sem], by simp, by simp⟩
  · obtain ⟨g, o', n, c, rfl, h1, h2, hd⟩ := ir_some hi he
    refine wpList_append_lies w hgd s x 40 ho (op + 1) 3 i0 (.int .i64 0) 1 8 Tryd.underlying40 hi0 hz0 hz1 hz2 rfl (by decide) uv d.length (ints d) hs h.own ⟨g, o', none⟩ n c (ints e) hx (by rw [ints_length]; omega) ?_ (ints_one _) (by have := List.length_pos_iff.2 he; omega) (by unfold maxLen; omega) (by omega) (by have := blk_lt h.blk; omega) _ rfl fun g cap w' h2 h3 h4 _ => hK _ w' (h.up (by rw [ints_append]; exact h2) (by rw [List.length_append]; omega) h3 h4)
    intro j u hj
    simp only [ints, List.getElem?_map, Option.map_eq_some_iff] at hj
    obtain ⟨y, hy, rfl⟩ := hj
    obtain ⟨hj1, hj2⟩ := List.getElem?_eq_some_iff.1 hy
    rw [add_at, hd j hj1, hj2]
/-- what an append of a step leaves, ahead of its store -/
structure SP (w1 : World) (op : Nat) (w : World) (uv sv lv : Value) (d : List Int) (xs' : List Stp) (l : List Int) (sv' : Value) (w2 : World) : Prop where
  gs : GS w1 op (w2.setCell ⟨op, 1, none⟩ sv') uv sv' lv d xs' l
  sl : IsSl sv'
  c : w2.cell? ⟨op, 1, none⟩ = some sv
  f : w2.frozen? ⟨op, 1, none⟩ = false
theorem push_step {ops : Array Oper} {rest : List Oper} {o : Oper} {a : Act} {Q : Exit → Act → World → Prop} {w w1 : World} {op : Nat} {uv sv lv : Value} {d : List Int} {xs : List Stp} {l : List Int} (hgd : o.guard = none) (s x : Operand)
    (ho : o.op = .call { callee := .builtin .append, args := #[s, x], argTypes := #[44, 44] }) (hs : a.eval s = sv) (h : GS w1 op w uv sv lv d xs l) (gb c : Nat) (y : Stp) (hx : a.eval x = .slice (some ⟨gb, 0, none⟩) 1 c)
    (hc : w.heap[gb]? = some (.cells (fs1 y).toArray 49 (0, 0))) (hl : xs.length + 1 ≤ 1000000000)
    (hK : ∀ sv' w2, SP w1 op w uv sv lv d (xs ++ [y]) l sv' w2 → wpList Tryd.prog ops Q rest (a.put o.dst sv') w2) : wpList Tryd.prog ops Q (o :: rest) a w :=
  push_St hgd s x ho hs h gb c y hx hc hl fun g cap w2 h1 h2 h3 => hK _ w2 (by
    have hb : w2.heap[op]? = some (.cells #[uv, sv] 46 (0, 0)) := (h2.block op (blk_lt h.blk) (fun x => h.apart.2.2.1 x.symm)).trans h.blk
    exact ⟨h.step h1 (by simp) h2 h3, ⟨_, _, _, rfl⟩, by rw [cell_of hb]; simp, free_of hb⟩)
end Go.Proofs
