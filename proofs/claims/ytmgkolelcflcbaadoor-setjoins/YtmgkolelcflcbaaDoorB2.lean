/-
  Appends of the book: a list copied, a row of lists that grows.
-/
import Derived.RangeFuncNested
import Derived.RangeFuncBound
import Derived.RangeFuncCalls
import Derived.RangeFuncLeaves
import Derived.Shelf.Abstract
import Derived.Shelf.RegionOpen
import Derived.WalkKit
import Derived.WalkSpells
import Derived.WalkLawsBesides
import Derived.OwnWalkIn
import Derived.TacticsInMore
import Derived.LoopNIn
import Derived.LoopIn
import Derived.BigQuiet
import Derived.RegionIn
import Derived.Deep.QuietTactic
import Derived.Deep.RegionWith
import Derived.Lib.OthersKept
import Derived.Maps.AppendAt
import Derived.Maps.OwnIn
import Derived.Lib.SmallJoins
import Derived.ArgAppend
import Derived.Deep.Upon
import Derived.Deep.AppendLies
import Derived.Test.YtmgkolelcflcbaaDoorB1
import Derived.Test.YtmgkolelcflcbaaDoorVm
namespace Go.Proofs
open Go.RowKit Go.Shelf

set_option maxRecDepth 100000
attribute [local go_sem] Oper.semAt_some
attribute [local go_sem ↓] Go.wp_at_zero Go.wp_at_succ
theorem linfo29 : (Tryd.prog.info? 29).map (fun i => (i.zero, i.size, i.bytes)) = some (some (.slice none 0 0), 1, 24) := by kernel_rfl
/-- one list more in a row of lists -/
theorem run_appL (w : World) (ty : TypeId) (base : Nat) (v : Value) (n : Nat) (vs : List Value) (hown : w.ownsRow base 29 1 v n vs) (gs c : Nat) (u : Value) (hc : w.cell? ⟨gs, 0, none⟩ = some u) (hu : IsSl u) (hl : n ≤ 2000000) (hbase : base ≤ w.heap.size) :
    ∃ g cap w', (Builtin.append_ #[25, 25] ty #[v, .slice (some ⟨gs, 0, none⟩) 1 c]).run Tryd.prog w = .ok (.slice (some ⟨g, 0, none⟩) (n + 1) cap) w' ∧ w'.ownsRow base 29 1 (.slice (some ⟨g, 0, none⟩) (n + 1) cap) (n + 1) (vs ++ [u]) ∧ w.grownBy w' v.ownBlock ∧ (v.ownBlock = some g ∨ g = w.heap.size) := by
  obtain ⟨i0, hi0, hz0, hz1, hz2⟩ := info_parts linfo29
  obtain ⟨v', w', h1, h2, h3, h4, h5⟩ := run_append_own_at (P := Tryd.prog) w base 25 ty 29 i0 (.slice none 0 0) 1 24 Tryd.underlying25 hi0 hz0 hz1 hz2 rfl (by decide) v n vs hown ⟨gs, 0, none⟩ 1 c [u] rfl (fun j x hj => by
      match j, hj with
      | 0, hj => simp at hj; subst hj; exact hc) (fun x hx => by simp at hx; subst hx; obtain ⟨A, k, d, rfl⟩ := hu; rfl) (by unfold maxLen; omega) (by omega) hbase
  rcases h2.2 with ⟨e, _⟩ | ⟨g, cap, cur, e, _⟩
  · exact absurd (h4.1 e).2 (by decide)
  · subst e
    refine ⟨g, cap, w', h1, h2, h3, ?_⟩
    rcases h5 with h5 | h5
    · exact .inl h5.symm
    · exact .inr (by simpa [Value.ownBlock] using h5)
theorem app_L {ops : Array Oper} {rest : List Oper} {o : Oper} {a : Act} {Q : Exit → Act → World → Prop} {w : World} (hgd : o.guard = none) (s x : Operand) (hop : o.op = .call { callee := .builtin .append, args := #[s, x], argTypes := #[25, 25] })
    (base : Nat) (v : Value) (n : Nat) (vs : List Value) (hs : a.eval s = v) (hown : w.ownsRow base 29 1 v n vs) (gs c : Nat) (u : Value) (hx : a.eval x = .slice (some ⟨gs, 0, none⟩) 1 c) (hc : w.cell? ⟨gs, 0, none⟩ = some u) (hu : IsSl u) (hl : n ≤ 2000000) (hbase : base ≤ w.heap.size)
    (h : ∀ g cap w', w'.ownsRow base 29 1 (.slice (some ⟨g, 0, none⟩) (n + 1) cap) (n + 1) (vs ++ [u]) → w.grownBy w' v.ownBlock → (v.ownBlock = some g ∨ g = w.heap.size) → wpList Tryd.prog ops Q rest (a.put o.dst (.slice (some ⟨g, 0, none⟩) (n + 1) cap)) w') : wpList Tryd.prog ops Q (o :: rest) a w := by
  refine wpList_plain hgd fun K hK => ?_
  obtain ⟨g, cap, w', hr, h1, h2, h3⟩ := run_appL w o.type base v n vs hown gs c u hc hu hl hbase
  unfold Oper.wp execOp
  simp only [hop, resolve, invoke, builtin, Sem.run_bind, Sem.run_pure, Result.andThen_ok, List.map_toArray, List.map_cons, List.map_nil, hs, hx, hr]
  exact hK _ _ (h g cap w' h1 h2 h3)

/-- a row of ranges copied behind a new list that is empty -/
theorem app_copyS {ops : Array Oper} {rest : List Oper} {op : Oper} {ac : Act} {Q : Exit → Act → World → Prop} {w : World} (hgd : op.guard = none) (s x : Operand)
    (ho : op.op = .call { callee := .builtin .append, args := #[s, x], argTypes := #[29, 29] }) (base g : Nat) (xv : Value) (l : List (Int × Int)) (hs : ac.eval s = .slice (some ⟨g, 0, none⟩) 0 0) (hx : ac.eval x = xv)
    (hm : OwnR w base (.slice (some ⟨g, 0, none⟩) 0 0) []) (hr : Rs w xv l) (hl : l.length ≤ 8796093022208) (hbase : base ≤ w.heap.size)
    (h : ∀ v' w', OwnR w' base v' l → Below w.heap.size w w' → wpList Tryd.prog ops Q rest (ac.put op.dst v') w') : wpList Tryd.prog ops Q (op :: rest) ac w := by
  obtain ⟨i0, hi, hz0, hz1, hz2⟩ := info_parts info38
  obtain ⟨B, c, rfl, hc, h2⟩ := hr
  by_cases hb : l = []
  · subst hb
    refine wpList_plain hgd fun K hK => ?_
    have hrun := append_empty (some ⟨g, 0, none⟩) B 0 c op.type w
    unfold Oper.wp
    simp only [List.length_nil] at hx
    simp [execOp, ho, resolve, invoke, builtin, hs, hx, hrun, Result.andThen]
    exact hK _ _ (h _ _ hm (Below.refl _ _))
  · obtain ⟨g2, o2, rfl, hr2⟩ := h2.resolve_left hb
    refine wpList_append_grows w hgd s x 29 ho 38 i0 (.agg #[.int .i64 0, .int .i64 0]) 2 16 Tryd.underlying29 hi hz0 hz1 hz2 rfl (by decide) (some ⟨g, 0, none⟩) 0 0 [] hs (fun _ => ⟨rfl, rfl⟩) rfl (fun ad _ j u hj => by simp at hj) ⟨g2, o2, none⟩ l.length c (fl l) hx (fl_length l) (reads_fl hr2) (fl_one _) ?_ (by unfold maxLen; omega) (by omega) ?_
    · have := List.length_pos_iff.2 hb; omega
    · intro v' w' r1 r2
      have hO : OwnR w' w.heap.size v' l := by
        unfold OwnR
        simpa using r1
      exact h v' w' (hO.le hbase) ((Below.refl _ w).grown r2 (Nat.le_refl _) (fun k e => by cases e))
theorem cell_new1 (w : World) (u : Value) (t : TypeId) : (w.alloc (.cells #[u] t)).cell? ⟨w.heap.size, 0, none⟩ = some u := by
  have := blk_new (ob := .cells #[u] t) (rfl : w.heap.size = w.heap.size)
  simp only [World.cell?]
  rw [this]
  rfl
end Go.Proofs
