/-
  A tally in memory.
-/
import Derived.RangeFuncNested
import Derived.RangeFuncBound
import Derived.RangeFuncCalls
import Derived.RangeFuncLeaves
import Derived.Shelf.Abstract
import Derived.Shelf.RegionOpen
import Derived.WalkKit
import Derived.WalkSpells
import Derived.WalkLawsBesides
import Derived.OwnWalkIn
import Derived.TacticsInMore
import Derived.LoopNIn
import Derived.LoopIn
import Derived.BigQuiet
import Derived.RegionIn
import Derived.Deep.QuietTactic
import Derived.Deep.RegionWith
import Derived.Lib.OthersKept
import Derived.Maps.AppendAt
import Derived.Lib.SmallJoins
import Derived.Shelf.SlSortCmp.QuietGrown
import Derived.Test.YtjjkomaokgmkhaaDoorGcn
import Derived.Test.YtjjkomaokgmkhaaDoorHan
import Derived.Test.YtjjkomaokgmkhaaDoorGkn
import Derived.Test.YtjjkomaokgmkhaaDoorAan
namespace Go.Proofs
open Go.RowKit Go.Shelf

set_option maxRecDepth 100000
attribute [local go_sem] Oper.semAt_some
attribute [local go_sem ↓] Go.wp_at_zero Go.wp_at_succ

/-- words in memory -/
def uwv (l : List Nat) : List Value := l.map fun (x : Nat) => Value.int .u64 (x : Int)
def rowO (l : List Nat) : Obj := .cells (uwv l).toArray 70 (0, 0)
def rowV (x : Nat × List Nat) : Value := .slice (some ⟨x.1, 0, none⟩) x.2.length x.2.length
/-- pairs in memory -/
def pcs (ps : List (Nat × Nat)) : List Value := ps.flatMap fun p => [.int .u64 (p.1 : Int), .int .u64 (p.2 : Int)]
theorem pcs_append (a b : List (Nat × Nat)) : pcs (a ++ b) = pcs a ++ pcs b := by simp [pcs]
theorem pcs_one (l : List (Nat × Nat)) : ∀ u ∈ pcs l, u.oneCell' = true := by
  intro u hu
  simp only [pcs, List.mem_flatMap] at hu
  obtain ⟨x, _, hx⟩ := hu
  simp only [List.mem_cons, List.not_mem_nil, or_false] at hx
  rcases hx with rfl | rfl <;> rfl
theorem pcs_len (l : List (Nat × Nat)) : (pcs l).length = l.length * 2 := by
  induction l with
  | nil => rfl
  | cons a l ih => simp [pcs] at ih ⊢; omega
theorem pcs_at (l : List (Nat × Nat)) {j : Nat} (hj : j < l.length) : (pcs l)[j * 2]? = some (Value.int .u64 (l[j].1 : Int)) ∧ (pcs l)[j * 2 + 1]? = some (Value.int .u64 (l[j].2 : Int)) := by
  induction l generalizing j with
  | nil => simp at hj
  | cons a l ih =>
    cases j with
    | zero => exact ⟨by simp [pcs], by simp [pcs]⟩
    | succ j =>
      have := ih (j := j) (by simpa using hj)
      rw [show (j + 1) * 2 = j * 2 + 1 + 1 by omega]
      simpa [pcs] using this
/-- the numbers of pairs, as a map has them -/
def numF (ps : List (Nat × Nat)) (p : Nat × Nat) : Option Value := if p ∈ ps then some (.int .u64 ((ps.idxOf p : Nat) : Int)) else none
theorem numF_add (ps : List (Nat × Nat)) (p : Nat × Nat) (h : p ∉ ps) : updM (numF ps) p (.int .u64 (ps.length : Int)) = numF (addP ps p) := by
  funext q
  unfold updM numF addP
  rw [if_neg h]
  by_cases e : q = p
  · subst e
    rw [if_pos rfl, if_pos (by simp), List.idxOf_append, if_neg h]
    simp
  · rw [if_neg e]
    by_cases hq : q ∈ ps
    · rw [if_pos hq, if_pos (by simp [hq]), List.idxOf_append, if_pos hq]
    · rw [if_neg hq, if_neg (by simp [hq, e])]
/-- a tally in memory -/
structure TL (w : World) (base T : Nat) (pv rv uv : Value) (hi M : Nat) (ps : List (Nat × Nat)) (rows : List (Nat × List Nat)) (ts : List Int) : Prop where
  tb : base ≤ T
  blk : w.heap[T]? = some (.cells #[pv, .int .i64 (hi : Int), rv, .map (some M), uv] 83 (0, 0))
  pr : w.ownsRow base 93 2 pv ps.length (pcs ps)
  rr : w.ownsRow base 48 1 rv rows.length (rows.map rowV)
  rw : ∀ x ∈ rows, base ≤ x.1 ∧ w.heap[x.1]? = some (rowO x.2)
  nd : (rows.map Prod.fst).Nodup
  mb : base ≤ M
  mp : GMap 93 ok2 klit w M ps.length (numF ps)
  tu : OwnI w base uv ts
  w6 : ∀ x ∈ rows, W64 x.2
  p6 : ∀ p ∈ ps, ok2 p
/-- its blocks -/
def TLB (T : Nat) (pv rv uv : Value) (M : Nat) (rows : List (Nat × List Nat)) (k : Nat) : Prop := k = T ∨ k = M ∨ pv.ownBlock = some k ∨ rv.ownBlock = some k ∨ uv.ownBlock = some k ∨ ∃ x ∈ rows, x.1 = k
theorem TL.fr {w w' : World} {base T : Nat} {pv rv uv : Value} {hi M : Nat} {ps : List (Nat × Nat)} {rows : List (Nat × List Nat)} {ts : List Int} (h : TL w base T pv rv uv hi M ps rows ts) {B : Nat → Prop} (hf : Fr w w' B) (hB : ∀ k, TLB T pv rv uv M rows k → ¬ B k) : TL w' base T pv rv uv hi M ps rows ts where
  tb := h.tb
  blk := (hf.block _ (blk_lt h.blk) (hB _ (.inl rfl))).trans h.blk
  pr := own_fr h.pr hf fun b hb => hB b (.inr (.inr (.inl hb)))
  rr := own_fr h.rr hf fun b hb => hB b (.inr (.inr (.inr (.inl hb))))
  rw := fun x hx => ⟨(h.rw x hx).1, (hf.block _ (blk_lt (h.rw x hx).2) (hB _ (.inr (.inr (.inr (.inr (.inr ⟨x, hx, rfl⟩))))))).trans (h.rw x hx).2⟩
  nd := h.nd
  mb := h.mb
  mp := h.mp.kept fun _ ho => (hf.block _ (blk_lt ho) (hB _ (.inr (.inl rfl)))).trans ho
  tu := own_fr h.tu hf fun b hb => hB b (.inr (.inr (.inr (.inr (.inl hb)))))
  w6 := h.w6
  p6 := h.p6
theorem TL.grown {w w' : World} {base T : Nat} {pv rv uv : Value} {hi M : Nat} {ps : List (Nat × Nat)} {rows : List (Nat × List Nat)} {ts : List Int} (h : TL w base T pv rv uv hi M ps rows ts) (hg : Grown w w') : TL w' base T pv rv uv hi M ps rows ts := h.fr (fr_grown hg fun _ => False) fun _ _ e => e
theorem info93 : (Tryd.prog.info? 93).map (fun i => (i.zero, i.size, i.bytes)) = some (some (.agg #[.int .u64 0, .int .u64 0]), 2, 16) := by kernel_rfl
theorem info48 : (Tryd.prog.info? 48).map (fun i => (i.zero, i.size, i.bytes)) = some (some (.slice none 0 0), 1, 24) := by kernel_rfl
theorem info70 : (Tryd.prog.info? 70).map (fun i => (i.zero, i.size, i.bytes)) = some (some (.int .u64 0), 1, 8) := by kernel_rfl
/-- a row and its block: whatever an append makes of it -/
theorem run_app {w : World} (base : Nat) {t ty e : TypeId} {z : Value} {size bytes : Nat} (hinf : (Tryd.prog.info? e).map (fun i => (i.zero, i.size, i.bytes)) = some (some z, size, bytes)) (ht : Tryd.prog.underlying t = some (.slice e)) (hzs : z.cells.size = size) (hsz : 0 < size)
    {v : Value} {n : Nat} {xs : List Value} (hown : w.ownsRow base e size v n xs) {g m c : Nat} {news : List Value} (hl : news.length = m * size) (hc : w.heap[g]? = some (.cells news.toArray e (0, 0))) (h1 : ∀ u ∈ news, u.oneCell' = true) (hn : n + m ≤ maxLen) (hb : (n + m) * bytes ≤ 140737488355328) (hbase : base ≤ w.heap.size) :
    ∃ v' w', (Builtin.append_ #[t, t] ty #[v, .slice (some ⟨g, 0, none⟩) m c]).run Tryd.prog w = .ok v' w' ∧ w'.ownsRow base e size v' (n + m) (xs ++ news) ∧ w.grownBy w' v.ownBlock ∧ Loc w v v' := by
  obtain ⟨i0, hi, hz0, hz1, hz2⟩ := info_parts hinf
  obtain ⟨v', w', hr, h2, h3, _, h5⟩ := run_append_own_at (P := Tryd.prog) w base t ty e i0 z size bytes ht hi hz0 hz1 hz2 hzs hsz v n xs hown ⟨g, 0, none⟩ m c news hl (fun j u hj => by
    rw [add_zero_at]
    exact heap_cellv hc (by simpa using hj)) h1 hn hb hbase
  refine ⟨v', w', hr, h2, h3, ?_⟩
  rcases h5 with h5 | h5
  · exact .inl h5
  · exact .inr ⟨_, h5, Nat.le_refl _⟩
/-- an append, its run known -/
theorem op_append {o : Oper} {a : Act} {w w' : World} {v' : Value} {K : Act → World → Prop} {Q : Exit → Act → World → Prop} {s x : Operand} {t : TypeId} (ho : o.op = .call { callee := .builtin .append, args := #[s, x], argTypes := #[t, t] }) {u y : Value} (hs : a.eval s = u) (hx : a.eval x = y) (hr : (Builtin.append_ #[t, t] o.type #[u, y]).run Tryd.prog w = .ok v' w') (h : K (a.put o.dst v') w') : Oper.wp Tryd.prog o a w K Q := by
  unfold Oper.wp execOp
  simp only [ho, resolve, invoke, builtin, Sem.run_bind, Sem.run_pure, Result.andThen_ok, List.map_toArray, List.map_cons, List.map_nil, hs, hx, hr]
  exact h
end Go.Proofs
