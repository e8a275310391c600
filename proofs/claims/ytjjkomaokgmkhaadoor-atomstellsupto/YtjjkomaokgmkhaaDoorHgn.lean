/-
  A tally while it is turned.
-/
import Derived.RangeFuncNested
import Derived.RangeFuncBound
import Derived.RangeFuncCalls
import Derived.RangeFuncLeaves
import Derived.Shelf.Abstract
import Derived.Shelf.RegionOpen
import Derived.WalkKit
import Derived.WalkSpells
import Derived.WalkLawsBesides
import Derived.OwnWalkIn
import Derived.TacticsInMore
import Derived.LoopNIn
import Derived.LoopIn
import Derived.BigQuiet
import Derived.RegionIn
import Derived.Deep.QuietTactic
import Derived.Deep.RegionWith
import Derived.Lib.OthersKept
import Derived.Maps.AppendAt
import Derived.Lib.SmallJoins
import Derived.Shelf.SlSortCmp.QuietGrown
import Derived.Test.YtjjkomaokgmkhaaDoorHfn
namespace Go.Proofs
open Go.RowKit Go.Shelf

set_option maxRecDepth 100000
attribute [local go_sem] Oper.semAt_some
attribute [local go_sem ↓] Go.wp_at_zero Go.wp_at_succ

theorem TL.uv_ne {w : World} {base T : Nat} {pv rv uv : Value} {hi M : Nat} {ps : List (Nat × Nat)} {rows : List (Nat × List Nat)} {ts : List Int} (h : TL w base T pv rv uv hi M ps rows ts) {b : Nat} (hb : uv.ownBlock = some b) : b ≠ T ∧ b ≠ M ∧ pv.ownBlock ≠ some b ∧ rv.ownBlock ≠ some b ∧ ∀ x ∈ rows, x.1 ≠ b := by
  obtain ⟨cs, ho⟩ := own_obj h.tu hb
  obtain ⟨es, c, hm⟩ := h.mp.isMap
  refine ⟨fun e => ?_, fun e => ?_, own_ne h.tu h.pr (by decide) hb, own_ne h.tu h.rr (by decide) hb, fun x hx e => ?_⟩
  · rw [e, h.blk] at ho; injection ho with ho; injection ho with _ ho _; cases ho
  · rw [e, hm] at ho; cases ho
  · have := (h.rw x hx).2; rw [e, ho] at this; injection this with this; injection this with _ this _; cases this
/-- what is touched is written over where it lies -/
theorem TL.tin {w W : World} {base T : Nat} {pv rv uv : Value} {hi M : Nat} {ps : List (Nat × Nat)} {rows : List (Nat × List Nat)} {ts : List Int} (h : TL w base T pv rv uv hi M ps rows ts) (hf : Fr w W (fun k => uv.ownBlock = some k)) {ts' : List Int} (hown : OwnI W base uv ts') : TL W base T pv rv uv hi M ps rows ts' := by
  have hT := h.T_ne
  have hM := h.M_ne
  exact ⟨h.tb, (hf.block _ (blk_lt h.blk) hT.2.2.1).trans h.blk, own_fr h.pr hf fun b hb e => (h.uv_ne e).2.2.1 hb, own_fr h.rr hf fun b hb e => (h.uv_ne e).2.2.2.1 hb, fun x hx => ⟨(h.rw x hx).1, (hf.block _ (blk_lt (h.rw x hx).2) fun e => (h.uv_ne e).2.2.2.2 x hx rfl).trans (h.rw x hx).2⟩, h.nd, h.mb, h.mp.kept fun o ho => (hf.block _ (blk_lt ho) hM.2.2.1).trans ho, hown, h.w6, h.p6⟩
/-- what is touched is another row -/
theorem TL.tou {w W : World} {base T : Nat} {pv rv uv : Value} {hi M : Nat} {ps : List (Nat × Nat)} {rows : List (Nat × List Nat)} {ts : List Int} (h : TL w base T pv rv uv hi M ps rows ts) (hf : Fr w W (fun k => uv.ownBlock = some k)) {v' : Value} {ts' : List Int} (hown : OwnI W base v' ts') :
    W.heap[T]? = some (.cells #[pv, .int .i64 (hi : Int), rv, .map (some M), uv] 83 (0, 0)) ∧ TL (W.setCell ⟨T, 4, none⟩ v') base T pv rv v' hi M ps rows ts' ∧ Fr w (W.setCell ⟨T, 4, none⟩ v') (fun k => k = T ∨ uv.ownBlock = some k) := by
  have hT := h.T_ne
  have hM := h.M_ne
  have e4 : W.heap[T]? = some (.cells #[pv, .int .i64 (hi : Int), rv, .map (some M), uv] 83 (0, 0)) := (hf.block _ (blk_lt h.blk) hT.2.2.1).trans h.blk
  have f5 : Fr w (W.setCell ⟨T, 4, none⟩ v') (fun k => k = T ∨ uv.ownBlock = some k) := (hf.mono fun _ _ e => .inr e).trans (fr_set _ _ _ _) fun _ _ e => .inl e
  have hvT : v'.ownBlock ≠ some T := fun e => by obtain ⟨cs, ho⟩ := own_obj hown e; rw [e4] at ho; injection ho with ho; injection ho with _ ho _; cases ho
  refine ⟨e4, ⟨h.tb, (set_heap e4).trans rfl, ?_, ?_, fun x hx => ?_, h.nd, h.mb, ?_, ?_, h.w6, h.p6⟩, f5⟩
  · exact own_fr h.pr f5 fun b hb e => e.elim (fun e => hT.1 (by rw [← e]; exact hb)) fun e => (h.uv_ne e).2.2.1 hb
  · exact own_fr h.rr f5 fun b hb e => e.elim (fun e => hT.2.1 (by rw [← e]; exact hb)) fun e => (h.uv_ne e).2.2.2.1 hb
  · refine ⟨(h.rw x hx).1, (f5.block _ (blk_lt (h.rw x hx).2) fun e => ?_).trans (h.rw x hx).2⟩
    rcases e with e | e
    · exact hT.2.2.2 x hx e
    · exact (h.uv_ne e).2.2.2.2 x hx rfl
  · refine h.mp.kept fun o ho => (f5.block _ (blk_lt ho) fun e => ?_).trans ho
    rcases e with e | e
    · exact h.neT e.symm
    · exact hM.2.2.1 e
  · exact own_fr hown (fr_set _ _ _ _) fun b hb e => hvT (by rw [← (show b = T from e)]; exact hb)
theorem nodup_at {α : Type} {l : List α} (h : l.Nodup) {i j : Nat} (hi : i < l.length) (hj : j < l.length) (e : l[i] = l[j]) : i = j := nodup_idx h (List.getElem?_eq_getElem hi) (by rw [List.getElem?_eq_getElem hj, e])
/-- a word is written -/
theorem TL.put {w : World} {base T : Nat} {pv rv uv : Value} {hi M : Nat} {ps : List (Nat × Nat)} {rows : List (Nat × List Nat)} {ts : List Int} (h : TL w base T pv rv uv hi M ps rows ts) {k : Nat} (hk : k < rows.length) {j : Nat} (_hj : j < rows[k].2.length) {x : Nat} (hx : x < 18446744073709551616) :
    TL (w.setCell ⟨rows[k].1, j, none⟩ (.int .u64 (x : Int))) base T pv rv uv hi M ps (rows.set k (rows[k].1, rows[k].2.set j x)) ts ∧ Fr w (w.setCell ⟨rows[k].1, j, none⟩ (.int .u64 (x : Int))) (fun b => b = rows[k].1) := by
  have hm := List.getElem_mem hk
  have hT := h.T_ne
  have hM := h.M_ne
  have f5 := fr_set w rows[k].1 j (.int .u64 (x : Int))
  have hb := (h.rw _ hm).2
  have hrv : (rows.set k (rows[k].1, rows[k].2.set j x)).map rowV = rows.map rowV := by
    apply List.ext_getElem?
    intro i
    rw [List.getElem?_map, List.getElem?_map, List.getElem?_set]
    split
    · rename_i e
      subst e
      rw [List.getElem?_eq_getElem hk]
      simp [rowV]
    · rfl
  have hfst : (rows.set k (rows[k].1, rows[k].2.set j x)).map Prod.fst = rows.map Prod.fst := by
    apply List.ext_getElem?
    intro i
    rw [List.getElem?_map, List.getElem?_map, List.getElem?_set]
    split
    · rename_i e
      subst e
      rw [List.getElem?_eq_getElem hk]
      rfl
    · rfl
  refine ⟨⟨h.tb, (f5.block _ (blk_lt h.blk) (Ne.symm (hT.2.2.2 _ hm))).trans h.blk, own_fr h.pr f5 fun b hb e => (h.pv_ne hb).2.2.2.2 _ hm (show rows[k].1 = b from e.symm), ?_, fun y hy => ?_, by rw [hfst]; exact h.nd, h.mb, h.mp.kept fun o ho => (f5.block _ (blk_lt ho) (Ne.symm (hM.2.2.2 _ hm))).trans ho, own_fr h.tu f5 fun b hb e => (h.uv_ne hb).2.2.2.2 _ hm (show rows[k].1 = b from e.symm), fun y hy => ?_, h.p6⟩, f5⟩
  · rw [List.length_set, hrv]
    exact own_fr h.rr f5 fun b hb e => (h.rv_ne hb).2.2.2.2 _ hm (show rows[k].1 = b from e.symm)
  · obtain ⟨i, hi, rfl⟩ := List.getElem_of_mem hy
    rw [List.length_set] at hi
    rw [List.getElem_set]
    by_cases e : k = i
    · subst e
      rw [if_pos rfl]
      refine ⟨(h.rw _ hm).1, (set_heap hb).trans ?_⟩
      simp [rowO, uwv, List.map_set]
    · rw [if_neg e]
      have hmi := List.getElem_mem hi
      refine ⟨(h.rw _ hmi).1, (f5.block _ (blk_lt (h.rw _ hmi).2) fun e2 => e (nodup_at h.nd (by simpa using hk) (by simpa using hi) (by simpa using e2.symm))).trans (h.rw _ hmi).2⟩
  · obtain ⟨i, hi, rfl⟩ := List.getElem_of_mem hy
    rw [List.length_set] at hi
    rw [List.getElem_set]
    by_cases e : k = i
    · subst e
      rw [if_pos rfl]
      exact (h.w6 _ hm).set j hx
    · rw [if_neg e]
      exact h.w6 _ (List.getElem_mem hi)
theorem OwnI.cut {w : World} {base : Nat} {a : Option Addr} {n c : Nat} {l : List Int} (h : OwnI w base (.slice a n c) l) : OwnI w base (.slice a 0 c) [] := by
  refine ⟨rfl, ?_⟩
  rcases h.2 with ⟨e, _⟩ | ⟨g, cap, cur, e, h1, h2, _, h4, h5, _⟩
  · injection e with e1 e2 e3
    subst e1; subst e3
    exact .inl ⟨rfl, rfl⟩
  · injection e with e1 e2 e3
    subst e1; subst e3
    exact .inr ⟨g, c, cur, rfl, h1, h2, Nat.zero_le _, h4, h5, by simp [ints]⟩
end Go.Proofs
