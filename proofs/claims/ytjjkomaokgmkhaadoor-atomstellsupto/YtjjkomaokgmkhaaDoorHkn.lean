/-
  What is touched is halved.
-/
import Derived.RangeFuncNested
import Derived.RangeFuncBound
import Derived.RangeFuncCalls
import Derived.RangeFuncLeaves
import Derived.Shelf.Abstract
import Derived.Shelf.RegionOpen
import Derived.WalkKit
import Derived.WalkSpells
import Derived.WalkLawsBesides
import Derived.OwnWalkIn
import Derived.TacticsInMore
import Derived.LoopNIn
import Derived.LoopIn
import Derived.BigQuiet
import Derived.RegionIn
import Derived.Deep.QuietTactic
import Derived.Deep.RegionWith
import Derived.Lib.OthersKept
import Derived.Maps.AppendAt
import Derived.Lib.SmallJoins
import Derived.Shelf.SlSortCmp.QuietGrown
import Derived.Test.YtjjkomaokgmkhaaDoorHjn
namespace Go.Proofs
open Go.RowKit Go.Shelf

set_option maxRecDepth 100000
attribute [local go_sem] Oper.semAt_some
attribute [local go_sem ↓] Go.wp_at_zero Go.wp_at_succ

theorem compact_cast (zs : List Nat) : Lib.compact (zs.map fun (x : Nat) => (x : Int)) = (Lib.compact zs).map fun (x : Nat) => (x : Int) := by
  have h : ∀ j, j < zs.length → (zs.map fun (x : Nat) => (x : Int)).toArray[j]! = ((zs.toArray[j]! : Nat) : Int) := fun j hj => by simp [hj]
  unfold Lib.compact Lib.compactUpTo
  rw [List.map_map, List.length_map]
  have e : (List.range zs.length).filter (Lib.keeps (zs.map fun (x : Nat) => (x : Int)).toArray) = (List.range zs.length).filter (Lib.keeps zs.toArray) := by
    refine List.filter_congr fun j hj => ?_
    have hj := List.mem_range.1 hj
    unfold Lib.keeps
    rw [h j hj, h (j - 1) (by omega)]
    exact decide_eq_decide.2 (by rw [Ne, Ne, Int.ofNat_inj])
  rw [e]
  refine List.map_congr_left fun j hj => ?_
  exact h j (List.mem_range.1 (List.mem_filter.1 hj).1)
/-- while what is touched is halved -/
def FH (wr wj : World) (base : Nat) (va : Option Addr) (vn vc : Nat) (tsk : List Nat) (j : Nat) : Prop :=
  OwnI wj base (.slice va vn vc) (((tsk.take j).map (· / 2) ++ tsk.drop j).map fun (x : Nat) => (x : Int)) ∧ Fr wr wj (fun k => (Value.slice va vn vc).ownBlock = some k)
theorem FH.at {wr wj : World} {base : Nat} {va : Option Addr} {vn vc : Nat} {tsk : List Nat} {j : Nat} (h : FH wr wj base va vn vc tsk j) (hj : j < tsk.length) : ∃ ug, va = some ⟨ug, 0, none⟩ ∧ wj.cell? ⟨ug, j, none⟩ = some (.int .i64 ((tsk.getD j 0 : Nat) : Int)) ∧ wj.frozen? ⟨ug, j, none⟩ = false := by
  have hl : (((tsk.take j).map (· / 2) ++ tsk.drop j).map fun (x : Nat) => (x : Int)).length = tsk.length := by simp; omega
  obtain ⟨g, cur, h1, _, _, h4, _, _, _, h8⟩ := own_cells h.1 (fun e => by rw [e] at hl; simp at hl; omega)
  refine ⟨g, h1, heap_cellv h4 ?_, free_of h4⟩
  rw [h8 j (by omega)]
  congr 2
  rw [List.getD_eq_getElem?_getD, List.getElem?_map, List.getElem?_append_right (by simp; omega)]
  simp [Nat.min_eq_left (Nat.le_of_lt hj), List.getD_eq_getElem?_getD, hj]
theorem FH.step {wr wj : World} {base ug : Nat} {vn vc : Nat} {tsk : List Nat} {j : Nat} (h : FH wr wj base (some ⟨ug, 0, none⟩) vn vc tsk j) (hj : j < tsk.length) (hvn : vn = tsk.length) : FH wr (wj.setCell ⟨ug, j, none⟩ (.int .i64 ((tsk.getD j 0 / 2 : Nat) : Int))) base (some ⟨ug, 0, none⟩) vn vc tsk (j + 1) := by
  have hl : (((tsk.take j).map (· / 2) ++ tsk.drop j).map fun (x : Nat) => (x : Int)).length = vn := by simp; omega
  have h1 := h.1
  unfold OwnI at h1
  rw [hl] at h1
  have h2 := h1.stored j (.int .i64 ((tsk.getD j 0 / 2 : Nat) : Int))
  refine ⟨?_, h.2.trans (fr_set _ _ _ _) fun k _ e => by rw [show k = ug from e]; rfl⟩
  unfold OwnI
  have e : (((tsk.take (j + 1)).map (· / 2) ++ tsk.drop (j + 1)).map fun (x : Nat) => (x : Int)) = (((tsk.take j).map (· / 2) ++ tsk.drop j).map fun (x : Nat) => (x : Int)).set j ((tsk.getD j 0 / 2 : Nat) : Int) := by
    apply List.ext_getElem?
    intro i
    rw [List.getElem?_set]
    simp only [List.getElem?_map, List.length_map]
    split
    · rename_i e
      subst e
      rw [if_pos (by simp; omega), List.getElem?_append_left (by simp; omega)]
      simp [hj, List.getD_eq_getElem?_getD]
    · rename_i e
      by_cases hi : i < j
      · rw [List.getElem?_append_left (by simp; omega), List.getElem?_append_left (by simp; omega)]
        simp [hi, show i < j + 1 by omega]
      · rw [List.getElem?_append_right (by simp; omega), List.getElem?_append_right (by simp; omega)]
        simp only [List.length_map, List.length_take, List.getElem?_drop]
        congr 2
        omega
  rw [e, List.length_set, hl]
  have e2 : ints ((((tsk.take j).map (· / 2) ++ tsk.drop j).map fun (x : Nat) => (x : Int)).set j ((tsk.getD j 0 / 2 : Nat) : Int)) = (ints (((tsk.take j).map (· / 2) ++ tsk.drop j).map fun (x : Nat) => (x : Int))).set j (.int .i64 ((tsk.getD j 0 / 2 : Nat) : Int)) := by
    unfold ints
    rw [List.map_set]
  rw [e2]
  exact h2.1

theorem TL.put2 {w : World} {base T : Nat} {pv rv uv : Value} {hi M : Nat} {ps : List (Nat × Nat)} {rows : List (Nat × List Nat)} {ts : List Int} (h : TL w base T pv rv uv hi M ps rows ts) {k b : Nat} {r : List Nat} (hr : rows[k]? = some (b, r)) {j : Nat} (hj : j < r.length) {x : Nat} (hx : x < 18446744073709551616) :
    TL (w.setCell ⟨b, j, none⟩ (.int .u64 (x : Int))) base T pv rv uv hi M ps (rows.set k (b, r.set j x)) ts ∧ Fr w (w.setCell ⟨b, j, none⟩ (.int .u64 (x : Int))) (fun c => c = b) := by
  obtain ⟨hk, e⟩ := List.getElem?_eq_some_iff.1 hr
  have := h.put hk (j := j) (by rw [e]; exact hj) hx
  rw [e] at this
  exact this
theorem TL.cell2 {w : World} {base T : Nat} {pv rv uv : Value} {hi M : Nat} {ps : List (Nat × Nat)} {rows : List (Nat × List Nat)} {ts : List Int} (h : TL w base T pv rv uv hi M ps rows ts) {k b : Nat} {r : List Nat} (hr : rows[k]? = some (b, r)) {j : Nat} (hj : j < r.length) : w.cell? ⟨b, j, none⟩ = some (.int .u64 ((r.getD j 0 : Nat) : Int)) ∧ w.frozen? ⟨b, j, none⟩ = false ∧ r.getD j 0 < 18446744073709551616 := by
  obtain ⟨hk, e⟩ := List.getElem?_eq_some_iff.1 hr
  have := h.cell_at hk (j := j) (by rw [e]; exact hj)
  rw [e] at this
  exact ⟨this.1, this.2, (h.w6 _ (List.mem_of_getElem? hr)).getD j⟩
theorem TL.rat {w : World} {base T rb rn rc : Nat} {pv uv : Value} {hi M : Nat} {ps : List (Nat × Nat)} {rows : List (Nat × List Nat)} {ts : List Int} (h : TL w base T pv (.slice (some ⟨rb, 0, none⟩) rn rc) uv hi M ps rows ts) {k : Nat} (hk : k < rows.length) : w.cell? ⟨rb, k, none⟩ = some (.slice (some ⟨rows[k].1, 0, none⟩) rows[k].2.length rows[k].2.length) := by
  obtain ⟨rb', rc', e, h1⟩ := h.rows_at (fun e => by rw [e] at hk; simp at hk)
  injection e with e1 _ _
  injection e1 with e1
  injection e1 with e1 _ _
  rw [e1]
  exact h1 k hk
theorem TL.rat2 {w : World} {base T rb rn rc : Nat} {pv uv : Value} {hi M : Nat} {ps : List (Nat × Nat)} {rows : List (Nat × List Nat)} {ts : List Int} (h : TL w base T pv (.slice (some ⟨rb, 0, none⟩) rn rc) uv hi M ps rows ts) {k b : Nat} {r : List Nat} (hr : rows[k]? = some (b, r)) : w.cell? ⟨rb, k, none⟩ = some (.slice (some ⟨b, 0, none⟩) r.length r.length) := by
  obtain ⟨hk, e⟩ := List.getElem?_eq_some_iff.1 hr
  have := h.rat hk
  rw [e] at this
  exact this
end Go.Proofs
