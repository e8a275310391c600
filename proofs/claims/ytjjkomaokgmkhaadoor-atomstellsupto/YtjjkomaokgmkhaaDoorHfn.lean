/-
  The number of the pair that tells of all sets.
-/
import Derived.RangeFuncNested
import Derived.RangeFuncBound
import Derived.RangeFuncCalls
import Derived.RangeFuncLeaves
import Derived.Shelf.Abstract
import Derived.Shelf.RegionOpen
import Derived.WalkKit
import Derived.WalkSpells
import Derived.WalkLawsBesides
import Derived.OwnWalkIn
import Derived.TacticsInMore
import Derived.LoopNIn
import Derived.LoopIn
import Derived.BigQuiet
import Derived.RegionIn
import Derived.Deep.QuietTactic
import Derived.Deep.RegionWith
import Derived.Lib.OthersKept
import Derived.Maps.AppendAt
import Derived.Lib.SmallJoins
import Derived.Shelf.SlSortCmp.QuietGrown
import Derived.Test.YtjjkomaokgmkhaaDoorHen
namespace Go.Proofs
open Go.RowKit Go.Shelf

set_option maxRecDepth 100000
attribute [local go_sem] Oper.semAt_some
attribute [local go_sem ↓] Go.wp_at_zero Go.wp_at_succ

/-- the row of rows -/
theorem TL.rows_at {w : World} {base T : Nat} {pv rv uv : Value} {hi M : Nat} {ps : List (Nat × Nat)} {rows : List (Nat × List Nat)} {ts : List Int} (h : TL w base T pv rv uv hi M ps rows ts) (hne : rows ≠ []) : ∃ rb rc, rv = .slice (some ⟨rb, 0, none⟩) rows.length rc ∧ ∀ k (hk : k < rows.length), w.cell? ⟨rb, k, none⟩ = some (.slice (some ⟨rows[k].1, 0, none⟩) rows[k].2.length rows[k].2.length) := by
  obtain ⟨hl, hr⟩ := h.rr
  rcases hr with ⟨_, h0⟩ | ⟨g, cap, cur, rfl, _, hg, hc, _, hs, ht⟩
  · exact absurd (List.eq_nil_of_length_eq_zero h0) hne
  · refine ⟨g, cap, rfl, fun k hk => heap_cellv hg ?_⟩
    have h1 : (rows.map rowV)[k]? = some (rowV rows[k]) := by rw [List.getElem?_map, List.getElem?_eq_getElem hk]; rfl
    rw [← ht, List.getElem?_take, if_pos (by omega), Array.getElem?_toList] at h1
    exact h1
theorem TL.cell_at {w : World} {base T : Nat} {pv rv uv : Value} {hi M : Nat} {ps : List (Nat × Nat)} {rows : List (Nat × List Nat)} {ts : List Int} (h : TL w base T pv rv uv hi M ps rows ts) {k : Nat} (hk : k < rows.length) {j : Nat} (hj : j < rows[k].2.length) : w.cell? ⟨rows[k].1, j, none⟩ = some (.int .u64 ((rows[k].2.getD j 0 : Nat) : Int)) ∧ w.frozen? ⟨rows[k].1, j, none⟩ = false := by
  have hb := (h.rw _ (List.getElem_mem hk)).2
  refine ⟨heap_cellv hb ?_, free_of hb⟩
  simp [uwv, hj, List.getD_eq_getElem?_getD]
set_option maxHeartbeats 4000000 in
theorem which_any {w : World} {base T : Nat} {pv rv uv : Value} {hi M : Nat} {ps : List (Nat × Nat)} {rows : List (Nat × List Nat)} {ts : List Int} (h : TL w base T pv rv uv hi M ps rows ts) {b x : Nat} {z : List Nat} (hr : rows[hi]? = some (b, x :: z)) (_hb : rows.length ≤ 1000000000002) : Calls Tryd.prog 37 #[.pointer (some ⟨T, 0, none⟩)] w fun e w' => e = .returned (.int .u64 (x : Int)) ∧ Grown w w' := by
  obtain ⟨hk, hre⟩ := List.getElem?_eq_some_iff.1 hr
  obtain ⟨rb, rc, hrv, hat⟩ := h.rows_at (fun e => by rw [e] at hk; simp at hk)
  have h1 := hat hi hk
  have h2 := (h.cell_at hk (j := 0) (by rw [hre]; simp)).1
  rw [hre] at h1 h2
  obtain ⟨zn, hzn⟩ : ∃ zn, (x :: z).length = zn := ⟨_, rfl⟩
  have hzp : 0 < zn := by rw [← hzn]; simp
  have h2 : w.cell? ⟨b, 0, none⟩ = some (.int .u64 (x : Int)) := h2
  have h1 : w.cell? ⟨rb, hi, none⟩ = some (.slice (some ⟨b, 0, none⟩) zn zn) := by rw [← hzn]; exact h1
  subst hrv
  obtain ⟨rn, hrn⟩ : ∃ rn, rows.length = rn := ⟨_, rfl⟩
  rw [hrn] at hk
  have c1 : w.cell? ⟨T, 1, none⟩ = some (.int .i64 (hi : Int)) := heap_cellv h.blk rfl
  have c2 : w.cell? ⟨T, 2, none⟩ = some (.slice (some ⟨rb, 0, none⟩) rn rc) := by rw [← hrn]; exact heap_cellv h.blk rfl
  clear h hr hre hat hzn hrn
  go_enter Tryd.func37, Tryd.ntmps37
  go_wp2
  go_big_quiet (fail)
  go_wp2
  go_ret
  exact ⟨rfl, (Grown.refl _).drewN _⟩
end Go.Proofs
