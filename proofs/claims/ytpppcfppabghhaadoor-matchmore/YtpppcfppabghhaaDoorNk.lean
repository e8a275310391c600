/-
  One rule more: by thinking, and the longer row of rules as it reads.
-/
import Derived.RangeFuncNested
import Derived.RangeFuncBound
import Derived.RangeFuncCalls
import Derived.RangeFuncLeaves
import Derived.Shelf.Abstract
import Derived.Shelf.RegionOpen
import Derived.WalkKit
import Derived.WalkSpells
import Derived.WalkLawsBesides
import Derived.OwnWalkIn
import Derived.TacticsInMore
import Derived.LoopNIn
import Derived.LoopIn
import Derived.BigQuiet
import Derived.RegionIn
import Derived.Deep.QuietTactic
import Derived.Deep.RegionWith
import Derived.Lib.OthersKept
import Derived.Maps.AppendAt
import Derived.Lib.SmallJoins
import Derived.Shelf.SlSortCmp.QuietGrown
import Derived.Test.YtpppcfppabghhaaDoorNj
namespace Go.Proofs
open Go.RowKit Go.Shelf

set_option maxRecDepth 100000
attribute [local go_sem] Oper.semAt_some
attribute [local go_sem ↓] Go.wp_at_zero Go.wp_at_succ

theorem fdK_more (rs : List Rl) (r : Rl) (d l : List Int) : ∀ k, k ≤ rs.length → fdK (rs ++ [r]) d l k = fdK rs d l k
  | 0, _ => rfl
  | k + 1, hk => by
    have h1 : k < (rs ++ [r]).length := by simp; omega
    rw [fdK_succ d l h1, fdK_succ d l hk, fdK_more rs r d l k (by omega)]
    have e : (rs ++ [r])[k] = rs[k] := List.getElem_append_left hk
    rw [e]
theorem fdF_more {rs : List Rl} {r : Rl} {d l : List Int} {b : Int} {m : Nat} (h0 : (allE rs).2 = 0) (hr : chk r = 0) (hn : rs.length < 256) (hm : fdK rs d l rs.length = (b, m)) :
    fdF (rs ++ [r]) d l = if m < r.key.length ∧ fitB r d l = true then (rs.length : Int) else b := by
  have hc := (allE_chk h0).2
  have hA : allE (rs ++ [r]) = (0, 0) := allE_of (by simp; omega) (fun x hx => by
    rcases List.mem_append.1 hx with hx | hx
    · exact hc x hx
    · rw [List.mem_singleton.1 hx]; exact hr)
  unfold fdF
  rw [hA, if_pos rfl, List.length_append]
  have h1 : rs.length < (rs ++ [r]).length := by simp
  show (fdK (rs ++ [r]) d l (rs.length + 1)).1 = _
  rw [fdK_succ d l h1, fdK_more rs r d l rs.length (Nat.le_refl _), hm]
  have e : (rs ++ [r])[rs.length] = r := by simp
  rw [e]
  split <;> rfl
/-- the seven cells of a rule -/
def r7 (bg : Bool) (av kv pv : Value) (en : Bool) (rv : Value) (cu : Int) : List Value := [.bool bg, av, kv, pv, .bool en, rv, .int .i64 cu]
theorem one_sl {v : Value} (h : IsSl v) : v.oneCell' = true := by obtain ⟨a, n, c, rfl⟩ := h; rfl
theorem rat_cells {w : World} {g o : Nat} {r : Rl} (h : RAt w g o r) : ∀ i, i < 7 → ∃ u, w.cell? ⟨g, o + i, none⟩ = some u ∧ u.oneCell' = true := by
  obtain ⟨av, kv, pv, rv, q0, q1, q2, q3, q4, q5, q6, hR⟩ := h
  intro i hi
  match i, hi with
  | 0, _ => exact ⟨_, q0, rfl⟩
  | 1, _ => exact ⟨_, q1, one_sl hR.a.sl⟩
  | 2, _ => exact ⟨_, q2, one_sl hR.k.sl⟩
  | 3, _ => exact ⟨_, q3, one_sl hR.p.sl⟩
  | 4, _ => exact ⟨_, q4, rfl⟩
  | 5, _ => exact ⟨_, q5, one_sl hR.r.sl⟩
  | 6, _ => exact ⟨_, q6, rfl⟩
/-- the cells of a row of rules -/
def vsOf (w : World) (g o m : Nat) : List Value := (List.range m).map fun j => (w.cell? ⟨g, o + j, none⟩).getD undef
theorem vsOf_at {w : World} {g o : Nat} {rs : List Rl} (h : ∀ (j : Nat) (hj : j < rs.length), RAt w g (o + j * 7) rs[j]) {k : Nat} (hk : k < rs.length * 7) : ∃ u, w.cell? ⟨g, o + k, none⟩ = some u ∧ (vsOf w g o (rs.length * 7))[k]? = some u ∧ u.oneCell' = true := by
  obtain ⟨u, h1, h2⟩ := rat_cells (h (k / 7) (by omega)) (k % 7) (Nat.mod_lt _ (by decide))
  have e : o + k / 7 * 7 + k % 7 = o + k := by have := Nat.div_add_mod k 7; omega
  rw [e] at h1
  refine ⟨u, h1, ?_, h2⟩
  unfold vsOf
  rw [List.getElem?_map, List.getElem?_range hk]
  simp [h1]
theorem vsOf_len (w : World) (g o m : Nat) : (vsOf w g o m).length = m := by simp [vsOf]
theorem vsOf_cell {w : World} {g o : Nat} {rs : List Rl} (h : ∀ (j : Nat) (hj : j < rs.length), RAt w g (o + j * 7) rs[j]) : ∀ j u, (vsOf w g o (rs.length * 7))[j]? = some u → w.cell? ((⟨g, o, none⟩ : Addr).add j) = some u := fun j u hu => by
  have hj := (List.getElem?_eq_some_iff.1 hu).1
  rw [vsOf_len] at hj
  obtain ⟨u', h1, h2, _⟩ := vsOf_at h hj
  rw [h2] at hu
  have hadd : (⟨g, o, none⟩ : Addr).add j = ⟨g, o + j, none⟩ := by unfold Addr.add; split <;> simp_all
  rw [hadd, h1, hu]
theorem vsOf_one {w : World} {g o : Nat} {rs : List Rl} (h : ∀ (j : Nat) (hj : j < rs.length), RAt w g (o + j * 7) rs[j]) : ∀ u ∈ vsOf w g o (rs.length * 7), u.oneCell' = true := fun u hu => by
  obtain ⟨j, hj, e⟩ := List.getElem_of_mem hu
  have hj' := hj
  rw [vsOf_len] at hj'
  obtain ⟨u', _, h2, h3⟩ := vsOf_at h hj'
  rw [List.getElem?_eq_getElem hj, e] at h2
  injection h2 with h2
  rw [h2]; exact h3
theorem psr_more {w W : World} {B g o g6 c : Nat} {rs : List Rl} {r : Rl} {av kv pv rv : Value} (h : ∀ (j : Nat) (hj : j < rs.length), RAt w g (o + j * 7) rs[j]) (hr : RR w av kv pv rv r) (hb : Below w.heap.size w W)
    (ho : W.ownsRow B 28 7 (.slice (some ⟨g6, 0, none⟩) (rs.length + 1) c) (rs.length + 1) (vsOf w g o (rs.length * 7) ++ r7 r.bg av kv pv r.en rv r.cu)) : PsR W (.slice (some ⟨g6, 0, none⟩) (rs.length + 1) c) (rs ++ [r]) := by
  have hc : ∀ j u, (vsOf w g o (rs.length * 7) ++ r7 r.bg av kv pv r.en rv r.cu)[j]? = some u → W.cell? ⟨g6, j, none⟩ = some u := fun j u hu => by
    have := ho.cells (g := g6) rfl j u hu
    rwa [add_zero_at] at this
  have hcap : rs.length + 1 ≤ c := by
    rcases ho.2 with ⟨e, _⟩ | ⟨g', cap, cur, e, _, _, h1, _⟩
    · cases e
    · injection e with e1 e2 e3; omega
  refine ⟨_, c, by simp, by simpa using hcap, .inr ⟨g6, 0, rfl, fun j hj => ?_⟩⟩
  by_cases hlt : j < rs.length
  · have e : (rs ++ [r])[j] = rs[j] := List.getElem_append_left hlt
    rw [e]
    obtain ⟨a1, k1, p1, r1, q0, q1, q2, q3, q4, q5, q6, hR⟩ := h j hlt
    have hcl : ∀ i x, i < 7 → w.cell? ⟨g, o + j * 7 + i, none⟩ = some x → W.cell? ⟨g6, 0 + j * 7 + i, none⟩ = some x := fun i x hi hx => by
      obtain ⟨u, h1, h2, _⟩ := vsOf_at h (k := j * 7 + i) (by omega)
      rw [← Nat.add_assoc, hx] at h1
      injection h1 with h1
      subst h1
      rw [Nat.zero_add]
      exact hc _ _ (by rw [List.getElem?_append_left (by rw [vsOf_len]; omega)]; exact h2)
    exact ⟨a1, k1, p1, r1, hcl 0 _ (by decide) q0, hcl 1 _ (by decide) q1, hcl 2 _ (by decide) q2, hcl 3 _ (by decide) q3, hcl 4 _ (by decide) q4, hcl 5 _ (by decide) q5, hcl 6 _ (by decide) q6, hR.below hb (Nat.le_refl _)⟩
  · obtain rfl : j = rs.length := by simp at hj; omega
    have e : (rs ++ [r])[rs.length] = r := by simp
    rw [e]
    have hcl : ∀ i x, i < 7 → (r7 r.bg av kv pv r.en rv r.cu)[i]? = some x → W.cell? ⟨g6, 0 + rs.length * 7 + i, none⟩ = some x := fun i x hi hx => by
      refine hc _ _ ?_
      rw [List.getElem?_append_right (by rw [vsOf_len]; omega), vsOf_len, show 0 + rs.length * 7 + i - rs.length * 7 = i by omega]
      exact hx
    exact ⟨av, kv, pv, rv, hcl 0 _ (by decide) rfl, hcl 1 _ (by decide) rfl, hcl 2 _ (by decide) rfl, hcl 3 _ (by decide) rfl, hcl 4 _ (by decide) rfl, hcl 5 _ (by decide) rfl, hcl 6 _ (by decide) rfl, hr.below hb (Nat.le_refl _)⟩
end Go.Proofs
