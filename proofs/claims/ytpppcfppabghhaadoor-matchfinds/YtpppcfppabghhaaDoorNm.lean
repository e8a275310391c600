/-
  Which rule fits, and which is next, by thinking.
-/
import Derived.RangeFuncNested
import Derived.RangeFuncBound
import Derived.RangeFuncCalls
import Derived.RangeFuncLeaves
import Derived.Shelf.Abstract
import Derived.Shelf.RegionOpen
import Derived.WalkKit
import Derived.WalkSpells
import Derived.WalkLawsBesides
import Derived.OwnWalkIn
import Derived.TacticsInMore
import Derived.LoopNIn
import Derived.LoopIn
import Derived.BigQuiet
import Derived.RegionIn
import Derived.Deep.QuietTactic
import Derived.Deep.RegionWith
import Derived.Lib.OthersKept
import Derived.Maps.AppendAt
import Derived.Lib.SmallJoins
import Derived.Shelf.SlSortCmp.QuietGrown
import Derived.Test.YtpppcfppabghhaaDoorWd
import Derived.Test.YtpppcfppabghhaaDoorWe
import Derived.Test.YtpppcfppabghhaaDoorQc
namespace Go.Proofs
open Go.RowKit Go.Shelf

set_option maxRecDepth 100000
attribute [local go_sem] Oper.semAt_some
attribute [local go_sem ↓] Go.wp_at_zero Go.wp_at_succ

theorem fstR_ok : ∀ {rs : List Rl} {k : Nat}, (fstR rs k).2 = 0 → ∀ r ∈ rs, chk r = 0
  | [], _, _, r, h => by cases h
  | q :: l, k, h, r, hr => by
    unfold fstR at h
    by_cases hq : chk q = 0
    · rw [if_pos hq] at h
      rcases List.mem_cons.1 hr with rfl | hr
      · exact hq
      · exact fstR_ok h r hr
    · rw [if_neg hq] at h
      exact absurd h hq
theorem allE_chk {rs : List Rl} (h : (allE rs).2 = 0) : rs.length ≤ 256 ∧ ∀ r ∈ rs, chk r = 0 := by
  unfold allE at h
  by_cases hn : 256 < rs.length
  · rw [if_pos hn] at h; cases h
  · rw [if_neg hn] at h
    exact ⟨by omega, fstR_ok h⟩
theorem fstR_zero : ∀ {rs : List Rl} {k : Nat}, (∀ r ∈ rs, chk r = 0) → fstR rs k = (0, 0)
  | [], _, _ => rfl
  | q :: l, k, h => by
    unfold fstR
    rw [if_pos (h q (by simp))]
    exact fstR_zero fun r hr => h r (by simp [hr])
theorem allE_of {rs : List Rl} (hn : rs.length ≤ 256) (h : ∀ r ∈ rs, chk r = 0) : allE rs = (0, 0) := by
  unfold allE
  rw [if_neg (by omega)]
  exact fstR_zero h
/-- whether units have what is asked for; alone: and there are no more -/
def stU : List Int → List (List (Int × Int)) → Bool → Bool
  | us, [], al => !al || us.isEmpty
  | [], _ :: _, _ => false
  | u :: us, s :: ss, al => hasB s u && stU us ss al
theorem stU_end (us : List Int) (al : Bool) : stU us [] al = (!al || us.isEmpty) := by cases us <;> rfl
theorem stU_none (s : List (Int × Int)) (ss : List (List (Int × Int))) (al : Bool) : stU [] (s :: ss) al = false := rfl
theorem stU_cons (u : Int) (us : List Int) (s : List (Int × Int)) (ss : List (List (Int × Int))) (al : Bool) : stU (u :: us) (s :: ss) al = (hasB s u && stU us ss al) := rfl
/-- whether a rule that may be fits -/
def fitB (r : Rl) (d l : List Int) : Bool := stU l (r.key ++ r.post) r.en && stU d.reverse r.ante.reverse r.bg
def fitsB (r : Rl) (d l : List Int) : Bool := decide (chk r = 0) && fitB r d l
/-- the best rule of the first ones, and how long its key is -/
def fdK (rs : List Rl) (d l : List Int) : Nat → Int × Nat
  | 0 => (-1, 0)
  | k + 1 => match rs[k]? with
    | none => fdK rs d l k
    | some r => if (fdK rs d l k).2 < r.key.length ∧ fitB r d l = true then ((k : Int), r.key.length) else fdK rs d l k
def fdF (rs : List Rl) (d l : List Int) : Int := if (allE rs).2 = 0 then (fdK rs d l rs.length).1 else -1
theorem fdK_succ {rs : List Rl} (d l : List Int) {k : Nat} (hk : k < rs.length) : fdK rs d l (k + 1) = if (fdK rs d l k).2 < rs[k].key.length ∧ fitB rs[k] d l = true then ((k : Int), rs[k].key.length) else fdK rs d l k := by
  rw [fdK, List.getElem?_eq_getElem hk]
/-- the best of the first k: none fits, or the longest key, the first of these -/
def Best (rs : List Rl) (d l : List Int) (k : Nat) (b : Int × Nat) : Prop :=
  (b = (-1, 0) ∧ ∀ (i : Nat) (hi : i < rs.length), i < k → fitB rs[i] d l = false) ∨
  ∃ (j : Nat) (hj : j < rs.length), j < k ∧ b = ((j : Int), rs[j].key.length) ∧ fitB rs[j] d l = true ∧ ∀ (i : Nat) (hi : i < rs.length), i < k → fitB rs[i] d l = true → rs[i].key.length ≤ rs[j].key.length ∧ (rs[i].key.length = rs[j].key.length → j ≤ i)
theorem fdK_best {rs : List Rl} (d l : List Int) (hO : ∀ r ∈ rs, 0 < r.key.length) : ∀ k, k ≤ rs.length → Best rs d l k (fdK rs d l k)
  | 0, _ => .inl ⟨rfl, fun _ _ h => by omega⟩
  | k + 1, hk => by
    have hkl : k < rs.length := hk
    have h0 := hO _ (List.getElem_mem hkl)
    rw [fdK_succ d l hkl]
    rcases fdK_best d l hO k (by omega) with ⟨e, h⟩ | ⟨j, hj, hjk, e, hf, h⟩
    · rw [e]
      by_cases hc : fitB rs[k] d l = true
      · rw [if_pos ⟨h0, hc⟩]
        refine .inr ⟨k, hkl, by omega, rfl, hc, fun i hi hik hfi => ?_⟩
        rcases Nat.lt_or_ge i k with h1 | h1
        · rw [h i hi h1] at hfi; cases hfi
        · obtain rfl : i = k := by omega
          exact ⟨Nat.le_refl _, fun _ => Nat.le_refl _⟩
      · rw [if_neg (fun h => hc h.2)]
        refine .inl ⟨rfl, fun i hi hik => ?_⟩
        rcases Nat.lt_or_ge i k with h1 | h1
        · exact h i hi h1
        · obtain rfl : i = k := by omega
          simpa using hc
    · rw [e]
      by_cases hc : rs[j].key.length < rs[k].key.length ∧ fitB rs[k] d l = true
      · rw [if_pos hc]
        refine .inr ⟨k, hkl, by omega, rfl, hc.2, fun i hi hik hfi => ?_⟩
        rcases Nat.lt_or_ge i k with h1 | h1
        · have := h i hi h1 hfi
          have h2 := hc.1
          exact ⟨by omega, fun _ => by omega⟩
        · obtain rfl : i = k := by omega
          exact ⟨Nat.le_refl _, fun _ => Nat.le_refl _⟩
      · rw [if_neg hc]
        refine .inr ⟨j, hj, by omega, rfl, hf, fun i hi hik hfi => ?_⟩
        rcases Nat.lt_or_ge i k with h1 | h1
        · exact h i hi h1 hfi
        · obtain rfl : i = k := by omega
          have : ¬ rs[j].key.length < rs[i].key.length := fun h2 => hc ⟨h2, hfi⟩
          exact ⟨by omega, fun _ => by omega⟩
theorem fdF_best {rs : List Rl} (d l : List Int) (h : (allE rs).2 = 0) : ∃ m, Best rs d l rs.length (fdF rs d l, m) := by
  have h1 := (allE_chk h).2
  have h2 := fdK_best d l (fun r hr => (chk_ok (h1 r hr)).k0) rs.length (Nat.le_refl _)
  refine ⟨(fdK rs d l rs.length).2, ?_⟩
  unfold fdF
  rw [if_pos h]
  exact h2
theorem fitsB_of {r : Rl} {d l : List Int} (h : chk r = 0) : fitsB r d l = fitB r d l := by simp [fitsB, h]
end Go.Proofs
