/-
  Several texts in one (Pl Pm Pn Po).
-/
import Derived.Shelf.Abstract
import Derived.Shelf.RegionOpen
import Derived.WalkKit
import Derived.WalkSpells
import Derived.WalkLawsBesides
import Derived.BigQuiet
import Derived.Deep.QuietTactic
import Derived.Deep.LoopGhost
import Derived.Lib.OthersKept
import Derived.ScopeJumps
import Derived.WalkMore
import Derived.Maps.AppendAt
import Derived.Lib.SmallJoins
import Derived.Test.YtknaoahokopplaaGreatDoorCoc
import Derived.Test.YtknaoahokopplaaGreatDoorMdc
import Derived.Test.YtknaoahokopplaaGreatDoorXgc
namespace Go.Proofs
open Go.RowKit Go.Shelf

set_option maxRecDepth 100000
attribute [local go_sem] Oper.semAt_some


/-! lists -/
theorem past_take : ∀ (b : Bool) (M : List UInt8), pastN b (M.take (pastN b M)) = pastN b M
  | b, [] => by cases b <;> simp [pastN]
  | true, c :: M => by
    have ih := past_take (c.toNat != 10) M
    simp only [pastN]
    rw [Nat.add_comm, List.take_succ_cons, pastN, ih, Nat.add_comm]
  | false, c :: M => by
    have ih1 := past_take false M
    have ih2 := past_take true M
    simp only [pastN]
    split
    · rename_i h; rw [Nat.add_comm, List.take_succ_cons, pastN, if_pos h, ih1, Nat.add_comm]
    · rename_i h
      split
      · rename_i h2; rw [Nat.add_comm, List.take_succ_cons, pastN, if_neg h, if_pos h2, ih2, Nat.add_comm]
      · simp [pastN]
theorem past_drop : ∀ (b : Bool) (M : List UInt8), pastN false (M.drop (pastN b M)) = 0
  | b, [] => by cases b <;> simp [pastN]
  | true, c :: M => by
    have ih := past_drop (c.toNat != 10) M
    simp only [pastN]
    rw [Nat.add_comm, List.drop_succ_cons]
    exact ih
  | false, c :: M => by
    have ih1 := past_drop false M
    have ih2 := past_drop true M
    simp only [pastN]
    split
    · rw [Nat.add_comm, List.drop_succ_cons]; exact ih1
    · rename_i h
      split
      · rw [Nat.add_comm, List.drop_succ_cons]; exact ih2
      · rename_i h2; rw [List.drop_zero]; exact pastN_stop (by simpa using h) h2 M
/-! the beginning of a text -/
theorem ext0_size (r : ByteArray) {l : Nat} (h : l ≤ r.size) : (r.extract 0 l).size = l := by rw [ByteArray.size_extract]; omega
/-! signs -/
theorem idx_sgn (c : UInt8) : Lib.indexByte sgnL c = -1 ∨ ∃ i : Nat, Lib.indexByte sgnL c = (i : Int) := by
  have := (sgn_bound c).2
  by_cases h : Lib.indexByte sgnL c = -1
  · exact .inl h
  · exact .inr ⟨(Lib.indexByte sgnL c).toNat, by omega⟩
/-! names -/


theorem empty_iff (r : ByteArray) : r.toList.isEmpty = true ↔ r.size = 0 := by
  rw [Lib.toList_data, List.isEmpty_iff]
  constructor
  · intro e
    show r.data.size = 0
    rw [← Array.length_toList, e]; rfl
  · intro e
    have : r.data.toList.length = 0 := by rw [Array.length_toList]; exact e
    exact List.eq_nil_of_length_eq_zero this
theorem empty_no {r : ByteArray} (h : 0 < r.size) : r.toList.isEmpty = false := by
  cases hc : r.toList.isEmpty
  · rfl
  · have := (empty_iff r).1 hc; omega




theorem firstU_at (r : ByteArray) (h0 : 0 < r.size) : firstU r = ((uAt r 0 : Int), (uw r 0 : Int)) := by
  have hu : units r = (0, uAt r 0) :: unitsN r (r.size - 1) (0 + uw r 0) := by
    unfold units
    obtain ⟨k, hk⟩ : ∃ k, r.size = k + 1 := ⟨r.size - 1, by omega⟩
    have := unitsN_step r k 0 (by omega)
    rw [hk]
    simpa using this
  unfold firstU
  rw [hu]
  simp only
  rw [wd_uAt]
end Go.Proofs
