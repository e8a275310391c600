/-
  Each text begins with a token or is refused; a token by itself is read so again.
-/
import Derived.Shelf.Abstract
import Derived.Shelf.RegionOpen
import Derived.WalkKit
import Derived.WalkSpells
import Derived.WalkLawsBesides
import Derived.BigQuiet
import Derived.Deep.QuietTactic
import Derived.Deep.LoopGhost
import Derived.Lib.OthersKept
import Derived.ScopeJumps
import Derived.WalkMore
import Derived.Maps.AppendAt
import Derived.Lib.SmallJoins
import Derived.Test.YthjjkenmlkekbaaDoorCo
import Derived.Test.YthjjkenmlkekbaaDoorMd
namespace Go.Proofs
open Go.RowKit Go.Shelf

set_option maxRecDepth 100000
attribute [local go_sem] Oper.semAt_some


/-! lists -/
theorem span_take (f : UInt8 → Bool) : ∀ (M : List UInt8) (q : Nat), spanN f (M.take q) = min (spanN f M) q
  | [], q => by simp [spanN]
  | b :: M, 0 => by simp [spanN]
  | b :: M, q + 1 => by
    rw [List.take_succ_cons, spanN_cons, spanN_cons, span_take f M q]
    split <;> omega
theorem past_take : ∀ (b : Bool) (M : List UInt8), pastN b (M.take (pastN b M)) = pastN b M
  | b, [] => by cases b <;> simp [pastN]
  | true, c :: M => by
    have ih := past_take (c.toNat != 10) M
    simp only [pastN]
    rw [Nat.add_comm, List.take_succ_cons, pastN, ih, Nat.add_comm]
  | false, c :: M => by
    have ih1 := past_take false M
    have ih2 := past_take true M
    simp only [pastN]
    split
    · rename_i h; rw [Nat.add_comm, List.take_succ_cons, pastN, if_pos h, ih1, Nat.add_comm]
    · rename_i h
      split
      · rename_i h2; rw [Nat.add_comm, List.take_succ_cons, pastN, if_neg h, if_pos h2, ih2, Nat.add_comm]
      · simp [pastN]
theorem past_drop : ∀ (b : Bool) (M : List UInt8), pastN false (M.drop (pastN b M)) = 0
  | b, [] => by cases b <;> simp [pastN]
  | true, c :: M => by
    have ih := past_drop (c.toNat != 10) M
    simp only [pastN]
    rw [Nat.add_comm, List.drop_succ_cons]
    exact ih
  | false, c :: M => by
    have ih1 := past_drop false M
    have ih2 := past_drop true M
    simp only [pastN]
    split
    · rw [Nat.add_comm, List.drop_succ_cons]; exact ih1
    · rename_i h
      split
      · rw [Nat.add_comm, List.drop_succ_cons]; exact ih2
      · rename_i h2; rw [List.drop_zero]; exact pastN_stop (by simpa using h) h2 M
/-! the beginning of a text -/
theorem ext0_size (r : ByteArray) {l : Nat} (h : l ≤ r.size) : (r.extract 0 l).size = l := by rw [ByteArray.size_extract]; omega
theorem ext0_at (r : ByteArray) {l i : Nat} (h : l ≤ r.size) (hi : i < l) : (r.extract 0 l)[i]'(by rw [ext0_size r h]; exact hi) = r[i] := by
  have h1 := get_ext r 0 l i (by omega) h
  rw [get_bang _ _ (by rw [ext0_size r h]; exact hi), get_bang _ _ (by omega)] at h1
  simpa using h1
theorem ext0_drop (r : ByteArray) {l : Nat} (j : Nat) : ((r.extract 0 l).extract j (r.extract 0 l).size).data.toList = (r.data.toList.drop j).take (l - j) := by
  rw [ext_drop, ext_take, List.drop_take]
theorem ext0_pre (r : ByteArray) {a l : Nat} (h : a ≤ l) : (r.extract 0 l).extract 0 a = r.extract 0 a := by
  apply ByteArray.ext
  apply Array.toList_inj.1
  rw [ext_take, ext_take, ext_take, List.take_take]
  congr 1
  omega
/-- read by itself, it is the same token -/
def Alone (r : ByteArray) (k : Int) (l : Nat) (u : Int) (t : ByteArray) (n : Int) : Prop := Tells 25 #[.string (r.extract 0 l), .bool true] k 0 l u t n 0
/-- a text begins with a token, or is refused -/
def Begins (r : ByteArray) (fresh : Bool) : Prop :=
  (∃ e0, e0 ≠ 0 ∧ Tells 25 #[.string r, .bool fresh] 0 0 0 0 ⟨#[]⟩ 0 e0) ∨ (∃ (k : Int) (l : Nat) (u : Int) (t : ByteArray) (n : Int), Tells 25 #[.string r, .bool fresh] k 0 l u t n 0 ∧ 0 < l ∧ l ≤ r.size ∧ (t = ⟨#[116, 104, 101, 110]⟩ ∨ Alone r k l u t n))
/-! signs -/
theorem idx_sgn (c : UInt8) : Lib.indexByte sgnL c = -1 ∨ ∃ i : Nat, Lib.indexByte sgnL c = (i : Int) := by
  have := (sgn_bound c).2
  by_cases h : Lib.indexByte sgnL c = -1
  · exact .inl h
  · exact .inr ⟨(Lib.indexByte sgnL c).toNat, by omega⟩
theorem begins_sign (r : ByteArray) (hs : r.size ≤ maxLen) (h0 : 0 < r.size) (fresh : Bool) (i : Nat) (hi : Lib.indexByte sgnL r[0] = (i : Int)) (hp : Lib.hasPrefix r.data.toList [91, 58] = false) (hd : r[0].toNat = 36 → spanN isNm (r.extract 1 r.size).data.toList = 0) : Begins r fresh := by
  have hz := ext0_size r (l := 1) h0
  have ha := ext0_at r (l := 1) (i := 0) h0 (by omega)
  have hpa : Lib.hasPrefix (r.extract 0 1).data.toList [91, 58] = false := by
    cases hc : Lib.hasPrefix (r.extract 0 1).data.toList [91, 58]
    · rfl
    · have := pre_len hc
      rw [ext_take, List.length_take] at this
      simp at this
      omega
  by_cases h36 : r[0].toNat = 36
  · refine .inr ⟨10 + i, 1, 0, ⟨#[]⟩, 0, first_sign36 r fresh i hs h0 h36 (hd h36) hp hi, by omega, h0, .inr ?_⟩
    exact first_sign36 (r.extract 0 1) true i (by rw [hz]; exact small 1 (by omega)) (by omega) (by rw [ha]; exact h36) (by rw [ext0_drop]; simp [spanN]) hpa (by rw [ha]; exact hi)
  · refine .inr ⟨10 + i, 1, 0, ⟨#[]⟩, 0, first_sign r fresh i hs h0 h36 hp hi, by omega, h0, .inr ?_⟩
    exact first_sign (r.extract 0 1) true i (by rw [hz]; exact small 1 (by omega)) (by omega) (by rw [ha]; exact h36) hpa (by rw [ha]; exact hi)
/-! names -/
theorem begins_var (r : ByteArray) (hs : r.size ≤ maxLen) (h0 : 0 < r.size) (fresh : Bool) (h36 : r[0].toNat = 36) (m : Nat) (hm : spanN isNm (r.extract 1 r.size).data.toList = m) (hm0 : 0 < m) : Begins r fresh := by
  by_cases h32 : m ≤ 32
  · have hle : 1 + m ≤ r.size := by
      have := spanN_le isNm (r.extract 1 r.size).data.toList
      rw [hm, ext_drop] at this
      simp at this
      omega
    have hz := ext0_size r hle
    have ha := ext0_at r (i := 0) hle (by omega)
    have hma : spanN isNm ((r.extract 0 (1 + m)).extract 1 (r.extract 0 (1 + m)).size).data.toList = m := by
      rw [ext0_drop, span_take, ← ext_drop, hm]; omega
    refine .inr ⟨2, 1 + m, 0, r.extract 0 (1 + m), 0, ?_, by omega, hle, .inr ?_⟩
    · have := first_var r fresh 2 0 (1 + m) 0 (r.extract 0 (1 + m)) 0 0 hs h0 m h36 hm hm0 (fun w => variable_ok r m w hs h0 hm h32)
      simpa using this
    · have := first_var (r.extract 0 (1 + m)) true 2 0 (1 + m) 0 (r.extract 0 (1 + m)) 0 0 (by rw [hz]; omega) (by omega) m (by rw [ha]; exact h36) hma hm0 (fun w => by
        have := variable_ok (r.extract 0 (1 + m)) m w (by rw [hz]; omega) (by omega) hma h32
        rwa [ext0_pre r (Nat.le_refl _)] at this)
      simpa [Alone] using this
  · exact .inl ⟨42, by decide, first_var r fresh 0 0 0 0 ⟨#[]⟩ 0 42 hs h0 m h36 hm hm0 (fun w => variable_bad r m w hs h0 hm (by omega))⟩
end Go.Proofs
