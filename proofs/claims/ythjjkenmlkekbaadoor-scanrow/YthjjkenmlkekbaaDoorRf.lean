/-
  What is written is told, with a gap behind it.
-/
import Derived.Shelf.Abstract
import Derived.Shelf.RegionOpen
import Derived.WalkKit
import Derived.WalkSpells
import Derived.WalkLawsBesides
import Derived.BigQuiet
import Derived.Deep.QuietTactic
import Derived.Deep.LoopGhost
import Derived.Lib.OthersKept
import Derived.ScopeJumps
import Derived.WalkMore
import Derived.Maps.AppendAt
import Derived.Lib.SmallJoins
import Derived.Test.YthjjkenmlkekbaaDoorRe
namespace Go.Proofs
open Go.RowKit Go.Shelf

set_option maxRecDepth 100000
attribute [local go_sem] Oper.semAt_some

/-- what a gap begins with -/
def Gp (c : UInt8) : Prop := isWs c = true ∨ c.toNat = 35
theorem Gp.cases {c : UInt8} (h : Gp c) : c.toNat = 32 ∨ c.toNat = 9 ∨ c.toNat = 10 ∨ c.toNat = 13 ∨ c.toNat = 35 := by
  rcases h with h | h
  · simp only [isWs, Bool.or_eq_true, beq_iff_eq] at h; omega
  · omega
theorem Gp.nm {c : UInt8} (h : Gp c) : isNm c = false := by
  have := h.cases
  simp only [isNm, isLt, isDg, Bool.or_eq_false_iff, Bool.and_eq_false_iff, decide_eq_false_iff_not]
  omega
theorem Gp.dg {c : UInt8} (h : Gp c) : isDg c = false := by
  have := h.cases
  simp only [isDg, Bool.and_eq_false_iff, decide_eq_false_iff_not]
  omega
theorem get_list {r : ByteArray} {l : List UInt8} (h : r.data.toList = l) {i : Nat} {b : UInt8} (hb : l[i]? = some b) : ∃ hi : i < r.size, r[i] = b := by
  subst h
  obtain ⟨h1, h2⟩ := List.getElem?_eq_some_iff.1 hb
  exact ⟨by simpa using h1, h2⟩
theorem size_list {r : ByteArray} {l : List UInt8} (h : r.data.toList = l) : r.size = l.length := by
  subst h; simp
theorem ext_list (r : ByteArray) (a n : Nat) : (r.extract a (a + n)).data.toList = (r.data.toList.drop a).take n := by
  simp only [ByteArray.data_extract, Array.toList_extract, List.extract]
  congr 1
  omega
theorem mk_list {r : ByteArray} {l : List UInt8} (h : r.data.toList = l) : r = ⟨l.toArray⟩ := by
  apply ByteArray.ext
  apply Array.toList_inj.1
  rw [h]
theorem tells_var (r : ByteArray) (fresh : Bool) (L T : List UInt8) (c : UInt8) (hs : r.size ≤ maxLen) (hr : r.data.toList = 36 :: (L ++ c :: T)) (hc : Gp c) (hL : ∀ x ∈ L, isNm x = true) (h0 : 0 < L.length) (h32 : L.length ≤ 32) :
    Tells 25 #[.string r, .bool fresh] 2 0 ((L.length + 1 : Nat) : Int) 0 ⟨(36 :: L).toArray⟩ 0 0 := by
  have hz := size_list hr
  simp at hz
  obtain ⟨h1, h36⟩ := get_list hr (i := 0) (b := 36) rfl
  have hsp : spanN isNm (r.extract 1 r.size).data.toList = L.length := by
    rw [ext_drop, hr]
    exact span_app isNm L c T hL hc.nm
  refine first_var r fresh _ _ _ _ _ _ _ hs h1 L.length (by rw [h36]; rfl) hsp h0 (fun w => ?_)
  have := variable_ok r L.length w hs h1 hsp h32
  have e : r.extract 0 (1 + L.length) = ⟨(36 :: L).toArray⟩ := by
    apply mk_list
    rw [ext_take, hr, Nat.add_comm]
    simp
  rwa [e, show (1 : Int) + (L.length : Int) = ((L.length + 1 : Nat) : Int) by omega] at this
theorem tells_class (r : ByteArray) (fresh : Bool) (L T : List UInt8) (hs : r.size ≤ maxLen) (hr : r.data.toList = 91 :: 58 :: (L ++ 58 :: 93 :: T)) (hL : ∀ x ∈ L, isNm x = true) (h0 : 0 < L.length) (h32 : L.length ≤ 32) :
    Tells 25 #[.string r, .bool fresh] 2 0 ((L.length + 4 : Nat) : Int) 0 ⟨(58 :: L ++ [58]).toArray⟩ 0 0 := by
  have hz := size_list hr
  simp at hz
  obtain ⟨h1, h91⟩ := get_list hr (i := 0) (b := 91) rfl
  have hsp : spanN isNm (r.extract 2 r.size).data.toList = L.length := by
    rw [ext_drop, hr]
    exact span_app isNm L 58 (93 :: T) hL (by decide)
  have hx : (r.extract (2 + L.length) r.size).data.toList = 58 :: 93 :: T := by
    rw [ext_drop, hr, Nat.add_comm]
    simp
  have hxz : 0 < (r.extract (2 + L.length) r.size).size := by rw [size_list hx]; simp
  refine first_class r fresh _ _ _ _ _ _ _ hs h1 (by rw [h91]; rfl) (two_pre (by rw [hr]; rfl)) (fun w => ?_)
  have := class_ok r _ L.length w hs (by omega) hsp rfl h32 (two_pre (by rw [hx]; rfl)) h0 (empty_no hxz) (by rw [Lib.toList_data, hx]; rfl) (by omega)
  have e : r.extract 1 (2 + L.length + 1) = ⟨(58 :: L ++ [58]).toArray⟩ := by
    apply mk_list
    rw [show 2 + L.length + 1 = 1 + (L.length + 2) by omega, ext_list, hr]
    simp [List.take_append]
    exact List.take_of_length_le (by omega)
  rwa [e, show (2 : Int) + (L.length : Int) + 2 = ((L.length + 4 : Nat) : Int) by omega] at this
theorem tells_copy (r : ByteArray) (fresh : Bool) (m : Nat) (T : List UInt8) (c : UInt8) (hs : r.size ≤ maxLen) (hm0 : 0 < m) (hm : m < 1000000000) (hr : r.data.toList = 64 :: (decF 9 m ++ c :: T)) (hc : Gp c) :
    Tells 25 #[.string r, .bool fresh] 3 0 (((decF 9 m).length + 1 : Nat) : Int) 0 ⟨#[]⟩ (m : Int) 0 := by
  have hi := int_dec m hm0 hm
  have hd := decF_dig 9 m
  have hl := decF_len 9 m
  obtain ⟨c0, R, e0, hc0⟩ := dec_first 8 m hm0 hm
  generalize decF (8 + 1) m = L at *
  have hz := size_list hr
  simp at hz
  obtain ⟨h1, h64⟩ := get_list hr (i := 0) (b := 64) rfl
  have hL0 : 0 < L.length := by rw [e0]; simp
  obtain ⟨h2, h11⟩ := get_list hr (i := 1) (b := c0) (by rw [e0]; rfl)
  have hsp : spanN isDg (r.extract 1 r.size).data.toList = L.length := by
    rw [ext_drop, hr]
    exact span_app isDg L c T hd hc.dg
  refine first_copy r fresh _ _ _ _ _ _ _ h1 (by rw [h64]; rfl) ?_
  have := cop_ok r hs h1 L.length hsp hL0 hl h2 (by rw [h11]; exact hc0) m (by rw [ext_list, hr]; simpa using hi)
  rwa [show (1 : Int) + (L.length : Int) = ((L.length + 1 : Nat) : Int) by omega] at this
theorem sgn_facts : ∀ i : Fin 13, Lib.indexByte sgnL (sgnL.getD i.val 0) = (i.val : Int) ∧ ((sgnL.getD i.val 0).toNat = 36 ↔ i.val = 6) := by decide +kernel
theorem tells_sign (r : ByteArray) (fresh : Bool) (i : Nat) (h13 : i < 13) (T : List UInt8) (c : UInt8) (hs : r.size ≤ maxLen) (hr : r.data.toList = sgnL.getD i 0 :: c :: T) (hc : Gp c) :
    Tells 25 #[.string r, .bool fresh] (10 + i) 0 1 0 ⟨#[]⟩ 0 0 := by
  obtain ⟨f1, f2⟩ := sgn_facts ⟨i, h13⟩
  obtain ⟨h1, h36⟩ := get_list hr (i := 0) (b := sgnL.getD i 0) rfl
  have hcs := hc.cases
  have hp : Lib.hasPrefix r.data.toList [91, 58] = false := by
    cases hh : Lib.hasPrefix r.data.toList [91, 58]
    · rfl
    · have := pre_two hh
      rw [hr] at this
      simp at this
      rw [this.2] at hcs
      revert hcs
      decide
  by_cases h6 : i = 6
  · refine first_sign36 r fresh i hs h1 (by rw [h36]; exact f2.2 h6) ?_ hp (by rw [h36]; exact f1)
    rw [ext_drop, hr]
    show spanN isNm (c :: T) = 0
    rw [spanN_cons, hc.nm]
    rfl
  · exact first_sign r fresh i hs h1 (by rw [h36]; exact fun h => h6 (f2.1 h)) hp (by rw [h36]; exact f1)
end Go.Proofs
