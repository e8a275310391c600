/-
  Each text begins with a token or is refused: classes, copies, escapes, runes.
-/
import Derived.Shelf.Abstract
import Derived.Shelf.RegionOpen
import Derived.WalkKit
import Derived.WalkSpells
import Derived.WalkLawsBesides
import Derived.BigQuiet
import Derived.Deep.QuietTactic
import Derived.Deep.LoopGhost
import Derived.Lib.OthersKept
import Derived.ScopeJumps
import Derived.WalkMore
import Derived.Maps.AppendAt
import Derived.Lib.SmallJoins
import Derived.Test.YthjjkenmlkekbaaDoorPl
namespace Go.Proofs
open Go.RowKit Go.Shelf

set_option maxRecDepth 100000
attribute [local go_sem] Oper.semAt_some


theorem empty_iff (r : ByteArray) : r.toList.isEmpty = true ↔ r.size = 0 := by
  rw [Lib.toList_data, List.isEmpty_iff]
  constructor
  · intro e
    show r.data.size = 0
    rw [← Array.length_toList, e]; rfl
  · intro e
    have : r.data.toList.length = 0 := by rw [Array.length_toList]; exact e
    exact List.eq_nil_of_length_eq_zero this
theorem empty_no {r : ByteArray} (h : 0 < r.size) : r.toList.isEmpty = false := by
  cases hc : r.toList.isEmpty
  · rfl
  · have := (empty_iff r).1 hc; omega
theorem ext0_mid (r : ByteArray) {a b l : Nat} (h : b ≤ l) : (r.extract 0 l).extract a b = r.extract a b := by
  apply ByteArray.ext
  apply Array.toList_inj.1
  simp only [ByteArray.data_extract, Array.toList_extract, List.extract, List.drop_zero, Nat.sub_zero]
  rw [List.drop_take, List.take_take]
  congr 1
  omega
theorem pre_two {l : List UInt8} {a b : UInt8} (h : Lib.hasPrefix l [a, b] = true) : l.take 2 = [a, b] := by
  rw [← Lib.hasPrefix_of_take] at h
  simp only [Bool.and_eq_true, beq_iff_eq] at h
  exact h.2
theorem two_pre {l : List UInt8} {a b : UInt8} (h : l.take 2 = [a, b]) : Lib.hasPrefix l [a, b] = true := by
  rw [← Lib.hasPrefix_of_take]
  have : 2 ≤ l.length := by
    have := congrArg List.length h
    rw [List.length_take] at this
    simp at this
    omega
  simp [this, h]
theorem begins_class (r : ByteArray) (hs : r.size ≤ maxLen) (h0 : 0 < r.size) (fresh : Bool) (h91 : r[0].toNat = 91) (hp : Lib.hasPrefix r.data.toList [91, 58] = true) : Begins r fresh := by
  have h2 : 2 ≤ r.size := by have := pre_len hp; simpa using this
  obtain ⟨n, hn⟩ : ∃ n, spanN isNm (r.extract 2 r.size).data.toList = n := ⟨_, rfl⟩
  obtain ⟨q, hq⟩ : ∃ q, r.extract (2 + n) r.size = q := ⟨_, rfl⟩
  have hle := span2_le r n h2 hn
  have hqz : q.size = r.size - (2 + n) := by rw [← hq, ext_size]
  have bad : ∀ e0 : Int, e0 ≠ 0 → Tells 41 #[.string r] 0 0 0 0 ⟨#[]⟩ 0 e0 → Begins r fresh := fun e0 he hT => .inl ⟨e0, he, first_class r fresh 0 0 0 0 ⟨#[]⟩ 0 e0 hs h0 h91 hp hT⟩
  by_cases h32 : 32 < n
  · exact bad 42 (by decide) (fun w => class_many r q n w hs h2 hn hq h32 rfl)
  have h32' : n ≤ 32 := by omega
  by_cases hqe : q.size = 0
  · exact bad 44 (by decide) (fun w => class_open1 r q n w hs h2 hn hq h32' rfl ((empty_iff q).2 hqe))
  have hqn := empty_no (r := q) (by omega)
  by_cases hn0 : n = 0
  · subst hn0
    refine bad 42 (by decide) (fun w => class_bad0 r q w hs h2 (by simpa using hq) ?_ rfl hqn)
    have : r.extract 2 r.size = q := by simpa using hq
    rw [← this]; exact hn
  by_cases hc : (q.toList == [58]) = true
  · exact bad 44 (by decide) (fun w => class_open2 r q n w hs h2 hn hq h32' rfl (by omega) hqn hc)
  have hc' : (q.toList == [58]) = false := by simpa using hc
  by_cases hp2 : Lib.hasPrefix q.data.toList [58, 93] = true
  · have hql : 2 ≤ q.size := by have := pre_len hp2; simpa using this
    have hl : 2 + n + 2 ≤ r.size := by omega
    have hz := ext0_size r hl
    have ha0 := ext0_at r (i := 0) hl (by omega)
    have hna : spanN isNm ((r.extract 0 (2 + n + 2)).extract 2 (r.extract 0 (2 + n + 2)).size).data.toList = n := by
      rw [ext0_drop, span_take, ← ext_drop, hn]; omega
    have hqa : (r.extract 0 (2 + n + 2)).extract (2 + n) (r.extract 0 (2 + n + 2)).size = ⟨#[58, 93]⟩ := by
      apply ByteArray.ext
      apply Array.toList_inj.1
      rw [ext0_drop, show 2 + n + 2 - (2 + n) = 2 by omega, ← ext_drop, hq]
      exact pre_two hp2
    have hpa : Lib.hasPrefix (r.extract 0 (2 + n + 2)).data.toList [91, 58] = true := two_pre (by
      rw [ext_take, List.take_take, show min 2 (2 + n + 2) = 2 by omega]
      exact pre_two hp)
    refine .inr ⟨2, 2 + n + 2, 0, r.extract 1 (2 + n + 1), 0, ?_, by omega, hl, .inr ?_⟩
    · have := first_class r fresh 2 0 (2 + n + 2) 0 (r.extract 1 (2 + n + 1)) 0 0 hs h0 h91 hp (fun w => class_ok r q n w hs h2 hn hq h32' hp2 (by omega) hqn hc' (by omega))
      simpa using this
    · have := first_class (r.extract 0 (2 + n + 2)) true 2 0 (2 + n + 2) 0 (r.extract 1 (2 + n + 1)) 0 0 (by rw [hz]; omega) (by omega) (by rw [ha0]; exact h91) hpa (fun w => by
        have := class_ok (r.extract 0 (2 + n + 2)) ⟨#[58, 93]⟩ n w (by rw [hz]; omega) (by omega) hna hqa h32' (by decide +kernel) (by omega) (by decide +kernel) (by decide +kernel) (by rw [hz]; omega)
        rwa [ext0_mid r (by omega)] at this)
      simpa [Alone] using this
  · exact bad 42 (by decide) (fun w => class_bad1 r q n w hs h2 hn hq h32' (by simpa using hp2) (by omega) hqn hc')
theorem begins_copy (r : ByteArray) (hs : r.size ≤ maxLen) (h0 : 0 < r.size) (fresh : Bool) (h64 : r[0].toNat = 64) : Begins r fresh := by
  obtain ⟨n, hn⟩ : ∃ n, spanN isDg (r.extract 1 r.size).data.toList = n := ⟨_, rfl⟩
  have bad : Tells 42 #[.string r] 0 0 0 0 ⟨#[]⟩ 0 43 → Begins r fresh := fun hT => .inl ⟨43, by decide, first_copy r fresh 0 0 0 0 ⟨#[]⟩ 0 43 h0 h64 hT⟩
  by_cases hn0 : n = 0
  · subst hn0; exact bad (cop_zero r hs h0 hn)
  by_cases h9 : 9 < n
  · exact bad (cop_many r hs h0 n hn h9)
  have hle : 1 + n ≤ r.size := by
    have := spanN_le isDg (r.extract 1 r.size).data.toList
    rw [hn, ext_drop] at this
    simp at this
    omega
  have h1 : 1 < r.size := by omega
  by_cases hc : r[1].toNat = 48
  · exact bad (cop_nought r hs h0 n hn (by omega) (by omega) h1 hc)
  have e : (r.extract 1 (1 + n)).data.toList = (r.data.toList.drop 1).take n := by
    simp only [ByteArray.data_extract, Array.toList_extract, List.extract]
    congr 1
    omega
  have hdg : ∀ c ∈ (r.extract 1 (1 + n)).data.toList, isDg c = true := by
    intro c hc
    rw [e, ← hn, ext_drop] at hc
    exact take_span isDg _ c hc
  have hlen : (r.extract 1 (1 + n)).data.toList.length = n := by
    rw [e, List.length_take, List.length_drop]
    simp
    omega
  obtain ⟨v, hv⟩ := int_ok (r.extract 1 (1 + n)).data.toList (by intro e; rw [e] at hlen; simp at hlen; omega) hdg (by omega)
  have hz := ext0_size r hle
  have ha0 := ext0_at r (i := 0) hle (by omega)
  have ha1 := ext0_at r (i := 1) hle (by omega)
  have hna : spanN isDg ((r.extract 0 (1 + n)).extract 1 (r.extract 0 (1 + n)).size).data.toList = n := by
    rw [ext0_drop, span_take, ← ext_drop, hn]; omega
  refine .inr ⟨3, 1 + n, 0, ⟨#[]⟩, v, ?_, by omega, hle, .inr ?_⟩
  · have := first_copy r fresh 3 0 (1 + n) 0 ⟨#[]⟩ v 0 h0 h64 (cop_ok r hs h0 n hn (by omega) (by omega) h1 hc v hv)
    simpa using this
  · have := first_copy (r.extract 0 (1 + n)) true 3 0 (1 + n) 0 ⟨#[]⟩ v 0 (by omega) (by rw [ha0]; exact h64) (cop_ok (r.extract 0 (1 + n)) (by rw [hz]; omega) (by omega) n hna (by omega) (by omega) (by omega) (by rw [ha1]; exact hc) v (by rw [ext0_mid r (Nat.le_refl _)]; exact hv))
    simpa [Alone] using this
end Go.Proofs
