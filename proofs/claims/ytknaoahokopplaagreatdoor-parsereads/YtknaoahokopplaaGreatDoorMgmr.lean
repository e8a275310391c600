/-
  Several texts in one (Mbr Mdr Plr Pmr Pnr Por Tar Kar).
-/
import Derived.Test.YtknaoahokopplaaGreatDoorMggr
import Derived.Test.YtknaoahokopplaaGreatDoorMglr
import Derived.Shelf.Abstract
import Derived.Shelf.RegionOpen
import Derived.WalkKit
import Derived.WalkSpells
import Derived.WalkLawsBesides
import Derived.BigQuiet
import Derived.Deep.QuietTactic
import Derived.Deep.LoopGhost
import Derived.Lib.OthersKept
import Derived.ScopeJumps
import Derived.WalkMore
import Derived.Maps.AppendAt
import Derived.Lib.SmallJoins
import Derived.Test.YtknaoahokopplaaGreatDoorMgir
import Derived.Barred
namespace Go.Proofs
open Go.RowKit Go.Shelf
set_option maxRecDepth 100000
/-! where units begin -/
theorem uw_le (s : ByteArray) (p : Nat) : uw s p ≤ 4 := by
  unfold uw Utf8.decode
  simp only
  repeat' split
  all_goals simp
/-- what a rune of several bytes is made of -/
theorem uw_many (s : ByteArray) (p : Nat) (h : 1 < uw s p) : p + uw s p ≤ s.size ∧ (s.get! p).toNat / 64 = 3 ∧ ∀ k, 1 ≤ k → k < uw s p → (s.get! (p + k)).toNat / 64 = 2 := by
  have h0 := (s.get! p).toNat_lt
  unfold uw Utf8.decode at *
  simp only [Nat.add_zero] at *
  split at h
  · simp at h
  · split at h
    · rename_i h1 h2
      simp only [Bool.and_eq_true, decide_eq_true_eq, beq_iff_eq] at h2
      split at h
      · rename_i h3
        rw [if_neg h1, if_pos (by simpa using h2), if_pos h3]
        refine ⟨by simp only; omega, by omega, fun k hk1 hk2 => ?_⟩
        simp only at hk2
        obtain rfl : k = 1 := by omega
        omega
      · simp at h
    · split at h
      · rename_i h1 h2 h3
        split at h
        · rename_i h4
          rw [if_neg h1, if_neg h2, if_pos h3, if_pos h4]
          simp only [Bool.and_eq_true, decide_eq_true_eq, beq_iff_eq] at h3
          refine ⟨by simp only; omega, by omega, fun k hk1 hk2 => ?_⟩
          simp only at hk2
          have : k = 1 ∨ k = 2 := by omega
          rcases this with rfl | rfl <;> omega
        · simp at h
      · split at h
        · rename_i h1 h2 h3 h5
          split at h
          · rename_i h4
            rw [if_neg h1, if_neg h2, if_neg h3, if_pos h5, if_pos h4]
            simp only [Bool.and_eq_true, decide_eq_true_eq, beq_iff_eq] at h5
            refine ⟨by simp only; omega, by omega, fun k hk1 hk2 => ?_⟩
            simp only at hk2
            have : k = 1 ∨ k = 2 ∨ k = 3 := by omega
            rcases this with rfl | rfl | rfl <;> omega
          · simp at h
        · simp at h

/-- a rune of several bytes, by its number -/
def Form (s : ByteArray) (p c n : Nat) : Prop := p + n ≤ s.size ∧ Utf8.decode s p = (c, n) ∧
  ((n = 2 ∧ 128 ≤ c ∧ c < 2048 ∧ (s.get! p).toNat = 192 + c / 64 ∧ (s.get! (p + 1)).toNat = 128 + c % 64) ∨
   (n = 3 ∧ 2048 ≤ c ∧ c < 65536 ∧ (c < 55296 ∨ 57344 ≤ c) ∧ (s.get! p).toNat = 224 + c / 4096 ∧ (s.get! (p + 1)).toNat = 128 + c / 64 % 64 ∧ (s.get! (p + 2)).toNat = 128 + c % 64) ∨
   (n = 4 ∧ 65536 ≤ c ∧ c < 1114112 ∧ (s.get! p).toNat = 240 + c / 262144 ∧ (s.get! (p + 1)).toNat = 128 + c / 4096 % 64 ∧ (s.get! (p + 2)).toNat = 128 + c / 64 % 64 ∧ (s.get! (p + 3)).toNat = 128 + c % 64))
theorem form_of (s : ByteArray) (p : Nat) (h : 1 < uw s p) : ∃ c, Form s p c (uw s p) := by
  have h0 := (s.get! p).toNat_lt
  have h1' := (s.get! (p + 1)).toNat_lt
  have h2' := (s.get! (p + 2)).toNat_lt
  have h3' := (s.get! (p + 3)).toNat_lt
  have hle := (uw_many s p h).1
  obtain ⟨c, n, hd⟩ : ∃ c n, Utf8.decode s p = (c, n) := ⟨_, _, rfl⟩
  have hn : uw s p = n := by unfold uw; rw [hd]
  rw [hn] at h hle ⊢
  refine ⟨c, hle, hd, ?_⟩
  unfold Utf8.decode at hd
  simp only [Nat.add_zero] at hd
  split at hd
  · simp only [Prod.mk.injEq] at hd; omega
  · split at hd
    · rename_i h1 h2
      simp only [Bool.and_eq_true, decide_eq_true_eq, beq_iff_eq] at h2
      split at hd
      · simp only [Prod.mk.injEq] at hd
        left; omega
      · simp only [Prod.mk.injEq] at hd; omega
    · split at hd
      · rename_i h1 h2 h3
        simp only [Bool.and_eq_true, decide_eq_true_eq, beq_iff_eq] at h3
        split at hd
        · rename_i h4
          simp only [Prod.mk.injEq] at hd
          simp only [Utf8.valid, Bool.and_eq_true, Bool.or_eq_true, decide_eq_true_eq] at h4
          right; left; omega
        · simp only [Prod.mk.injEq] at hd; omega
      · split at hd
        · rename_i h1 h2 h3 h5
          simp only [Bool.and_eq_true, decide_eq_true_eq, beq_iff_eq] at h5
          split at hd
          · rename_i h4
            simp only [Prod.mk.injEq] at hd
            simp only [Utf8.valid, Bool.and_eq_true, Bool.or_eq_true, decide_eq_true_eq] at h4
            right; right; omega
          · simp only [Prod.mk.injEq] at hd; omega
        · simp only [Prod.mk.injEq] at hd; omega
/-- the same bytes elsewhere are the same rune -/
theorem Form.move {s t : ByteArray} {p r c n : Nat} (h : Form s p c n) (hr : r + n ≤ t.size) (he : ∀ k, k < n → (t.get! (r + k)).toNat = (s.get! (p + k)).toNat) : Form t r c n := by
  obtain ⟨_, _, h⟩ := h
  have e0 := he 0
  have e1 := he 1
  have e2 := he 2
  have e3 := he 3
  simp only [Nat.add_zero] at e0
  rcases h with ⟨rfl, a, b, b0, b1⟩ | ⟨rfl, a, b, v, b0, b1, b2⟩ | ⟨rfl, a, b, b0, b1, b2, b3⟩
  · have c0 := (e0 (by omega)).trans b0
    have c1 := (e1 (by omega)).trans b1
    exact ⟨hr, dec2 t r c a b (by omega) c0 c1, .inl ⟨rfl, a, b, c0, c1⟩⟩
  · have c0 := (e0 (by omega)).trans b0
    have c1 := (e1 (by omega)).trans b1
    have c2 := (e2 (by omega)).trans b2
    exact ⟨hr, dec3 t r c a b v (by omega) c0 c1 c2, .inr (.inl ⟨rfl, a, b, v, c0, c1, c2⟩)⟩
  · have c0 := (e0 (by omega)).trans b0
    have c1 := (e1 (by omega)).trans b1
    have c2 := (e2 (by omega)).trans b2
    have c3 := (e3 (by omega)).trans b3
    exact ⟨hr, dec4 t r c a b (by omega) c0 c1 c2 c3, .inr (.inr ⟨rfl, a, b, c0, c1, c2, c3⟩)⟩
theorem Form.uw {s : ByteArray} {p c n : Nat} (h : Form s p c n) : uw s p = n := by unfold Go.Proofs.uw; rw [h.2.1]
/-- a border: nothing that begins ahead reaches beyond -/
def bord (s : ByteArray) (p : Nat) : Prop := ∀ q, q < p → q + uw s q ≤ p
theorem bord_size (s : ByteArray) : bord s s.size := fun q h => by
  by_cases h1 : 1 < uw s q
  · exact (uw_many s q h1).1
  · omega
/-! reading within a piece -/
theorem get_ext (s : ByteArray) (f e r : Nat) (h : f + r < e) (he : e ≤ s.size) : (s.extract f e).get! r = s.get! (f + r) := by
  have hz : (s.extract f e).size = e - f := by simp [ByteArray.size_extract]; omega
  rw [get_bang _ _ (by omega), get_bang _ _ (by omega)]
  simp [ByteArray.getElem_extract]
theorem one_wide (s : ByteArray) (p : Nat) (h : uw s p = 1) : ((s.get! p).toNat < 128 ∧ Utf8.decode s p = ((s.get! p).toNat, 1)) ∨ (128 ≤ (s.get! p).toNat ∧ Utf8.decode s p = (65533, 1)) := by
  by_cases hb : (s.get! p).toNat < 128
  · exact .inl ⟨hb, dec1 s p hb⟩
  · refine .inr ⟨by omega, ?_⟩
    obtain ⟨c, n, hd⟩ : ∃ c n, Utf8.decode s p = (c, n) := ⟨_, _, rfl⟩
    have hn : n = 1 := by rw [← h]; unfold uw; rw [hd]
    subst hn
    have hc : c = 65533 := by
      unfold Utf8.decode at hd
      simp only [Nat.add_zero] at hd
      rw [if_neg hb] at hd
      repeat' split at hd
      all_goals (simp only [Prod.mk.injEq, Utf8.runeError] at hd; omega)
    rw [hd, hc]
theorem prefix_bytes (s : ByteArray) (p : Nat) (h : Lib.hasPrefix (s.data.toList.drop p) fffd = true) : Form s p 65533 3 := by
  unfold Lib.hasPrefix at h
  rw [List.isPrefixOf_iff_prefix] at h
  obtain ⟨t, ht⟩ := h
  have hl : (s.data.toList.drop p).length = 3 + t.length := by rw [← ht]; simp [fffd]; omega
  rw [List.length_drop, ← Lib.size_eq] at hl
  have hg : ∀ k (hk : k < 3), s.get! (p + k) = fffd.getD k 0 := fun k hk => by
    rw [get_bang s _ (by omega)]
    have e : (s.data.toList.drop p)[k]? = fffd[k]? := by rw [← ht, List.getElem?_append_left (by simpa [fffd] using hk)]
    rw [List.getElem?_drop] at e
    have e2 : s.data.toList[p + k]? = some s[p + k] := by
      rw [List.getElem?_eq_getElem (by rw [← Lib.size_eq]; omega)]; rfl
    rw [e2] at e
    simp [List.getD, ← e]
  have g0 := hg 0 (by omega)
  have g1 := hg 1 (by omega)
  have g2 := hg 2 (by omega)
  rw [Nat.add_zero] at g0
  have b0 : (s.get! p).toNat = 224 + 65533 / 4096 := by rw [g0]; decide
  have b1 : (s.get! (p + 1)).toNat = 128 + 65533 / 64 % 64 := by rw [g1]; decide
  have b2 : (s.get! (p + 2)).toNat = 128 + 65533 % 64 := by rw [g2]; decide
  exact ⟨by omega, dec3 s p 65533 (by omega) (by omega) (by omega) (by omega) b0 b1 b2, .inr (.inl ⟨rfl, by omega, by omega, by omega, b0, b1, b2⟩)⟩
theorem bytes_prefix (s : ByteArray) (p : Nat) (h : Form s p 65533 3) : Lib.hasPrefix (s.data.toList.drop p) fffd = true := by
  obtain ⟨hz, _, h⟩ := h
  have hb : (s.get! p).toNat = 239 ∧ (s.get! (p + 1)).toNat = 191 ∧ (s.get! (p + 2)).toNat = 189 := by omega
  unfold Lib.hasPrefix
  rw [List.isPrefixOf_iff_prefix]
  have e : ∀ k (hk : p + k < s.size), s.data.toList[p + k]'(by rw [← Lib.size_eq]; exact hk) = s.get! (p + k) := fun k hk => by rw [get_bang s _ hk]; rfl
  rw [List.drop_eq_getElem_cons (by rw [← Lib.size_eq]; omega), List.drop_eq_getElem_cons (by rw [← Lib.size_eq]; omega), List.drop_eq_getElem_cons (by rw [← Lib.size_eq]; omega)]
  have e0 := e 0 (by omega)
  have e1 := e 1 (by omega)
  have e2 := e 2 (by omega)
  simp only [Nat.add_zero] at e0
  have u0 : s.get! p = 239 := UInt8.toNat_inj.1 hb.1
  have u1 : s.get! (p + 1) = 191 := UInt8.toNat_inj.1 hb.2.1
  have u2 : s.get! (p + 2) = 189 := UInt8.toNat_inj.1 hb.2.2
  rw [e0, u0]
  refine ⟨s.data.toList.drop (p + 1 + 1 + 1), ?_⟩
  simp only [fffd, List.cons_append, List.nil_append, List.cons.injEq, and_true, true_and]
  exact ⟨by rw [← u1]; exact e1.symm, by rw [← u2]; exact e2.symm⟩
theorem stray_iff (s : ByteArray) (p : Nat) : strayAt s p = true ↔ Utf8.decode s p = (65533, 1) := by
  unfold strayAt
  rw [Bool.and_eq_true, beq_iff_eq, Bool.not_eq_true']
  constructor
  · rintro ⟨h1, h2⟩
    by_cases h : 1 < uw s p
    · obtain ⟨c, F⟩ := form_of s p h
      have hd := F.2.1
      rw [hd] at h1
      simp only at h1
      subst h1
      have h3 : uw s p = 3 := by have := F.2.2; omega
      rw [h3] at F
      rw [bytes_prefix s p F] at h2
      cases h2
    · have := uw_pos s p
      have hu : uw s p = 1 := by omega
      rcases one_wide s p hu with ⟨a, b⟩ | ⟨a, b⟩
      · rw [b] at h1; simp only at h1; omega
      · exact b
  · intro h
    refine ⟨by rw [h], ?_⟩
    cases hp : Lib.hasPrefix (s.data.toList.drop p) fffd with
    | false => rfl
    | true =>
      have := (prefix_bytes s p hp).2.1
      rw [h] at this
      simp at this
/-- a unit is as wide as it stands -/
theorem wd_uAt (s : ByteArray) (p : Nat) : wd (uAt s p) = uw s p := by
  by_cases h : 1 < uw s p
  · obtain ⟨c, F⟩ := form_of s p h
    have hns : strayAt s p = false := by
      cases hs : strayAt s p with
      | false => rfl
      | true => have := (stray_iff s p).1 hs; rw [F.2.1] at this; simp at this; omega
    rw [uAt_rune hns, F.2.1]
    have := F.2.2
    unfold wd Lib.runeLen
    repeat' split
    all_goals omega
  · have hpos := uw_pos s p
    have hu : uw s p = 1 := by omega
    rcases one_wide s p hu with ⟨a, b⟩ | ⟨a, b⟩
    · have hns : strayAt s p = false := by
        cases hs : strayAt s p with
        | false => rfl
        | true => have := (stray_iff s p).1 hs; rw [b] at this; simp at this; omega
      rw [uAt_rune hns, b, hu]
      unfold wd Lib.runeLen
      repeat' split
      all_goals omega
    · have hlt := (s.get! p).toNat_lt
      rw [uAt_stray ((stray_iff s p).2 b), hu, wd_stray (by omega)]
      rfl
end Go.Proofs
namespace Go.Proofs
open Go.RowKit Go.Shelf
set_option maxRecDepth 100000
/-! two pieces -/
theorem same_at {s t : ByteArray} {p r : Nat} (h : ∀ k, p + k < s.size → r + k < t.size → t.get! (r + k) = s.get! (p + k)) (hp0 : p < s.size) (hr0 : r < t.size) (hr : r + uw s p ≤ t.size) (hp : p + uw t r ≤ s.size) : uw t r = uw s p ∧ uAt t r = uAt s p := by
  have hb : t.get! r = s.get! p := h 0 (by omega) (by omega)
  have hd : Utf8.decode t r = Utf8.decode s p := by
    by_cases h1 : 1 < uw s p
    · obtain ⟨c, F⟩ := form_of s p h1
      have F2 := F.move hr (fun k hk => by rw [h k (by have := F.1; omega) (by omega)])
      rw [F2.2.1, F.2.1]
    · by_cases h2 : 1 < uw t r
      · obtain ⟨c, F⟩ := form_of t r h2
        have F2 := F.move (t := s) (r := p) hp (fun k hk => by rw [h k (by omega) (by have := F.1; omega)])
        rw [F2.uw] at h1
        omega
      · have a1 := uw_pos s p
        have a2 := uw_pos t r
        rcases one_wide s p (by omega) with ⟨x1, y1⟩ | ⟨x1, y1⟩ <;> rcases one_wide t r (by omega) with ⟨x2, y2⟩ | ⟨x2, y2⟩
        · rw [y1, y2, hb]
        · rw [hb] at x2; omega
        · rw [hb] at x2; omega
        · rw [y1, y2]
  refine ⟨by unfold uw; rw [hd], ?_⟩
  have hs : strayAt t r = strayAt s p := by rw [Bool.eq_iff_iff, stray_iff, stray_iff, hd]
  unfold uAt
  rw [hs, hd, hb]
theorem uw_in (s : ByteArray) (q : Nat) (h : q < s.size) : q + uw s q ≤ s.size := bord_size s q h
end Go.Proofs
namespace Go.Proofs
open Go.RowKit Go.Shelf

set_option maxRecDepth 100000
attribute [local go_sem] Oper.semAt_some


/-! lists -/
theorem past_take : ∀ (b : Bool) (M : List UInt8), pastN b (M.take (pastN b M)) = pastN b M
  | b, [] => by cases b <;> simp [pastN]
  | true, c :: M => by
    have ih := past_take (c.toNat != 10) M
    simp only [pastN]
    rw [Nat.add_comm, List.take_succ_cons, pastN, ih, Nat.add_comm]
  | false, c :: M => by
    have ih1 := past_take false M
    have ih2 := past_take true M
    simp only [pastN]
    split
    · rename_i h; rw [Nat.add_comm, List.take_succ_cons, pastN, if_pos h, ih1, Nat.add_comm]
    · rename_i h
      split
      · rename_i h2; rw [Nat.add_comm, List.take_succ_cons, pastN, if_neg h, if_pos h2, ih2, Nat.add_comm]
      · simp [pastN]
theorem past_drop : ∀ (b : Bool) (M : List UInt8), pastN false (M.drop (pastN b M)) = 0
  | b, [] => by cases b <;> simp [pastN]
  | true, c :: M => by
    have ih := past_drop (c.toNat != 10) M
    simp only [pastN]
    rw [Nat.add_comm, List.drop_succ_cons]
    exact ih
  | false, c :: M => by
    have ih1 := past_drop false M
    have ih2 := past_drop true M
    simp only [pastN]
    split
    · rw [Nat.add_comm, List.drop_succ_cons]; exact ih1
    · rename_i h
      split
      · rw [Nat.add_comm, List.drop_succ_cons]; exact ih2
      · rename_i h2; rw [List.drop_zero]; exact pastN_stop (by simpa using h) h2 M
/-! the beginning of a text -/
theorem ext0_size (r : ByteArray) {l : Nat} (h : l ≤ r.size) : (r.extract 0 l).size = l := by rw [ByteArray.size_extract]; omega
/-! signs -/
theorem idx_sgn (c : UInt8) : Lib.indexByte sgnL c = -1 ∨ ∃ i : Nat, Lib.indexByte sgnL c = (i : Int) := by
  have := (sgn_bound c).2
  by_cases h : Lib.indexByte sgnL c = -1
  · exact .inl h
  · exact .inr ⟨(Lib.indexByte sgnL c).toNat, by omega⟩
/-! names -/
end Go.Proofs
namespace Go.Proofs
open Go.RowKit Go.Shelf

set_option maxRecDepth 100000
attribute [local go_sem] Oper.semAt_some


theorem empty_iff (r : ByteArray) : r.toList.isEmpty = true ↔ r.size = 0 := by
  rw [Lib.toList_data, List.isEmpty_iff]
  constructor
  · intro e
    show r.data.size = 0
    rw [← Array.length_toList, e]; rfl
  · intro e
    have : r.data.toList.length = 0 := by rw [Array.length_toList]; exact e
    exact List.eq_nil_of_length_eq_zero this
theorem empty_no {r : ByteArray} (h : 0 < r.size) : r.toList.isEmpty = false := by
  cases hc : r.toList.isEmpty
  · rfl
  · have := (empty_iff r).1 hc; omega
theorem pre_two {l : List UInt8} {a b : UInt8} (h : Lib.hasPrefix l [a, b] = true) : l.take 2 = [a, b] := by
  rw [← Lib.hasPrefix_of_take] at h
  simp only [Bool.and_eq_true, beq_iff_eq] at h
  exact h.2
theorem two_pre {l : List UInt8} {a b : UInt8} (h : l.take 2 = [a, b]) : Lib.hasPrefix l [a, b] = true := by
  rw [← Lib.hasPrefix_of_take]
  have : 2 ≤ l.length := by
    have := congrArg List.length h
    rw [List.length_take] at this
    simp at this
    omega
  simp [this, h]
end Go.Proofs
namespace Go.Proofs
open Go.RowKit Go.Shelf

set_option maxRecDepth 100000
attribute [local go_sem] Oper.semAt_some


end Go.Proofs
namespace Go.Proofs
open Go.RowKit Go.Shelf

set_option maxRecDepth 100000
attribute [local go_sem] Oper.semAt_some


theorem firstU_at (r : ByteArray) (h0 : 0 < r.size) : firstU r = ((uAt r 0 : Int), (uw r 0 : Int)) := by
  have hu : units r = (0, uAt r 0) :: unitsN r (r.size - 1) (0 + uw r 0) := by
    unfold units
    obtain ⟨k, hk⟩ : ∃ k, r.size = k + 1 := ⟨r.size - 1, by omega⟩
    have := unitsN_step r k 0 (by omega)
    rw [hk]
    simpa using this
  unfold firstU
  rw [hu]
  simp only
  rw [wd_uAt]
theorem alone_unit (r : ByteArray) (h0 : 0 < r.size) : firstU (r.extract 0 (uw r 0)) = ((uAt r 0 : Int), (uw r 0 : Int)) ∧ uw r 0 ≤ r.size ∧ 1 ≤ uw r 0 ∧ (r.extract 0 (uw r 0)).size = uw r 0 := by
  have hin := uw_in r 0 h0
  have hpos := uw_pos r 0
  have hle : uw r 0 ≤ r.size := by omega
  have hz := ext0_size r hle
  have hin2 := uw_in (r.extract 0 (uw r 0)) 0 (by omega)
  have := same_at (s := r) (t := r.extract 0 (uw r 0)) (p := 0) (r := 0) (fun k _ h2 => get_ext r 0 (uw r 0) (0 + k) (by omega) hle |>.trans (by rw [Nat.zero_add])) h0 (by omega) (by omega) (by omega)
  refine ⟨?_, hle, hpos, hz⟩
  rw [firstU_at _ (by omega), this.1, this.2]
end Go.Proofs
namespace Go.Proofs
open Go.RowKit Go.Shelf

set_option maxRecDepth 100000

theorem calls_one {P : Program} {f : FuncId} {args : Array Value} {w : World} {u v : Value} {p q : World → Prop} (hi : P.inits.idxOf? f = none)
    (h : Calls P f args w fun e w' => e = .returned u ∧ p w') (k : Calls P f args w fun e w' => e = .returned v ∧ q w') : u = v := by
  obtain ⟨n, a, wa, h1, h2⟩ := Calls.done (R := fun a w' => a = u ∧ p w') (h.mono (fun e w' hh => by obtain ⟨rfl, hp⟩ := hh; exact ⟨rfl, hp⟩)) hi
  obtain ⟨m, b, wb, k1, k2⟩ := Calls.done (R := fun a w' => a = v ∧ q w') (k.mono (fun e w' hh => by obtain ⟨rfl, hp⟩ := hh; exact ⟨rfl, hp⟩)) hi
  have e := runN_same_end h1 k1
  injection e with e
  rw [← h2.1, ← k2.1, e]
theorem init47 : Tryz.prog.inits.idxOf? 47 = none := by kernel_rfl
theorem w0 : Nonempty World := ⟨default⟩
theorem Tells.one {args : Array Value} {k a l u : Int} {t : ByteArray} {n e : Int} {k' a' l' u' : Int} {t' : ByteArray} {n' e' : Int} (h : Tells 47 args k a l u t n e) (h2 : Tells 47 args k' a' l' u' t' n' e') :
    k = k' ∧ a = a' ∧ l = l' ∧ u = u' ∧ t = t' ∧ n = n' ∧ e = e' := by
  obtain ⟨w⟩ := w0
  have e := calls_one init47 (h w) (h2 w)
  simp at e
  obtain ⟨⟨e1, e2, e3, e4, e5, e6⟩, e7⟩ := e
  exact ⟨e1, e2, e3, e4, e5, e6, e7⟩
end Go.Proofs
namespace Go.Proofs
open Go.RowKit Go.Shelf

set_option maxRecDepth 100000
attribute [local go_sem] Oper.semAt_some

set_option maxHeartbeats 1000000 in
theorem rnamed_any (b : UInt8) (w : World) : Calls Tryz.prog 123 #[.int .u8 b.toNat] w fun e w' => e = .returned (.bool (isNm b)) ∧ w' = w := by
  go_enter Tryz.func123, Tryz.ntmps123
  go_wp2
  all_goals (go_ret; refine ⟨?_, rfl⟩; simp [isNm, isLt, isDg]; first | done | omega | (try rw [Bool.eq_iff_iff]; simp; omega))
set_option maxHeartbeats 1000000 in
theorem rname_any (s : ByteArray) (p : Nat) (w : World) (hs : s.size ≤ 1000000) (hp : p ≤ s.size) :
    Calls Tryz.prog 77 #[.string s, .int .i64 p] w fun e w' => e = .returned (.int .i64 (spanN isNm (s.data.toList.drop p))) ∧ w' = w := by
  obtain ⟨n, hn⟩ : ∃ n, s.size = n := ⟨_, rfl⟩
  have hp' : p ≤ n := by omega
  have hm : n ≤ 1000000 := by omega
  obtain ⟨q, hq⟩ : ∃ q, spanN isNm (s.data.toList.drop p) = q := ⟨_, rfl⟩
  rw [hq]
  have HQ : Hid (q = spanN isNm (s.data.toList.drop p)) := hq.symm
  clear hq hs hp
  go_enter Tryz.func77, Tryz.ntmps77
  go_wp2
  go_loopw [5] (fun vi wr => ∃ k : Nat, vi = .int .i64 k ∧ p + k ≤ n ∧ Hid (q = k + spanN isNm (s.data.toList.drop (p + k))) ∧ wr = w) (fun vi _ => n - (intOf vi).toNat)
  case atStart => exact ⟨0, rfl, by omega, by show _ = _; rw [Nat.zero_add]; exact HQ.out, rfl⟩
  case round =>
    obtain ⟨k, rfl, hk, hS, rfl⟩ := hrel
    clear HQ
    have hpI : (p : Int) ≤ 1000000 := by omega
    have hkI : (k : Int) ≤ 1000000 := by omega
    have hp0 : (0 : Int) ≤ (p : Int) := by omega
    have hk0 : (0 : Int) ≤ (k : Int) := by omega
    by_cases hlt : p + k < n
    · have hlt' : (p : Int) + (k : Int) < (n : Int) := by omega
      have hks : p + k < s.size := by omega
      have HD := drop_at hks
      have hS2 := hS.out
      rw [HD, spanN_cons] at hS2
      cases hb : isNm s[p + k]
      · rw [hb] at hS2
        have HS : Hid (q = k) := by show _ = _; simpa using hS2
        clear hS hS2 HD
        go_wp2_with (go_at_call 123; refine (rnamed_any _ _).mono ?_; rintro e w' ⟨rfl, rfl⟩; rw [hb])
        go_ret
        exact ⟨by rw [HS.out]; rfl, rfl⟩
      · rw [hb] at hS2
        have HS : Hid (q = (k + 1) + spanN isNm (s.data.toList.drop (p + (k + 1)))) := by
          show _ = _
          rw [hS2, ← Nat.add_assoc]; simp; omega
        clear hS hS2 HD
        go_wp2_with (go_at_call 123; refine (rnamed_any _ _).mono ?_; rintro e w' ⟨rfl, rfl⟩; rw [hb])
        exact ⟨⟨k + 1, by go_num, by omega, HS, (by first | rfl | trivial)⟩, by simp [intOf]; omega⟩
    · have hkn : p + k = n := by omega
      have HS : Hid (q = k) := by
        have := hS.out
        rw [List.drop_of_length_le (by simp; omega), spanN_nil] at this
        show _ = _
        omega
      clear hS
      go_wp2
      go_ret
      exact ⟨by rw [HS.out]; rfl, rfl⟩
set_option maxHeartbeats 2000000 in
theorem rover_any (s : ByteArray) (p : Nat) (w : World) (hs : s.size ≤ maxLen) (hp : p ≤ s.size) :
    Calls Tryz.prog 44 #[.string s, .int .i64 p] w fun e w' => e = .returned (.int .i64 (p + pastN false (s.data.toList.drop p) : Nat)) ∧ w' = w := by
  obtain ⟨n, hn⟩ : ∃ n, s.size = n := ⟨_, rfl⟩
  have hm : n ≤ 9223372036854775807 := by rw [← hn]; exact hs
  obtain ⟨q, hq⟩ : ∃ q, p + pastN false (s.data.toList.drop p) = q := ⟨_, rfl⟩
  have HQ : Hid (q = p + pastN false (s.data.toList.drop p)) := hq.symm
  rw [hq]
  have hp' : p ≤ n := by omega
  clear hs hq hp
  go_enter Tryz.func44, Tryz.ntmps44
  go_wp2
  go_loopw [1] (fun vi wr => ∃ k : Nat, vi = .int .i64 k ∧ k ≤ n ∧ Hid (q = k + pastN false (s.data.toList.drop k)) ∧ wr = w) (fun vi _ => n - (intOf vi).toNat)
  case atStart => exact ⟨p, rfl, by omega, HQ, rfl⟩
  case round =>
    obtain ⟨k, rfl, hk, hS, rfl⟩ := hrel
    clear HQ
    by_cases hlt : k < n
    · have hlt' : (k : Int) < (n : Int) := by omega
      have hks : k < s.size := by omega
      have HD := drop_at hks
      have hS2 := hS.out
      rw [HD] at hS2
      by_cases hws : isWs s[k] = true
      · rw [pastN_ws hws] at hS2
        have HS : Hid (q = (k + 1) + pastN false (s.data.toList.drop (k + 1))) := by show _ = _; omega
        have hws' : s[k].toNat = 32 ∨ s[k].toNat = 9 ∨ s[k].toNat = 10 ∨ s[k].toNat = 13 := by simpa [isWs, or_assoc] using hws
        clear hS hS2 HD hws
        rcases hws' with e | e | e | e
        all_goals
          go_wp2
          exact ⟨⟨k + 1, by go_num, by omega, HS, (by first | rfl | trivial)⟩, by simp [intOf]; omega⟩
      · have hws0 : isWs s[k] = false := by simpa using hws
        obtain ⟨n32, n9, n10, n13⟩ : s[k].toNat ≠ 32 ∧ s[k].toNat ≠ 9 ∧ s[k].toNat ≠ 10 ∧ s[k].toNat ≠ 13 := by simpa [isWs, and_assoc] using hws0
        by_cases hsh : s[k].toNat = 35
        · rw [pastN_sharp hsh, ← HD] at hS2
          have HS : Hid (q = k + pastN true (s.data.toList.drop k)) := hS2
          have HK : Hid (s[k].toNat = 35) := hsh
          clear hS hS2 HD hws hws0
          go_wp2
          go_loopw [1] (fun vi wx => ∃ m : Nat, vi = .int .i64 m ∧ k ≤ m ∧ m ≤ n ∧ Hid (q = m + pastN true (s.data.toList.drop m)) ∧ wx = wr) (fun vi _ => n - (intOf vi).toNat)
          case atStart => exact ⟨k, rfl, by omega, by omega, HS, rfl⟩
          case round =>
            obtain ⟨m, rfl, hkm, hmn, hS3, rfl⟩ := hrel
            clear HS
            by_cases hlt2 : m < n
            · have hlt2' : (m : Int) < (n : Int) := by omega
              have hms : m < s.size := by omega
              have hS4 := hS3.out
              rw [drop_at hms] at hS4
              by_cases h10 : s[m].toNat = 10
              · rw [pastN_nl h10, ← drop_at hms] at hS4
                have HS : Hid (q = m + pastN false (s.data.toList.drop m)) := hS4
                have hne : k ≠ m := by rintro rfl; have := HK.out; omega
                clear hS3 hS4
                go_wp2
                exact ⟨⟨m, by go_num, by omega, HS, (by first | rfl | trivial)⟩, by simp [intOf]; omega⟩
              · rw [pastN_in h10] at hS4
                have HS : Hid (q = (m + 1) + pastN true (s.data.toList.drop (m + 1))) := by show _ = _; omega
                clear hS3 hS4
                go_wp2
                exact ⟨⟨m + 1, by go_num, by omega, by omega, HS, (by first | rfl | trivial)⟩, by simp [intOf]; omega⟩
            · have hmn' : m = n := by omega
              subst hmn'
              have HS : Hid (q = m + pastN false (s.data.toList.drop m)) := by
                have := hS3.out
                rw [List.drop_of_length_le (by simp; omega)] at this ⊢
                exact this
              clear hS3
              go_wp2
              exact ⟨⟨m, by go_num, by omega, HS, (by first | rfl | trivial)⟩, by simp [intOf]; omega⟩
        · rw [pastN_stop hws0 hsh] at hS2
          have HS : Hid (q = k) := hS2
          clear hS hS2 HD hws hws0
          go_wp2
          try rw [Exit.noGoto_ret]
          go_ret
          exact ⟨by rw [HS.out]; rfl, rfl⟩
    · have HS : Hid (q = k) := by
        have := hS.out
        rw [List.drop_of_length_le (by simp; omega)] at this
        exact this
      clear hS
      go_wp2
      try rw [Exit.noGoto_ret]
      go_ret
      exact ⟨by rw [HS.out]; rfl, rfl⟩
end Go.Proofs
