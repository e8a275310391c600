/-
  The document's Cut.
-/
import Derived.RangeFuncNested
import Derived.RangeFuncBound
import Derived.RangeFuncCalls
import Derived.RangeFuncLeaves
import Derived.Shelf.Abstract
import Derived.Shelf.RegionOpen
import Derived.WalkKit
import Derived.WalkSpells
import Derived.WalkLawsBesides
import Derived.OwnWalkIn
import Derived.TacticsInMore
import Derived.LoopNIn
import Derived.LoopIn
import Derived.BigQuiet
import Derived.RegionIn
import Derived.Deep.QuietTactic
import Derived.Deep.RegionWith
import Derived.Lib.OthersKept
import Derived.Maps.AppendAt
import Derived.Lib.SmallJoins
import Derived.Shelf.SlSortCmp.QuietGrown
import Derived.ArgAppend
import Derived.Below
import Derived.Deep.LoopGhost
import Derived.Laws.CopyOwn
import Derived.Laws.MakeOwn
import Derived.Lib.AppendStr
import Derived.Lib.ConvBytes
import Derived.Lib.IndexBytes
import Derived.Lib.ParseIntB
import Derived.RangeFuncBox
import Derived.WalkMore
import Derived.Shelf.Small.Utf8
import Derived.Test.YtkijbaofhodplaaDoorUz
import Derived.Test.YtkijbaofhodplaaDoorUa
import Derived.Test.YtkijbaofhodplaaDoorBq
import Derived.Test.YtkijbaofhodplaaDoorHb
import Derived.Test.YtkijbaofhodplaaDoorMa
namespace Go.Proofs
open Go.RowKit Go.Shelf

set_option maxRecDepth 100000
attribute [local go_sem] Oper.semAt_some
attribute [local go_sem ↓] Go.wp_at_zero Go.wp_at_succ
def put (u : Int) : ByteArray := if 1114240 ≤ u ∧ u ≤ 1114367 then ⟨#[UInt8.ofNat (u - 1114112).toNat]⟩ else if (0 ≤ u ∧ u < 55296) ∨ (57343 < u ∧ u ≤ 1114111) then Utf8.encode u else ByteArray.empty
theorem put_stray {u : Int} (h : 1114240 ≤ u ∧ u ≤ 1114367) : put u = ⟨#[UInt8.ofNat (u - 1114112).toNat]⟩ := by unfold put; rw [if_pos h]
theorem put_rune {u : Int} (h : (0 ≤ u ∧ u < 55296) ∨ (57343 < u ∧ u ≤ 1114111)) : put u = Utf8.encode u := by unfold put; rw [if_neg (by omega), if_pos h]
theorem put_no {u : Int} (h1 : u < 1114240 ∨ 1114367 < u) (h : u < 0 ∨ 1114111 < u ∨ (55296 ≤ u ∧ u ≤ 57343)) : put u = ByteArray.empty := by unfold put; rw [if_neg (by omega), if_neg (by omega)]
theorem info_parts {α : Type} {i : Option α} {β γ δ : Type} {f : α → β} {g : α → γ} {h : α → δ} {b : β} {c : γ} {d : δ} (e : i.map (fun x => (f x, g x, h x)) = some (b, c, d)) : ∃ x, i = some x ∧ f x = b ∧ g x = c ∧ h x = d := by
  cases i with
  | none => cases e
  | some x => simp at e; exact ⟨x, rfl, e.1, e.2.1, e.2.2⟩
theorem dec1 (s : ByteArray) (p : Nat) (h : (s.get! p).toNat < 128) : Utf8.decode s p = ((s.get! p).toNat, 1) := by
  unfold Utf8.decode
  simp only [Nat.add_zero]
  rw [if_pos (by omega)]
theorem dec2 (s : ByteArray) (p c : Nat) (h0 : 128 ≤ c) (h1 : c < 2048) (hs : p + 1 < s.size) (b0 : (s.get! p).toNat = 192 + c / 64) (b1 : (s.get! (p + 1)).toNat = 128 + c % 64) : Utf8.decode s p = (c, 2) := by
  unfold Utf8.decode
  simp only [Nat.add_zero, b0, b1]
  rw [if_neg (by omega), if_pos (by simp [hs]; omega), if_pos (by omega)]
  rw [Prod.mk.injEq]; omega
theorem dec3 (s : ByteArray) (p c : Nat) (h0 : 2048 ≤ c) (h1 : c < 65536) (hv : c < 55296 ∨ 57344 ≤ c) (hs : p + 2 < s.size) (b0 : (s.get! p).toNat = 224 + c / 4096) (b1 : (s.get! (p + 1)).toNat = 128 + c / 64 % 64) (b2 : (s.get! (p + 2)).toNat = 128 + c % 64) : Utf8.decode s p = (c, 3) := by
  have hs1 : p + 1 < s.size := by omega
  unfold Utf8.decode
  simp only [Nat.add_zero, b0, b1, b2]
  rw [if_neg (by omega), if_neg (by simp; omega), if_pos (by simp [hs, hs1]; omega)]
  have e : (224 + c / 4096) % 16 * 4096 + (128 + c / 64 % 64) % 64 * 64 + (128 + c % 64) % 64 = c := by omega
  rw [e, if_pos (by simp [Utf8.valid]; omega)]
theorem dec4 (s : ByteArray) (p c : Nat) (h0 : 65536 ≤ c) (h1 : c < 1114112) (hs : p + 3 < s.size) (b0 : (s.get! p).toNat = 240 + c / 262144) (b1 : (s.get! (p + 1)).toNat = 128 + c / 4096 % 64) (b2 : (s.get! (p + 2)).toNat = 128 + c / 64 % 64) (b3 : (s.get! (p + 3)).toNat = 128 + c % 64) : Utf8.decode s p = (c, 4) := by
  have hs1 : p + 1 < s.size := by omega
  have hs2 : p + 2 < s.size := by omega
  unfold Utf8.decode
  simp only [Nat.add_zero, b0, b1, b2, b3]
  rw [if_neg (by omega), if_neg (by simp; omega), if_neg (by simp; omega), if_pos (by simp [hs, hs1, hs2]; omega)]
  have e : (240 + c / 262144) % 8 * 262144 + (128 + c / 4096 % 64) % 64 * 4096 + (128 + c / 64 % 64) % 64 * 64 + (128 + c % 64) % 64 = c := by omega
  rw [e, if_pos (by simp [Utf8.valid]; omega)]
theorem size_lit (l : List UInt8) : (⟨l.toArray⟩ : ByteArray).size = l.length := by simp [ByteArray.size]
theorem b8 (n : Nat) (h : n < 256) : (UInt8.ofNat n).toNat = n := by rw [UInt8.toNat_ofNat']; omega
theorem enc1 (c : Nat) (h : c < 128) : Utf8.encode (c : Int) = ⟨[UInt8.ofNat c].toArray⟩ := by
  unfold Utf8.encode
  have hv : Utf8.valid (c : Int) = true := by simp [Utf8.valid]; omega
  simp only [hv, if_true, Int.toNat_natCast]
  rw [if_pos (by omega)]
theorem enc2 (c : Nat) (h0 : 128 ≤ c) (h : c < 2048) : Utf8.encode (c : Int) = ⟨[UInt8.ofNat (192 + c / 64), UInt8.ofNat (128 + c % 64)].toArray⟩ := by
  unfold Utf8.encode
  have hv : Utf8.valid (c : Int) = true := by simp [Utf8.valid]; omega
  simp only [hv, if_true, Int.toNat_natCast]
  rw [if_neg (by omega), if_pos (by omega)]
theorem enc3 (c : Nat) (h0 : 2048 ≤ c) (h : c < 65536) (hv : c < 55296 ∨ 57344 ≤ c) : Utf8.encode (c : Int) = ⟨[UInt8.ofNat (224 + c / 4096), UInt8.ofNat (128 + c / 64 % 64), UInt8.ofNat (128 + c % 64)].toArray⟩ := by
  unfold Utf8.encode
  have hv : Utf8.valid (c : Int) = true := by simp [Utf8.valid]; omega
  simp only [hv, if_true, Int.toNat_natCast]
  rw [if_neg (by omega), if_neg (by omega), if_pos (by omega)]
theorem enc4 (c : Nat) (h0 : 65536 ≤ c) (h : c < 1114112) : Utf8.encode (c : Int) = ⟨[UInt8.ofNat (240 + c / 262144), UInt8.ofNat (128 + c / 4096 % 64), UInt8.ofNat (128 + c / 64 % 64), UInt8.ofNat (128 + c % 64)].toArray⟩ := by
  unfold Utf8.encode
  have hv : Utf8.valid (c : Int) = true := by simp [Utf8.valid]; omega
  simp only [hv, if_true, Int.toNat_natCast]
  rw [if_neg (by omega), if_neg (by omega), if_neg (by omega)]
/-- what a rune of several bytes is made of -/
theorem uw_many (s : ByteArray) (p : Nat) (h : 1 < uw s p) : p + uw s p ≤ s.size ∧ (s.get! p).toNat / 64 = 3 ∧ ∀ k, 1 ≤ k → k < uw s p → (s.get! (p + k)).toNat / 64 = 2 := by
  have h0 := (s.get! p).toNat_lt
  unfold uw Utf8.decode at *
  simp only [Nat.add_zero] at *
  split at h
  · simp at h
  · split at h
    · rename_i h1 h2
      simp only [Bool.and_eq_true, decide_eq_true_eq, beq_iff_eq] at h2
      split at h
      · rename_i h3
        rw [if_neg h1, if_pos (by simpa using h2), if_pos h3]
        refine ⟨by simp only; omega, by omega, fun k hk1 hk2 => ?_⟩
        simp only at hk2
        obtain rfl : k = 1 := by omega
        omega
      · simp at h
    · split at h
      · rename_i h1 h2 h3
        split at h
        · rename_i h4
          rw [if_neg h1, if_neg h2, if_pos h3, if_pos h4]
          simp only [Bool.and_eq_true, decide_eq_true_eq, beq_iff_eq] at h3
          refine ⟨by simp only; omega, by omega, fun k hk1 hk2 => ?_⟩
          simp only at hk2
          have : k = 1 ∨ k = 2 := by omega
          rcases this with rfl | rfl <;> omega
        · simp at h
      · split at h
        · rename_i h1 h2 h3 h5
          split at h
          · rename_i h4
            rw [if_neg h1, if_neg h2, if_neg h3, if_pos h5, if_pos h4]
            simp only [Bool.and_eq_true, decide_eq_true_eq, beq_iff_eq] at h5
            refine ⟨by simp only; omega, by omega, fun k hk1 hk2 => ?_⟩
            simp only at hk2
            have : k = 1 ∨ k = 2 ∨ k = 3 := by omega
            rcases this with rfl | rfl | rfl <;> omega
          · simp at h
        · simp at h

/-- a rune of several bytes, by its number -/
def Form (s : ByteArray) (p c n : Nat) : Prop := p + n ≤ s.size ∧ Utf8.decode s p = (c, n) ∧
  ((n = 2 ∧ 128 ≤ c ∧ c < 2048 ∧ (s.get! p).toNat = 192 + c / 64 ∧ (s.get! (p + 1)).toNat = 128 + c % 64) ∨
   (n = 3 ∧ 2048 ≤ c ∧ c < 65536 ∧ (c < 55296 ∨ 57344 ≤ c) ∧ (s.get! p).toNat = 224 + c / 4096 ∧ (s.get! (p + 1)).toNat = 128 + c / 64 % 64 ∧ (s.get! (p + 2)).toNat = 128 + c % 64) ∨
   (n = 4 ∧ 65536 ≤ c ∧ c < 1114112 ∧ (s.get! p).toNat = 240 + c / 262144 ∧ (s.get! (p + 1)).toNat = 128 + c / 4096 % 64 ∧ (s.get! (p + 2)).toNat = 128 + c / 64 % 64 ∧ (s.get! (p + 3)).toNat = 128 + c % 64))
theorem form_of (s : ByteArray) (p : Nat) (h : 1 < uw s p) : ∃ c, Form s p c (uw s p) := by
  have h0 := (s.get! p).toNat_lt
  have h1' := (s.get! (p + 1)).toNat_lt
  have h2' := (s.get! (p + 2)).toNat_lt
  have h3' := (s.get! (p + 3)).toNat_lt
  have hle := (uw_many s p h).1
  obtain ⟨c, n, hd⟩ : ∃ c n, Utf8.decode s p = (c, n) := ⟨_, _, rfl⟩
  have hn : uw s p = n := by unfold uw; rw [hd]
  rw [hn] at h hle ⊢
  refine ⟨c, hle, hd, ?_⟩
  unfold Utf8.decode at hd
  simp only [Nat.add_zero] at hd
  split at hd
  · simp only [Prod.mk.injEq] at hd; omega
  · split at hd
    · rename_i h1 h2
      simp only [Bool.and_eq_true, decide_eq_true_eq, beq_iff_eq] at h2
      split at hd
      · simp only [Prod.mk.injEq] at hd
        left; omega
      · simp only [Prod.mk.injEq] at hd; omega
    · split at hd
      · rename_i h1 h2 h3
        simp only [Bool.and_eq_true, decide_eq_true_eq, beq_iff_eq] at h3
        split at hd
        · rename_i h4
          simp only [Prod.mk.injEq] at hd
          simp only [Utf8.valid, Bool.and_eq_true, Bool.or_eq_true, decide_eq_true_eq] at h4
          right; left; omega
        · simp only [Prod.mk.injEq] at hd; omega
      · split at hd
        · rename_i h1 h2 h3 h5
          simp only [Bool.and_eq_true, decide_eq_true_eq, beq_iff_eq] at h5
          split at hd
          · rename_i h4
            simp only [Prod.mk.injEq] at hd
            simp only [Utf8.valid, Bool.and_eq_true, Bool.or_eq_true, decide_eq_true_eq] at h4
            right; right; omega
          · simp only [Prod.mk.injEq] at hd; omega
        · simp only [Prod.mk.injEq] at hd; omega
/-- a border: nothing that begins ahead reaches beyond -/
def bord (s : ByteArray) (p : Nat) : Prop := ∀ q, q < p → q + uw s q ≤ p
theorem bord_size (s : ByteArray) : bord s s.size := fun q h => by
  by_cases h1 : 1 < uw s q
  · exact (uw_many s q h1).1
  · omega
theorem get_ext (s : ByteArray) (f e r : Nat) (h : f + r < e) (he : e ≤ s.size) : (s.extract f e).get! r = s.get! (f + r) := by
  have hz : (s.extract f e).size = e - f := by simp [ByteArray.size_extract]; omega
  rw [get_bang _ _ (by omega), get_bang _ _ (by omega)]
  simp [ByteArray.getElem_extract]
theorem one_wide (s : ByteArray) (p : Nat) (h : uw s p = 1) : ((s.get! p).toNat < 128 ∧ Utf8.decode s p = ((s.get! p).toNat, 1)) ∨ (128 ≤ (s.get! p).toNat ∧ Utf8.decode s p = (65533, 1)) := by
  by_cases hb : (s.get! p).toNat < 128
  · exact .inl ⟨hb, dec1 s p hb⟩
  · refine .inr ⟨by omega, ?_⟩
    obtain ⟨c, n, hd⟩ : ∃ c n, Utf8.decode s p = (c, n) := ⟨_, _, rfl⟩
    have hn : n = 1 := by rw [← h]; unfold uw; rw [hd]
    subst hn
    have hc : c = 65533 := by
      unfold Utf8.decode at hd
      simp only [Nat.add_zero] at hd
      rw [if_neg hb] at hd
      repeat' split at hd
      all_goals (simp only [Prod.mk.injEq, Utf8.runeError] at hd; omega)
    rw [hd, hc]
theorem prefix_bytes (s : ByteArray) (p : Nat) (h : Lib.hasPrefix (s.data.toList.drop p) fffd = true) : Form s p 65533 3 := by
  unfold Lib.hasPrefix at h
  rw [List.isPrefixOf_iff_prefix] at h
  obtain ⟨t, ht⟩ := h
  have hl : (s.data.toList.drop p).length = 3 + t.length := by rw [← ht]; simp [fffd]; omega
  rw [List.length_drop, ← Lib.size_eq] at hl
  have hg : ∀ k (hk : k < 3), s.get! (p + k) = fffd.getD k 0 := fun k hk => by
    rw [get_bang s _ (by omega)]
    have e : (s.data.toList.drop p)[k]? = fffd[k]? := by rw [← ht, List.getElem?_append_left (by simpa [fffd] using hk)]
    rw [List.getElem?_drop] at e
    have e2 : s.data.toList[p + k]? = some s[p + k] := by
      rw [List.getElem?_eq_getElem (by rw [← Lib.size_eq]; omega)]; rfl
    rw [e2] at e
    simp [List.getD, ← e]
  have g0 := hg 0 (by omega)
  have g1 := hg 1 (by omega)
  have g2 := hg 2 (by omega)
  rw [Nat.add_zero] at g0
  have b0 : (s.get! p).toNat = 224 + 65533 / 4096 := by rw [g0]; decide
  have b1 : (s.get! (p + 1)).toNat = 128 + 65533 / 64 % 64 := by rw [g1]; decide
  have b2 : (s.get! (p + 2)).toNat = 128 + 65533 % 64 := by rw [g2]; decide
  exact ⟨by omega, dec3 s p 65533 (by omega) (by omega) (by omega) (by omega) b0 b1 b2, .inr (.inl ⟨rfl, by omega, by omega, by omega, b0, b1, b2⟩)⟩
theorem bytes_prefix (s : ByteArray) (p : Nat) (h : Form s p 65533 3) : Lib.hasPrefix (s.data.toList.drop p) fffd = true := by
  obtain ⟨hz, _, h⟩ := h
  have hb : (s.get! p).toNat = 239 ∧ (s.get! (p + 1)).toNat = 191 ∧ (s.get! (p + 2)).toNat = 189 := by omega
  unfold Lib.hasPrefix
  rw [List.isPrefixOf_iff_prefix]
  have e : ∀ k (hk : p + k < s.size), s.data.toList[p + k]'(by rw [← Lib.size_eq]; exact hk) = s.get! (p + k) := fun k hk => by rw [get_bang s _ hk]; rfl
  rw [List.drop_eq_getElem_cons (by rw [← Lib.size_eq]; omega), List.drop_eq_getElem_cons (by rw [← Lib.size_eq]; omega), List.drop_eq_getElem_cons (by rw [← Lib.size_eq]; omega)]
  have e0 := e 0 (by omega)
  have e1 := e 1 (by omega)
  have e2 := e 2 (by omega)
  simp only [Nat.add_zero] at e0
  have u0 : s.get! p = 239 := UInt8.toNat_inj.1 hb.1
  have u1 : s.get! (p + 1) = 191 := UInt8.toNat_inj.1 hb.2.1
  have u2 : s.get! (p + 2) = 189 := UInt8.toNat_inj.1 hb.2.2
  rw [e0, u0]
  refine ⟨s.data.toList.drop (p + 1 + 1 + 1), ?_⟩
  simp only [fffd, List.cons_append, List.nil_append, List.cons.injEq, and_true, true_and]
  exact ⟨by rw [← u1]; exact e1.symm, by rw [← u2]; exact e2.symm⟩
theorem stray_iff (s : ByteArray) (p : Nat) : strayAt s p = true ↔ Utf8.decode s p = (65533, 1) := by
  unfold strayAt
  rw [Bool.and_eq_true, beq_iff_eq, Bool.not_eq_true']
  constructor
  · rintro ⟨h1, h2⟩
    by_cases h : 1 < uw s p
    · obtain ⟨c, F⟩ := form_of s p h
      have hd := F.2.1
      rw [hd] at h1
      simp only at h1
      subst h1
      have h3 : uw s p = 3 := by have := F.2.2; omega
      rw [h3] at F
      rw [bytes_prefix s p F] at h2
      cases h2
    · have := uw_pos s p
      have hu : uw s p = 1 := by omega
      rcases one_wide s p hu with ⟨a, b⟩ | ⟨a, b⟩
      · rw [b] at h1; simp only at h1; omega
      · exact b
  · intro h
    refine ⟨by rw [h], ?_⟩
    cases hp : Lib.hasPrefix (s.data.toList.drop p) fffd with
    | false => rfl
    | true =>
      have := (prefix_bytes s p hp).2.1
      rw [h] at this
      simp at this
/-- a unit is as wide as it stands -/
theorem wd_uAt (s : ByteArray) (p : Nat) : wd (uAt s p) = uw s p := by
  by_cases h : 1 < uw s p
  · obtain ⟨c, F⟩ := form_of s p h
    have hns : strayAt s p = false := by
      cases hs : strayAt s p with
      | false => rfl
      | true => have := (stray_iff s p).1 hs; rw [F.2.1] at this; simp at this; omega
    rw [uAt_rune hns, F.2.1]
    have := F.2.2
    unfold wd Lib.runeLen
    repeat' split
    all_goals omega
  · have hpos := uw_pos s p
    have hu : uw s p = 1 := by omega
    rcases one_wide s p hu with ⟨a, b⟩ | ⟨a, b⟩
    · have hns : strayAt s p = false := by
        cases hs : strayAt s p with
        | false => rfl
        | true => have := (stray_iff s p).1 hs; rw [b] at this; simp at this; omega
      rw [uAt_rune hns, b, hu]
      unfold wd Lib.runeLen
      repeat' split
      all_goals omega
    · have hlt := (s.get! p).toNat_lt
      rw [uAt_stray ((stray_iff s p).2 b), hu, wd_stray (by omega)]
      rfl
theorem uw_in (s : ByteArray) (q : Nat) (h : q < s.size) : q + uw s q ≤ s.size := bord_size s q h
end Go.Proofs
namespace Go.Proofs
open Go.RowKit Go.Shelf

set_option maxRecDepth 100000
attribute [local go_sem] Oper.semAt_some
attribute [local go_sem ↓] Go.wp_at_zero Go.wp_at_succ
theorem fuel (s : ByteArray) : ∀ k k' q, s.size ≤ q + k → s.size ≤ q + k' → unitsN s k q = unitsN s k' q
  | 0, k', q, h, _ => by rw [unitsN_end s 0 q (by omega), unitsN_end s k' q (by omega)]
  | k + 1, 0, q, _, h => by rw [unitsN_end s _ q (by omega), unitsN_end s 0 q (by omega)]
  | k + 1, k' + 1, q, h, h' => by
    by_cases hq : q < s.size
    · have := uw_pos s q
      rw [unitsN_step s k q hq, unitsN_step s k' q hq, fuel s k k' (q + uw s q) (by omega) (by omega)]
    · rw [unitsN_end s _ q hq, unitsN_end s _ q hq]
theorem w64b (b : UInt8) : wrap64 (b.toNat : Int) = (b.toNat : Int) := by
  have := b.toNat_lt
  rw [← IntWalk.i64_left]; exact IntWalk.i64_in _ (by omega)
def flat (l : List (Nat × Nat)) : List Value := l.flatMap fun x => [Value.int .i64 (x.1 : Int), Value.int .i64 (x.2 : Int)]
theorem info3 : (Tryd.prog.info? 3).map (fun i => (i.zero, i.size, i.bytes)) = some (some (.int .i64 0), 1, 8) := by kernel_rfl
/-- a slice value that reads as these integers -/
def Ints (w : World) (v : Value) (xs : List Int) : Prop :=
  ∃ (a : Option Addr) (cap : Nat), v = .slice a xs.length cap ∧ (xs = [] ∨ ∃ g o, a = some ⟨g, o, none⟩ ∧ ∀ j, j < xs.length → w.cell? ⟨g, o + j, none⟩ = some (.int .i64 (xs[j]?.getD 0)))
theorem Ints.below {w w' : World} {n : Nat} {v : Value} {xs : List Int} (h : Ints w v xs) (hb : Below n w w') (hn : w.heap.size ≤ n) : Ints w' v xs := by
  obtain ⟨a, cap, rfl, h | ⟨g, o, rfl, hc⟩⟩ := h
  · exact ⟨a, cap, rfl, .inl h⟩
  · refine ⟨_, cap, rfl, .inr ⟨g, o, rfl, fun j hj => ?_⟩⟩
    obtain ⟨ob, ho, _⟩ := cells_of_cell (hc j hj)
    have : g < w.heap.size := (Array.getElem?_eq_some_iff.1 ho).1
    exact (hb.cell (p := ⟨g, o + j, none⟩) (show g < n by omega)).trans (hc j hj)
theorem Ints.of_row {w : World} {base : Nat} {v : Value} {xs : List Int} (h : w.ownsRow base 3 1 v xs.length (xs.map (Value.int .i64))) : Ints w v xs := by
  rcases Joins.ownsRow_forms h with ⟨rfl, h0⟩ | ⟨g, cap, rfl⟩
  · obtain rfl : xs = [] := List.eq_nil_of_length_eq_zero h0
    exact ⟨none, 0, rfl, .inl rfl⟩
  · refine ⟨_, cap, rfl, .inr ⟨g, 0, rfl, fun j hj => ?_⟩⟩
    rw [Nat.zero_add, h.cellAt j (by omega)]
    simp [hj]
def low (c : Nat) : Nat → List UInt8
  | 0 => []
  | k + 1 => UInt8.ofNat (128 + c / 64 ^ k % 64) :: low c k
def bc (l : List UInt8) : List Value := l.map fun b => .int .u8 (b.toNat : Int)
theorem low_length (c k : Nat) : (low c k).length = k := by induction k with | zero => rfl | succ k ih => simp [low, ih]
theorem bc_low_succ (c k x : Nat) (h : x = c / 64 ^ k) : [Value.int .u8 (128 + (x : Int) % 64)] ++ bc (low c k) = bc (low c (k + 1)) := by
  have e : low c (k + 1) = UInt8.ofNat (128 + c / 64 ^ k % 64) :: low c k := rfl
  have e2 : bc (low c (k + 1)) = Value.int .u8 (((UInt8.ofNat (128 + c / 64 ^ k % 64)).toNat : Nat) : Int) :: bc (low c k) := by rw [e]; rfl
  rw [e2, b8 _ (by omega), ← h, List.singleton_append]
  congr 1
def bspec (first : Int) (c n : Nat) : List Value := Value.int .u8 (first + ((c / 64 ^ (n - 1) : Nat) : Int)) :: bc (low c (n - 1))
theorem bspec_of {first : Int} {c n k x : Nat} (hk : n - 1 = k) (hx : x = c / 64 ^ k) : [Value.int .u8 (first + (x : Int))] ++ bc (low c k) = bspec first c n := by
  unfold bspec; rw [hk, hx]; rfl
theorem info51 : (Tryd.prog.info? 5).map (fun i => (i.zero, i.size, i.bytes)) = some (some (.int .u8 0), 1, 1) := by kernel_rfl
set_option maxHeartbeats 2000000 in
theorem bytes_many (c n : Nat) (first : Int) (w : World) (hw : wd c = n) (hn : (n = 2 ∧ first = 192) ∨ (n = 3 ∧ first = 224) ∨ (n = 4 ∧ first = 240)) (hc : c < 1114112) (hx : first + ((c / 64 ^ (n - 1) : Nat) : Int) < 256) :
    Calls Tryd.prog 92 #[.int .i64 c] w fun e w' => ∃ v, e = .returned v ∧ w'.ownsRow w.heap.size 5 1 v n (bspec first c n) ∧ Below w.heap.size w w' := by
  obtain ⟨i0, hi, hz0, hz1, hz2⟩ := info_parts info51
  have hwd : ∀ W : World, Calls Tryd.prog 21 #[.int .i64 c] W fun e w' => e = .returned (.int .i64 n) ∧ w' = W := fun W => by have := rwidth_any c W; rw [hw] at this; exact this
  have HC : Hid (∀ W : World, Calls Tryd.prog 21 #[.int .i64 c] W fun e w' => e = .returned (.int .i64 n) ∧ w' = W) := hwd
  have hn2 : 2 ≤ n ∧ n ≤ 4 := by omega
  obtain ⟨hn2, hn4⟩ := hn2
  have e0 : ((n : Int) == 0) = false := by simp; omega
  have e1 : ((n : Int) == 1) = false := by simp; omega
  have e2 : decide (1114112 ≤ (c : Int)) = false := by simp; omega
  clear hwd hw
  go_enter Tryd.func92, Tryd.ntmps92
  go_wp2_with (go_at_call 21; refine (HC.out _).mono ?_; rintro e w' ⟨rfl, rfl⟩)
  go_loopw [0, 4, 5] (fun vu vo vi wr => ∃ (k x g cap : Nat), vu = .int .i64 x ∧ vo = .slice (some ⟨g, 0, none⟩) k cap ∧ vi = .int .i64 ((k : Int) + 1) ∧ k + 1 ≤ n ∧ Hid (x = c / 64 ^ k) ∧ x < 1114112 ∧ wr.ownsRow w'.heap.size 5 1 (.slice (some ⟨g, 0, none⟩) k cap) k (bc (low c k)) ∧ Below w'.heap.size w' wr) (fun _ _ vi _ => n - (intOf vi).toNat)
  case atStart =>
    exact ⟨0, c, _, _, rfl, rfl, rfl, by omega, by simp [Hid], hc, World.ownsRow_lit _ #[] 0 (Nat.le_refl _) (by unfold maxLen; omega) rfl, (Below.refl _ _).alloc (Nat.le_refl _) _⟩
  case round =>
    obtain ⟨k, x, g, cap, rfl, rfl, rfl, hk, hX, hx0, hown, hb⟩ := hrel
    by_cases hlt : k + 1 < n
    · have hz := hb.size
      have hxi : (x : Int) < 1114112 := by omega
      have hlt' : (k : Int) + 1 < (n : Int) := by omega
      have hlow : (bc (low c k)).length = k := by simp [bc, low_length]
      go_wp2_with (at_builtin; go_must (refine wpList_append_own _ rfl _ _ 132 rfl w'.heap.size 5 i0 (.int .u8 0) 1 1 Tryd.underlying132 hi hz0 hz1 hz2 rfl (by decide) _ _ _ rfl (World.ownsRow_lit wr #[.int .u8 (128 + (x : Int) % 64)] 1 hz (by unfold maxLen; omega) rfl) ⟨g, 0, none⟩ k cap (bc (low c k)) rfl (by rw [hlow]; omega) (fun j u hu => (hown.alloc _).cells rfl j u hu) (by intro u hu; simp [bc] at hu; obtain ⟨b, _, rfl⟩ := hu; rfl) (by unfold maxLen; omega) (by omega) (by simp; omega) ?_); intro v' w1 hown' hgrow _)
      rw [show 1 + k = k + 1 by omega, bc_low_succ c k x hX.out] at hown'
      obtain ⟨g', cap', rfl⟩ := ownsRow_succ hown'
      have hdiv : x / 64 = c / 64 ^ (k + 1) := by rw [hX.out, Nat.div_div_eq_div_mul, Nat.pow_succ]
      exact ⟨⟨k + 1, x / 64, g', cap', by go_num, rfl, by go_num, by omega, hdiv, by omega, hown', (hb.alloc hz _).grown hgrow (by simp; omega) (fun j e => by cases e; exact hz)⟩, by simp [intOf]; omega⟩
    · have hkn : k + 1 = n := by omega
      have hz := hb.size
      have hlow : (bc (low c k)).length = k := by simp [bc, low_length]
      have hk1 : n - 1 = k := by omega
      rw [hk1, ← hX.out] at hx
      have HK : Hid (n - 1 = k) := hk1
      clear hk1
      have hge : ¬ ((k : Int) + 1 < (n : Int)) := by omega
      rcases hn with ⟨rfl, rfl⟩ | ⟨rfl, rfl⟩ | ⟨rfl, rfl⟩
      · have hlit := World.ownsRow_lit (base := w'.heap.size) (e := 5) (size := 1) (wr.alloc (.cells #[.int .i64 0, .int .i64 0, .int .i64 192, .int .i64 224, .int .i64 240] 3)) #[.int .u8 (192 + (x : Int))] 1 (by rw [World.size_alloc]; omega) (by unfold maxLen; omega) rfl
        rw [World.size_alloc] at hlit
        go_wp2_with (at_builtin; go_must (refine wpList_append_own _ rfl _ _ 132 rfl w'.heap.size 5 i0 (.int .u8 0) 1 1 Tryd.underlying132 hi hz0 hz1 hz2 rfl (by decide) _ _ _ rfl hlit ⟨g, 0, none⟩ k cap (bc (low c k)) rfl (by rw [hlow]; omega) (fun j u hu => ((hown.alloc _).alloc _).cells rfl j u hu) (by intro u hu; simp [bc] at hu; obtain ⟨b, _, rfl⟩ := hu; rfl) (by unfold maxLen; omega) (by omega) (by rw [World.size_alloc, World.size_alloc]; omega) ?_); intro v' w1 hown' hgrow _)
        go_ret
        rw [show 1 + k = 2 by omega] at hown'
        have hsp := bspec_of (first := 192) HK.out hX.out
        rw [← hsp]
        exact ⟨v', rfl, hown', ((hb.alloc hz _).alloc (by rw [World.size_alloc]; omega) _).grown hgrow (by rw [World.size_alloc, World.size_alloc]; omega) (fun j e => by cases e; show _ ≤ wr.heap.size + 1; omega)⟩
      · have hlit := World.ownsRow_lit (base := w'.heap.size) (e := 5) (size := 1) (wr.alloc (.cells #[.int .i64 0, .int .i64 0, .int .i64 192, .int .i64 224, .int .i64 240] 3)) #[.int .u8 (224 + (x : Int))] 1 (by rw [World.size_alloc]; omega) (by unfold maxLen; omega) rfl
        rw [World.size_alloc] at hlit
        go_wp2_with (at_builtin; go_must (refine wpList_append_own _ rfl _ _ 132 rfl w'.heap.size 5 i0 (.int .u8 0) 1 1 Tryd.underlying132 hi hz0 hz1 hz2 rfl (by decide) _ _ _ rfl hlit ⟨g, 0, none⟩ k cap (bc (low c k)) rfl (by rw [hlow]; omega) (fun j u hu => ((hown.alloc _).alloc _).cells rfl j u hu) (by intro u hu; simp [bc] at hu; obtain ⟨b, _, rfl⟩ := hu; rfl) (by unfold maxLen; omega) (by omega) (by rw [World.size_alloc, World.size_alloc]; omega) ?_); intro v' w1 hown' hgrow _)
        go_ret
        rw [show 1 + k = 3 by omega] at hown'
        have hsp := bspec_of (first := 224) HK.out hX.out
        rw [← hsp]
        exact ⟨v', rfl, hown', ((hb.alloc hz _).alloc (by rw [World.size_alloc]; omega) _).grown hgrow (by rw [World.size_alloc, World.size_alloc]; omega) (fun j e => by cases e; show _ ≤ wr.heap.size + 1; omega)⟩
      · have hlit := World.ownsRow_lit (base := w'.heap.size) (e := 5) (size := 1) (wr.alloc (.cells #[.int .i64 0, .int .i64 0, .int .i64 192, .int .i64 224, .int .i64 240] 3)) #[.int .u8 (240 + (x : Int))] 1 (by rw [World.size_alloc]; omega) (by unfold maxLen; omega) rfl
        rw [World.size_alloc] at hlit
        go_wp2_with (at_builtin; go_must (refine wpList_append_own _ rfl _ _ 132 rfl w'.heap.size 5 i0 (.int .u8 0) 1 1 Tryd.underlying132 hi hz0 hz1 hz2 rfl (by decide) _ _ _ rfl hlit ⟨g, 0, none⟩ k cap (bc (low c k)) rfl (by rw [hlow]; omega) (fun j u hu => ((hown.alloc _).alloc _).cells rfl j u hu) (by intro u hu; simp [bc] at hu; obtain ⟨b, _, rfl⟩ := hu; rfl) (by unfold maxLen; omega) (by omega) (by rw [World.size_alloc, World.size_alloc]; omega) ?_); intro v' w1 hown' hgrow _)
        go_ret
        rw [show 1 + k = 4 by omega] at hown'
        have hsp := bspec_of (first := 240) HK.out hX.out
        rw [← hsp]
        exact ⟨v', rfl, hown', ((hb.alloc hz _).alloc (by rw [World.size_alloc]; omega) _).grown hgrow (by rw [World.size_alloc, World.size_alloc]; omega) (fun j e => by cases e; show _ ≤ wr.heap.size + 1; omega)⟩

set_option maxHeartbeats 1000000 in
theorem bytes_none (u : Int) (w : World) (hw : wd u = 0) : Calls Tryd.prog 92 #[.int .i64 u] w fun e w' => e = .returned (.slice none 0 0) ∧ w' = w := by
  have hwd : ∀ W : World, Calls Tryd.prog 21 #[.int .i64 u] W fun e w' => e = .returned (.int .i64 0) ∧ w' = W := fun W => by have := rwidth_any u W; rw [hw] at this; exact this
  have HC : Hid (∀ W : World, Calls Tryd.prog 21 #[.int .i64 u] W fun e w' => e = .returned (.int .i64 0) ∧ w' = W) := hwd
  clear hwd hw
  go_enter Tryd.func92, Tryd.ntmps92
  go_wp2_with (go_at_call 21; refine (HC.out _).mono ?_; rintro e w' ⟨rfl, rfl⟩)
  go_ret
  exact ⟨rfl, rfl⟩
set_option maxHeartbeats 1000000 in
theorem bytes_stray (u : Int) (w : World) (h0 : 1114240 ≤ u) (h1 : u ≤ 1114367) : Calls Tryd.prog 92 #[.int .i64 u] w fun e w' => e = .returned (.slice (some ⟨w.heap.size, 0, none⟩) 1 1) ∧ w' = w.alloc (.cells #[.int .u8 (u - 1114112)] 5) := by
  have hwd : ∀ W : World, Calls Tryd.prog 21 #[.int .i64 u] W fun e w' => e = .returned (.int .i64 1) ∧ w' = W := fun W => by have := rwidth_any u W; rw [wd_stray ⟨h0, h1⟩] at this; exact this
  have HC : Hid (∀ W : World, Calls Tryd.prog 21 #[.int .i64 u] W fun e w' => e = .returned (.int .i64 1) ∧ w' = W) := hwd
  clear hwd
  go_enter Tryd.func92, Tryd.ntmps92
  go_wp2_with (go_at_call 21; refine (HC.out _).mono ?_; rintro e w' ⟨rfl, rfl⟩)
  go_ret
  exact ⟨rfl, rfl⟩
set_option maxHeartbeats 1000000 in
theorem bytes_ascii (u : Int) (w : World) (h0 : 0 ≤ u) (h1 : u ≤ 127) : Calls Tryd.prog 92 #[.int .i64 u] w fun e w' => e = .returned (.slice (some ⟨w.heap.size, 0, none⟩) 1 1) ∧ w' = w.alloc (.cells #[.int .u8 u] 5) := by
  have hwd : ∀ W : World, Calls Tryd.prog 21 #[.int .i64 u] W fun e w' => e = .returned (.int .i64 1) ∧ w' = W := fun W => by have := rwidth_any u W; rw [show wd u = 1 by unfold wd Lib.runeLen; repeat' split <;> omega] at this; exact this
  have HC : Hid (∀ W : World, Calls Tryd.prog 21 #[.int .i64 u] W fun e w' => e = .returned (.int .i64 1) ∧ w' = W) := hwd
  clear hwd
  go_enter Tryd.func92, Tryd.ntmps92
  go_wp2_with (go_at_call 21; refine (HC.out _).mono ?_; rintro e w' ⟨rfl, rfl⟩)
  go_ret
  exact ⟨rfl, rfl⟩
theorem bc_cons (n : Nat) (l : List UInt8) (h : n < 256) : bc (UInt8.ofNat n :: l) = Value.int .u8 (n : Int) :: bc l := by
  show Value.int .u8 (((UInt8.ofNat n).toNat : Nat) : Int) :: bc l = _
  rw [b8 n h]
/-- the reference's bytes are the unit's -/
theorem bytes_any (u : Int) (w : World) : Calls Tryd.prog 92 #[.int .i64 u] w fun e w' => ∃ v, e = .returned v ∧ w'.ownsRow w.heap.size 5 1 v (put u).size (bc (put u).data.toList) ∧ Below w.heap.size w w' := by
  by_cases a : 1114240 ≤ u ∧ u ≤ 1114367
  · refine (bytes_stray u w a.1 a.2).mono ?_
    rintro e w' ⟨rfl, rfl⟩
    rw [put_stray a]
    have hl := World.ownsRow_lit (base := w.heap.size) (e := 5) (size := 1) w #[.int .u8 (u - 1114112)] 1 (Nat.le_refl _) (by unfold maxLen; omega) rfl
    refine ⟨_, rfl, ?_, (Below.refl _ _).alloc (Nat.le_refl _) _⟩
    rw [show bc (⟨#[UInt8.ofNat (u - 1114112).toNat]⟩ : ByteArray).data.toList = [Value.int .u8 (u - 1114112)] from by
      rw [show (⟨#[UInt8.ofNat (u - 1114112).toNat]⟩ : ByteArray).data.toList = [UInt8.ofNat (u - 1114112).toNat] from rfl, bc_cons _ _ (by omega), show (((u - 1114112).toNat : Nat) : Int) = u - 1114112 by omega]; rfl]
    exact hl
  · by_cases b : (0 ≤ u ∧ u < 55296) ∨ (57343 < u ∧ u ≤ 1114111)
    · rw [put_rune b]
      obtain ⟨c, rfl⟩ : ∃ c : Nat, u = c := ⟨u.toNat, by omega⟩
      have wr := wd_rune b
      by_cases h1 : c < 128
      · refine (bytes_ascii c w (by omega) (by omega)).mono ?_
        rintro e w' ⟨rfl, rfl⟩
        have hl := World.ownsRow_lit (base := w.heap.size) (e := 5) (size := 1) w #[.int .u8 (c : Int)] 1 (Nat.le_refl _) (by unfold maxLen; omega) rfl
        refine ⟨_, rfl, ?_, (Below.refl _ _).alloc (Nat.le_refl _) _⟩
        rw [enc1 c h1, size_lit, show bc (⟨[UInt8.ofNat c].toArray⟩ : ByteArray).data.toList = [Value.int .u8 (c : Int)] from bc_cons c [] (by omega)]
        exact hl
      · by_cases h2 : c < 2048
        · have hw : wd c = (2 : Nat) := by rw [wr]; unfold Lib.runeLen; repeat' split <;> omega
          refine (bytes_many c 2 192 w hw (by omega) (by omega) (by simp; omega)).mono ?_
          rintro e w' ⟨v, rfl, hown, hb⟩
          refine ⟨v, rfl, ?_, hb⟩
          rw [enc2 c (by omega) h2, size_lit, show bc (⟨[UInt8.ofNat (192 + c / 64), UInt8.ofNat (128 + c % 64)].toArray⟩ : ByteArray).data.toList = bspec 192 c 2 from by
            show bc [UInt8.ofNat (192 + c / 64), UInt8.ofNat (128 + c % 64)] = _
            rw [bc_cons _ _ (by omega)]
            unfold bspec
            simp [low]]
          exact hown
        · by_cases h3 : c < 65536
          · have hw : wd c = (3 : Nat) := by rw [wr]; unfold Lib.runeLen; repeat' split <;> omega
            refine (bytes_many c 3 224 w hw (by omega) (by omega) (by simp; omega)).mono ?_
            rintro e w' ⟨v, rfl, hown, hb⟩
            refine ⟨v, rfl, ?_, hb⟩
            rw [enc3 c (by omega) h3 (by omega), size_lit, show bc (⟨[UInt8.ofNat (224 + c / 4096), UInt8.ofNat (128 + c / 64 % 64), UInt8.ofNat (128 + c % 64)].toArray⟩ : ByteArray).data.toList = bspec 224 c 3 from by
              show bc [UInt8.ofNat (224 + c / 4096), UInt8.ofNat (128 + c / 64 % 64), UInt8.ofNat (128 + c % 64)] = _
              rw [bc_cons _ _ (by omega)]
              unfold bspec
              simp [low]]
            exact hown
          · have hw : wd c = (4 : Nat) := by rw [wr]; unfold Lib.runeLen; repeat' split <;> omega
            refine (bytes_many c 4 240 w hw (by omega) (by omega) (by simp; omega)).mono ?_
            rintro e w' ⟨v, rfl, hown, hb⟩
            refine ⟨v, rfl, ?_, hb⟩
            rw [enc4 c (by omega) (by omega), size_lit, show bc (⟨[UInt8.ofNat (240 + c / 262144), UInt8.ofNat (128 + c / 4096 % 64), UInt8.ofNat (128 + c / 64 % 64), UInt8.ofNat (128 + c % 64)].toArray⟩ : ByteArray).data.toList = bspec 240 c 4 from by
              show bc [UInt8.ofNat (240 + c / 262144), UInt8.ofNat (128 + c / 4096 % 64), UInt8.ofNat (128 + c / 64 % 64), UInt8.ofNat (128 + c % 64)] = _
              rw [bc_cons _ _ (by omega)]
              unfold bspec
              simp [low]]
            exact hown
    · have hw : wd u = 0 := wd_no (by omega) (by omega)
      refine (bytes_none u w hw).mono ?_
      rintro e w' ⟨rfl, rfl⟩
      rw [put_no (by omega) (by omega)]
      exact ⟨_, rfl, World.ownsRow_nil _ _ _ _, Below.refl _ _⟩
theorem conv_row (w : World) (base : Nat) (v : Value) (l : List UInt8) (h : w.ownsRow base 5 1 v l.length (bc l)) : (convert 132 9 v).run Tryd.prog w = .ok (.string ⟨l.toArray⟩) w := by
  obtain ⟨hl, h | ⟨g, cap, cur, rfl, hb, hg, hn, hm, hc, ht⟩⟩ := h
  · obtain ⟨rfl, h0⟩ := h
    obtain rfl : l = [] := List.eq_nil_of_length_eq_zero h0
    rw [run_convert_bytes_string w 132 9 5 none 0 0 Tryd.underlying132 Tryd.underlying5 Tryd.underlying9]
    rfl
  · refine run_convert_bytes_back (P := Tryd.prog) w 132 9 5 ⟨g, 0, none⟩ cap l Tryd.underlying132 Tryd.underlying5 Tryd.underlying9 (fun j hj => ?_)
    have hx : (bc l)[j]? = some (.int .u8 (l[j].toNat : Int)) := by simp [bc, hj]
    have hown : w.ownsRow base 5 1 (.slice (some ⟨g, 0, none⟩) l.length cap) l.length (bc l) := ⟨hl, .inr ⟨g, cap, cur, rfl, hb, hg, hn, hm, hc, ht⟩⟩
    exact hown.cells rfl j _ hx
set_option maxHeartbeats 1000000 in
theorem rput_any (u : Int) (w : World) : Calls Tryd.prog 82 #[.int .i64 u] w fun e w' => e = .returned (.string (put u)) ∧ Below w.heap.size w w' := by
  go_enter Tryd.func82, Tryd.ntmps82
  go_wp2_with (go_at_call 92; refine (bytes_any _ _).mono ?_; rintro e w' ⟨v, rfl, hown, hb⟩; have hcv := conv_row w' _ v (put u).data.toList (by rw [← Lib.size_eq]; exact hown))
  go_ret
  exact ⟨by simp, hb⟩
end Go.Proofs
namespace Go.Proofs
open Go.RowKit Go.Shelf

set_option maxRecDepth 100000
attribute [local go_sem] Oper.semAt_some
attribute [local go_sem ↓] Go.wp_at_zero Go.wp_at_succ
theorem units_len_N (s : ByteArray) : ∀ k p, (unitsN s k p).length ≤ k
  | 0, _ => by simp [unitsN]
  | k + 1, p => by
    by_cases hp : p < s.size
    · rw [unitsN_step s k p hp, List.length_cons]; have := units_len_N s k (p + uw s p); omega
    · rw [unitsN_end s _ p hp]; simp
def intsU (l : List (Nat × Nat)) : List Int := l.map fun x => (x.2 : Int)
theorem intsU_length (l : List (Nat × Nat)) : (intsU l).length = l.length := by simp [intsU]
theorem drop_get (s : ByteArray) (p : Nat) (h : p < s.size) : s.data.toList.drop p = s.get! p :: s.data.toList.drop (p + 1) := by
  rw [List.drop_eq_getElem_cons (by rw [← Lib.size_eq]; exact h), get_bang s p h]; rfl
theorem ofNat_get (s : ByteArray) (p n : Nat) (h : (s.get! p).toNat = n) : UInt8.ofNat n = s.get! p := by rw [← h]; simp
theorem put_uAt (s : ByteArray) (p : Nat) (hp : p < s.size) : (put (uAt s p)).data.toList = (s.data.toList.drop p).take (uw s p) := by
  by_cases h : 1 < uw s p
  · obtain ⟨c, F⟩ := form_of s p h
    have hns : strayAt s p = false := by
      cases hs : strayAt s p with
      | false => rfl
      | true => have := (stray_iff s p).1 hs; rw [F.2.1] at this; simp at this; omega
    have hu : uAt s p = c := by rw [uAt_rune hns, F.2.1]
    rw [hu]
    obtain ⟨hz, _, hF⟩ := F
    obtain ⟨n, hn⟩ : ∃ n, uw s p = n := ⟨_, rfl⟩
    rw [hn] at hF hz ⊢
    rcases hF with ⟨rfl, a, b, b0, b1⟩ | ⟨rfl, a, b, v, b0, b1, b2⟩ | ⟨rfl, a, b, b0, b1, b2, b3⟩
    · rw [put_rune (by omega), enc2 c a b, ofNat_get s p _ b0, ofNat_get s (p + 1) _ b1, drop_get s p (by omega), drop_get s (p + 1) (by omega)]
      rfl
    · rw [put_rune (by omega), enc3 c a b v, ofNat_get s p _ b0, ofNat_get s (p + 1) _ b1, ofNat_get s (p + 2) _ b2, drop_get s p (by omega), drop_get s (p + 1) (by omega), drop_get s (p + 1 + 1) (by omega)]
      rfl
    · rw [put_rune (by omega), enc4 c a b, ofNat_get s p _ b0, ofNat_get s (p + 1) _ b1, ofNat_get s (p + 2) _ b2, ofNat_get s (p + 3) _ b3, drop_get s p (by omega), drop_get s (p + 1) (by omega), drop_get s (p + 1 + 1) (by omega), drop_get s (p + 1 + 1 + 1) (by omega)]
      rfl
  · have hpos := uw_pos s p
    have hu : uw s p = 1 := by omega
    rw [hu, drop_get s p hp]
    rcases one_wide s p hu with ⟨a, b⟩ | ⟨a, b⟩
    · have hns : strayAt s p = false := by
        cases hs : strayAt s p with
        | false => rfl
        | true => have := (stray_iff s p).1 hs; rw [b] at this; simp at this; omega
      have hv : uAt s p = (s.get! p).toNat := by rw [uAt_rune hns, b]
      rw [hv, put_rune (by omega), enc1 _ a, ofNat_get s p _ rfl]
      rfl
    · have hlt := (s.get! p).toNat_lt
      have hv := uAt_stray ((stray_iff s p).2 b)
      rw [hv, put_stray (by omega), show (((1114112 + (s.get! p).toNat : Nat) : Int) - 1114112).toNat = (s.get! p).toNat by omega, ofNat_get s p _ rfl]
      rfl
def acc (s : ByteArray) (p b : Nat) : Nat → Nat
  | 0 => b
  | k + 1 => acc s p b k * 64 + (s.get! (p + (k + 1))).toNat % 64
def md (n : Nat) : Nat := if n = 2 then 32 else if n = 3 then 16 else 8
def num (s : ByteArray) (p n : Nat) : Nat := acc s p (if n = 1 then (s.get! p).toNat else (s.get! p).toNat % md n) (n - 1)
def tst (s : ByteArray) (p n : Nat) : Bool := decide (wd (num s p n) = (n : Int) ∧ put (num s p n) = s.extract p (p + n))
def bgs (s : ByteArray) (p : Nat) : Nat → Nat → Int
  | 0, _ => -1
  | k + 1, n => if p + n ≤ s.size then (if tst s p n then (num s p n : Int) else bgs s p k (n + 1)) else -1
def beginsU (s : ByteArray) (p : Nat) : Int := bgs s p 4 1
theorem num1 (s : ByteArray) (p : Nat) : num s p 1 = (s.get! p).toNat := rfl
theorem num2 (s : ByteArray) (p : Nat) : num s p 2 = (s.get! p).toNat % 32 * 64 + (s.get! (p + 1)).toNat % 64 := rfl
theorem num3 (s : ByteArray) (p : Nat) : num s p 3 = ((s.get! p).toNat % 16 * 64 + (s.get! (p + 1)).toNat % 64) * 64 + (s.get! (p + 2)).toNat % 64 := rfl
theorem num4 (s : ByteArray) (p : Nat) : num s p 4 = (((s.get! p).toNat % 8 * 64 + (s.get! (p + 1)).toNat % 64) * 64 + (s.get! (p + 2)).toNat % 64) * 64 + (s.get! (p + 3)).toNat % 64 := rfl
theorem byte_of {s t : ByteArray} {p n : Nat} (h : t = s.extract p (p + n)) (hp : p + n ≤ s.size) (r : Nat) (hr : r < n) : (s.get! (p + r)).toNat = (t.get! r).toNat := by
  rw [h, get_ext s p (p + n) r (by omega) hp]
theorem wd_ge2 (c n : Nat) (hn : 2 ≤ n) (h : wd (c : Int) = (n : Int)) : (c < 55296 ∨ (57344 ≤ c ∧ c ≤ 1114111)) ∧ Lib.runeLen c = (n : Int) := by
  unfold wd at h
  split at h
  · omega
  · split at h
    · exact ⟨by omega, h⟩
    · omega
theorem tst_dec (s : ByteArray) (p n : Nat) (hn : 2 ≤ n) (hp : p + n ≤ s.size) (h : tst s p n = true) : Utf8.decode s p = (num s p n, n) := by
  obtain ⟨h1, h2⟩ : wd (num s p n) = (n : Int) ∧ put (num s p n) = s.extract p (p + n) := of_decide_eq_true h
  generalize num s p n = c at *
  obtain ⟨hr, hl⟩ := wd_ge2 c n hn h1
  rw [put_rune (by omega)] at h2
  unfold Lib.runeLen at hl
  by_cases c1 : c < 128
  · exfalso; repeat' split at hl
    all_goals omega
  by_cases c2 : c < 2048
  · obtain rfl : n = 2 := by repeat' split at hl
                             all_goals omega
    rw [enc2 c (by omega) c2] at h2
    have e0 := byte_of h2 hp 0 (by omega)
    have e1 := byte_of h2 hp 1 (by omega)
    change (s.get! (p + 0)).toNat = (UInt8.ofNat (192 + c / 64)).toNat at e0
    rw [b8 _ (by omega)] at e0
    change (s.get! (p + 1)).toNat = (UInt8.ofNat (128 + c % 64)).toNat at e1
    rw [b8 _ (by omega)] at e1
    exact dec2 s p c (by omega) c2 (by omega) e0 e1
  by_cases c3 : c < 65536
  · obtain rfl : n = 3 := by repeat' split at hl
                             all_goals omega
    rw [enc3 c (by omega) c3 (by omega)] at h2
    have e0 := byte_of h2 hp 0 (by omega)
    have e1 := byte_of h2 hp 1 (by omega)
    have e2 := byte_of h2 hp 2 (by omega)
    change (s.get! (p + 0)).toNat = (UInt8.ofNat (224 + c / 4096)).toNat at e0
    rw [b8 _ (by omega)] at e0
    change (s.get! (p + 1)).toNat = (UInt8.ofNat (128 + c / 64 % 64)).toNat at e1
    rw [b8 _ (by omega)] at e1
    change (s.get! (p + 2)).toNat = (UInt8.ofNat (128 + c % 64)).toNat at e2
    rw [b8 _ (by omega)] at e2
    exact dec3 s p c (by omega) c3 (by omega) (by omega) e0 e1 e2
  · obtain rfl : n = 4 := by repeat' split at hl
                             all_goals omega
    rw [enc4 c (by omega) (by omega)] at h2
    have e0 := byte_of h2 hp 0 (by omega)
    have e1 := byte_of h2 hp 1 (by omega)
    have e2 := byte_of h2 hp 2 (by omega)
    have e3 := byte_of h2 hp 3 (by omega)
    change (s.get! (p + 0)).toNat = (UInt8.ofNat (240 + c / 262144)).toNat at e0
    rw [b8 _ (by omega)] at e0
    change (s.get! (p + 1)).toNat = (UInt8.ofNat (128 + c / 4096 % 64)).toNat at e1
    rw [b8 _ (by omega)] at e1
    change (s.get! (p + 2)).toNat = (UInt8.ofNat (128 + c / 64 % 64)).toNat at e2
    rw [b8 _ (by omega)] at e2
    change (s.get! (p + 3)).toNat = (UInt8.ofNat (128 + c % 64)).toNat at e3
    rw [b8 _ (by omega)] at e3
    exact dec4 s p c (by omega) (by omega) (by omega) e0 e1 e2 e3
theorem tst_no (s : ByteArray) (p n : Nat) (hn : 2 ≤ n) (hp : p + n ≤ s.size) (h : uw s p ≠ n) : tst s p n = false := by
  cases ht : tst s p n with
  | false => rfl
  | true => exact absurd (by unfold uw; rw [tst_dec s p n hn hp ht]) h
theorem tst1_no (s : ByteArray) (p : Nat) (h : 128 ≤ (s.get! p).toNat) : tst s p 1 = false := by
  have := (s.get! p).toNat_lt
  unfold tst
  rw [num1, decide_eq_false_iff_not]
  rintro ⟨h1, _⟩
  rw [wd_rune (by omega)] at h1
  unfold Lib.runeLen at h1
  repeat' split at h1
  all_goals omega
theorem tst_yes (s : ByteArray) (p n : Nat) (hp : p < s.size) (h : uw s p = n) (hn : num s p n = uAt s p) : tst s p n = true := by
  unfold tst
  rw [hn, decide_eq_true_iff]
  refine ⟨by rw [wd_uAt, h], ?_⟩
  have e := put_uAt s p hp
  rw [h] at e
  have hd : (put (uAt s p)).data = (s.extract p (p + n)).data := by
    apply Array.ext'
    rw [e]
    simp [ByteArray.data_extract, List.extract_eq_take_drop]
  generalize put (uAt s p) = a at *
  generalize s.extract p (p + n) = b at *
  cases a; cases b
  simpa using hd
theorem bgs_none (s : ByteArray) (p : Nat) (h : uw s p = 1) : ∀ k n, 2 ≤ n → bgs s p k n = -1
  | 0, _, _ => rfl
  | k + 1, n, hn => by
    rw [bgs]
    split
    · rename_i hp
      rw [tst_no s p n hn hp (by omega), bgs_none s p h k (n + 1) (by omega)]
      rfl
    · rfl
theorem bgs_skip (s : ByteArray) (p k n : Nat) (hn : 2 ≤ n) (hp : p + n ≤ s.size) (h : uw s p ≠ n) : bgs s p (k + 1) n = bgs s p k (n + 1) := by
  rw [bgs, if_pos hp, tst_no s p n hn hp h]; rfl
theorem bgs_hit (s : ByteArray) (p k n : Nat) (hp : p + n ≤ s.size) (h : tst s p n = true) : bgs s p (k + 1) n = num s p n := by
  rw [bgs, if_pos hp, if_pos h]
theorem begins_eq (s : ByteArray) (p : Nat) (hp : p < s.size) : beginsU s p = if strayAt s p then -1 else (uAt s p : Int) := by
  unfold beginsU
  by_cases hw : uw s p = 1
  · rcases one_wide s p hw with ⟨h1, h2⟩ | ⟨h1, h2⟩
    · have hst : strayAt s p = false := by
        cases h : strayAt s p with
        | false => rfl
        | true => have := (stray_iff s p).1 h; rw [h2] at this; injection this with a b; omega
      have hu : uAt s p = (s.get! p).toNat := by rw [uAt_rune hst, h2]
      rw [hst, bgs_hit s p 3 1 (by omega) (tst_yes s p 1 hp hw (by rw [num1, hu])), num1, hu]
      rfl
    · have hst : strayAt s p = true := (stray_iff s p).2 h2
      rw [hst, bgs, if_pos (by omega), tst1_no s p h1, bgs_none s p hw 3 2 (by omega)]
      rfl
  · have h1 : 1 < uw s p := by have := uw_pos s p; omega
    obtain ⟨c, hz, hd, hf⟩ := form_of s p h1
    have hst : strayAt s p = false := by
      cases h : strayAt s p with
      | false => rfl
      | true => have := (stray_iff s p).1 h; rw [hd] at this; injection this with a b; omega
    have hu : uAt s p = c := by rw [uAt_rune hst, hd]
    have hb := (uw_many s p h1).2.1
    have h0 : bgs s p 4 1 = bgs s p 3 2 := by rw [bgs, if_pos (by omega), tst1_no s p (by omega)]; rfl
    rw [hst, h0]
    simp only [Bool.false_eq_true, if_false]
    rw [hu]
    rcases hf with ⟨hn, a, b, b0, b1⟩ | ⟨hn, a, b, _, b0, b1, b2⟩ | ⟨hn, a, b, b0, b1, b2, b3⟩
    · rw [hn] at hz
      have e : num s p 2 = c := by rw [num2, b0, b1]; omega
      rw [bgs_hit s p 2 2 hz (tst_yes s p 2 hp hn (by rw [e, hu])), e]
    · rw [hn] at hz
      have e : num s p 3 = c := by rw [num3, b0, b1, b2]; omega
      rw [bgs_skip s p 2 2 (by omega) (by omega) (by omega), bgs_hit s p 1 3 hz (tst_yes s p 3 hp hn (by rw [e, hu])), e]
    · rw [hn] at hz
      have e : num s p 4 = c := by rw [num4, b0, b1, b2, b3]; omega
      rw [bgs_skip s p 2 2 (by omega) (by omega) (by omega), bgs_skip s p 1 3 (by omega) (by omega) (by omega), bgs_hit s p 0 4 hz (tst_yes s p 4 hp hn (by rw [e, hu])), e]
end Go.Proofs
namespace Go.Proofs
open Go.RowKit Go.Shelf

set_option maxRecDepth 100000
attribute [local go_sem] Oper.semAt_some
attribute [local go_sem ↓] Go.wp_at_zero Go.wp_at_succ
theorem step_val (x : Nat) (b : UInt8) (h : x < 1048576) : wrap64 ((x : Int) * 64 + (wrap64 (b.toNat : Int)).tmod 64) = ((x * 64 + b.toNat % 64 : Nat) : Int) := by
  rw [w64b, show ((b.toNat : Int)).tmod 64 = ((b.toNat % 64 : Nat) : Int) from rfl]
  have := Nat.mod_lt b.toNat (show 64 > 0 by omega)
  rw [show (x : Int) * 64 + ((b.toNat % 64 : Nat) : Int) = ((x * 64 + b.toNat % 64 : Nat) : Int) by push_cast; rfl]
  exact IntWalk.wrap64_in _ (by omega)
theorem bstr_ne {a b : ByteArray} (h : a ≠ b) : (a.toList == b.toList) = false := by
  rw [ByteArray.toList_eq, ByteArray.toList_eq]
  by_cases e : a.data.toList = b.data.toList
  · exact absurd (Go.WideShapes.bytes_inj e) h
  · simpa using e
theorem bgs_no (s : ByteArray) (p k n : Nat) (hp : p + n ≤ s.size) (h : tst s p n = false) : bgs s p (k + 1) n = bgs s p k (n + 1) := by
  rw [bgs, if_pos hp, h]; rfl
set_option maxHeartbeats 4000000 in
theorem begins_any (s : ByteArray) (p : Nat) (w : World) (hp : p < s.size) (hs : s.size ≤ 4398046511104) :
    Calls Tryd.prog 62 #[.string s, .int .i64 p] w fun e w' => e = .returned (.int .i64 (beginsU s p)) ∧ Below w.heap.size w w' := by
  have hpi : (p : Int) < (s.size : Int) := by omega
  have hsi : (s.size : Int) ≤ 4398046511104 := by omega
  go_enter Tryd.func62, Tryd.ntmps62
  go_wp2_with fail
  go_loopw [5, 6, 7] (fun vn _ _ wr => ∃ (n : Nat), vn = .int .i64 n ∧ 1 ≤ n ∧ n ≤ 5 ∧ Hid (beginsU s p = bgs s p (5 - n) n) ∧ Below w.heap.size w wr) (fun vn _ _ _ => 5 - (intOf vn).toNat)
  case atStart =>
    exact ⟨1, rfl, by omega, by omega, rfl, Below.refl _ _⟩
  case round =>
    obtain ⟨n, rfl, h1, h5, hB, hb⟩ := hrel
    have HB0 : Hid (Below w.heap.size w wr) := hb
    clear hb
    by_cases h4 : n = 5
    · subst h4
      go_wp2_with fail
      go_ret
      exact ⟨by rw [hB.out]; rfl, HB0.out⟩
    · by_cases hle : p + n ≤ s.size
      · rcases (show n = 1 ∨ n = 2 ∨ n = 3 ∨ n = 4 by omega) with rfl | rfl | rfl | rfl
        ·
          rw [show ((1 : Nat) : Int) = (1 : Int) from rfl]
          go_wp2_with fail
          go_loopw [6, 7] (fun vu vi wq => ∃ (k x : Nat), vu = .int .i64 x ∧ vi = .int .i64 ((k : Int) + 1) ∧ k + 1 ≤ 1 ∧ x < 67108864 ∧ (k ≤ 2 → x < 1048576) ∧ (k ≤ 1 → x < 16384) ∧ (k = 0 → x < 256) ∧ Hid (x = acc s p (s.get! p).toNat k) ∧ Below w.heap.size w wq) (fun _ vi _ => 1 - (intOf vi).toNat)
          case atStart =>
            have hm := (s.get! p).toNat_lt
            have hm2 := Nat.mod_le (s.get! p).toNat (md 1)
            exact ⟨0, (s.get! p).toNat, by rw [w64b, ← get_bang s p hp] <;> rfl, rfl, by omega, by omega, by omega, by omega, by omega, rfl, HB0.out⟩
          case round =>
            clear HB0
            obtain ⟨k, x, rfl, rfl, hk, hx, hx2, hx1, hx0, hX, hb⟩ := hrel
            have HB1 : Hid (Below w.heap.size w wr) := hb
            clear hb
            have hxi : (x : Int) < 67108864 := by omega
            by_cases hlt : k + 1 < 1
            · as_aux_lemma =>
                obtain ⟨q, hq⟩ : ∃ q : Nat, p + (k + 1) = q := ⟨_, rfl⟩
                have hqi : (p : Int) + ((k : Int) + 1) = (q : Int) := by omega
                have hqs : (q : Int) < (s.size : Int) := by omega
                have HQ : Hid (p + (k + 1) = q) := hq
                clear hq
                have hxj : (x : Int) < 1048576 := by omega
                have hlt' : (k : Int) + 1 < 1 := by omega
                omega
            · have hk1 : k = 0 := by omega
              subst hk1
              have HN : Hid (num s p 1 = x) := hX.out.symm
              have hlei : (p : Int) + 1 ≤ (s.size : Int) := by omega
              clear hX hlt hx2 hx1 hx0 hk
              cases hq : tst s p 1 with
              | true =>
                as_aux_lemma =>
                  have hq1 : wd x = 1 ∧ put x = s.extract p (p + 1) := by unfold tst at hq; rw [HN.out] at hq; exact of_decide_eq_true hq
                  have HR : Hid (beginsU s p = x) := by show beginsU s p = x; rw [hB.out, show 5 - 1 = (4 - 1) + 1 by rfl, bgs, if_pos hle, if_pos hq, HN.out]
                  have cW : Hid (∀ W : World, Calls Tryd.prog 21 #[.int .i64 x] W fun e w' => e = .returned (.int .i64 1) ∧ w' = W) := fun W => by have := rwidth_any x W; rw [hq1.1] at this; exact this
                  have cP : Hid (∀ W : World, Calls Tryd.prog 82 #[.int .i64 x] W fun e w' => e = .returned (.string (s.extract p (p + 1))) ∧ Below W.heap.size W w') := fun W => by have := rput_any x W; rw [hq1.2] at this; exact this
                  clear hq hq1 hB HN
                  go_wp2_with fail
                  refine wp_region_quiet_below mixed (by kernel_rfl) ?_
                  repeat (go_big_quiet_step ((first | (go_at_call 21; exact below_same (cW.out _)) | (go_at_call 82; exact below_of (cP.out _)))))
                  refine wpQuiet_nil ?_
                  intro _ hw'
                  obtain ⟨⟨w2, hb2⟩, hw''⟩ := hw'
                  subst hw''
                  go_wp2_with fail
                  go_ret
                  exact ⟨by rw [HR.out]; rfl, HB1.out.trans (hb2.mono HB1.out.size)⟩
              | false =>
                as_aux_lemma =>
                  have HR : Hid (beginsU s p = bgs s p (5 - (1 + 1)) (1 + 1)) := hB.out.trans (bgs_no s p (4 - 1) 1 hle hq)
                  by_cases hw : wd x = 1
                  · have hne : put x ≠ s.extract p (p + 1) := fun h => by unfold tst at hq; rw [HN.out] at hq; exact absurd ⟨hw, h⟩ (of_decide_eq_false hq)
                    have cW : Hid (∀ W : World, Calls Tryd.prog 21 #[.int .i64 x] W fun e w' => e = .returned (.int .i64 1) ∧ w' = W) := fun W => by have := rwidth_any x W; rw [hw] at this; exact this
                    obtain ⟨z, hz⟩ : ∃ z, put x = z := ⟨_, rfl⟩
                    have cP : Hid (∀ W : World, Calls Tryd.prog 82 #[.int .i64 x] W fun e w' => e = .returned (.string z) ∧ Below W.heap.size W w') := fun W => by have := rput_any x W; rw [hz] at this; exact this
                    rw [hz] at hne
                    have hzn := bstr_ne hne
                    clear hq hw hz hne hB HN
                    go_wp2_with fail
                    refine wp_region_quiet_below mixed (by kernel_rfl) ?_
                    repeat (go_big_quiet_step ((first | (go_at_call 21; exact below_same (cW.out _)) | (go_at_call 82; exact below_of (cP.out _)))))
                    refine wpQuiet_nil ?_
                    intro _ hw'
                    obtain ⟨⟨w2, hb2⟩, hw''⟩ := hw'
                    subst hw''
                    go_wp2_with fail
                    exact ⟨⟨1 + 1, rfl, by omega, by omega, HR, HB1.out.trans (hb2.mono HB1.out.size)⟩, by simp [intOf]⟩
                  · obtain ⟨d, hd⟩ : ∃ d, wd x = d := ⟨_, rfl⟩
                    have cW : Hid (∀ W : World, Calls Tryd.prog 21 #[.int .i64 x] W fun e w' => e = .returned (.int .i64 d) ∧ w' = W) := fun W => by have := rwidth_any x W; rw [hd] at this; exact this
                    rw [hd] at hw
                    have hdn : (d == 1) = false := by simpa using hw
                    clear hq hw hd hB HN
                    go_wp2_with fail
                    refine wp_region_quiet_below mixed (by kernel_rfl) ?_
                    repeat (go_big_quiet_step ((go_at_call 21; exact below_same (cW.out _))))
                    refine wpQuiet_nil ?_
                    intro _ hw'
                    obtain ⟨⟨w2, hb2⟩, hw''⟩ := hw'
                    subst hw''
                    go_wp2_with fail
                    exact ⟨⟨1 + 1, rfl, by omega, by omega, HR, HB1.out.trans (hb2.mono HB1.out.size)⟩, by simp [intOf]⟩
        ·
          rw [show ((2 : Nat) : Int) = (2 : Int) from rfl]
          go_wp2_with fail
          go_loopw [6, 7] (fun vu vi wq => ∃ (k x : Nat), vu = .int .i64 x ∧ vi = .int .i64 ((k : Int) + 1) ∧ k + 1 ≤ 2 ∧ x < 67108864 ∧ (k ≤ 2 → x < 1048576) ∧ (k ≤ 1 → x < 16384) ∧ (k = 0 → x < 256) ∧ Hid (x = acc s p ((s.get! p).toNat % md 2) k) ∧ Below w.heap.size w wq) (fun _ vi _ => 2 - (intOf vi).toNat)
          case atStart =>
            have hm := (s.get! p).toNat_lt
            have hm2 := Nat.mod_le (s.get! p).toNat (md 2)
            exact ⟨0, ((s.get! p).toNat % md 2), by rw [w64b, ← get_bang s p hp] <;> rfl, rfl, by omega, by omega, by omega, by omega, by omega, rfl, (HB0.out.alloc HB0.out.size _)⟩
          case round =>
            clear HB0
            obtain ⟨k, x, rfl, rfl, hk, hx, hx2, hx1, hx0, hX, hb⟩ := hrel
            have HB1 : Hid (Below w.heap.size w wr) := hb
            clear hb
            have hxi : (x : Int) < 67108864 := by omega
            by_cases hlt : k + 1 < 2
            · as_aux_lemma =>
                obtain ⟨q, hq⟩ : ∃ q : Nat, p + (k + 1) = q := ⟨_, rfl⟩
                have hqi : (p : Int) + ((k : Int) + 1) = (q : Int) := by omega
                have hqs : (q : Int) < (s.size : Int) := by omega
                have HQ : Hid (p + (k + 1) = q) := hq
                clear hq
                have hxj : (x : Int) < 1048576 := by omega
                have hlt' : (k : Int) + 1 < 2 := by omega
                go_wp2_with fail
                refine ⟨⟨k + 1, x * 64 + s[q].toNat % 64, by rw [step_val x s[q] (by omega)], by rw [show ((k : Int) + 1 + 1) = (((k + 1 : Nat) : Int) + 1) by omega], by omega, by omega, by omega, by omega, by omega, ?_, HB1.out⟩, by simp [intOf]; omega⟩
                show x * 64 + s[q].toNat % 64 = acc s p _ k * 64 + (s.get! (p + (k + 1))).toNat % 64
                rw [← hX.out, HQ.out, get_bang s q (by omega)]
            · have hk1 : k = 1 := by omega
              subst hk1
              have HN : Hid (num s p 2 = x) := hX.out.symm
              have hlei : (p : Int) + 2 ≤ (s.size : Int) := by omega
              clear hX hlt hx2 hx1 hx0 hk
              cases hq : tst s p 2 with
              | true =>
                as_aux_lemma =>
                  have hq1 : wd x = 2 ∧ put x = s.extract p (p + 2) := by unfold tst at hq; rw [HN.out] at hq; exact of_decide_eq_true hq
                  have HR : Hid (beginsU s p = x) := by show beginsU s p = x; rw [hB.out, show 5 - 2 = (4 - 2) + 1 by rfl, bgs, if_pos hle, if_pos hq, HN.out]
                  have cW : Hid (∀ W : World, Calls Tryd.prog 21 #[.int .i64 x] W fun e w' => e = .returned (.int .i64 2) ∧ w' = W) := fun W => by have := rwidth_any x W; rw [hq1.1] at this; exact this
                  have cP : Hid (∀ W : World, Calls Tryd.prog 82 #[.int .i64 x] W fun e w' => e = .returned (.string (s.extract p (p + 2))) ∧ Below W.heap.size W w') := fun W => by have := rput_any x W; rw [hq1.2] at this; exact this
                  clear hq hq1 hB HN
                  go_wp2_with fail
                  refine wp_region_quiet_below mixed (by kernel_rfl) ?_
                  repeat (go_big_quiet_step ((first | (go_at_call 21; exact below_same (cW.out _)) | (go_at_call 82; exact below_of (cP.out _)))))
                  refine wpQuiet_nil ?_
                  intro _ hw'
                  obtain ⟨⟨w2, hb2⟩, hw''⟩ := hw'
                  subst hw''
                  go_wp2_with fail
                  go_ret
                  exact ⟨by rw [HR.out]; rfl, HB1.out.trans (hb2.mono HB1.out.size)⟩
              | false =>
                as_aux_lemma =>
                  have HR : Hid (beginsU s p = bgs s p (5 - (2 + 1)) (2 + 1)) := hB.out.trans (bgs_no s p (4 - 2) 2 hle hq)
                  by_cases hw : wd x = 2
                  · have hne : put x ≠ s.extract p (p + 2) := fun h => by unfold tst at hq; rw [HN.out] at hq; exact absurd ⟨hw, h⟩ (of_decide_eq_false hq)
                    have cW : Hid (∀ W : World, Calls Tryd.prog 21 #[.int .i64 x] W fun e w' => e = .returned (.int .i64 2) ∧ w' = W) := fun W => by have := rwidth_any x W; rw [hw] at this; exact this
                    obtain ⟨z, hz⟩ : ∃ z, put x = z := ⟨_, rfl⟩
                    have cP : Hid (∀ W : World, Calls Tryd.prog 82 #[.int .i64 x] W fun e w' => e = .returned (.string z) ∧ Below W.heap.size W w') := fun W => by have := rput_any x W; rw [hz] at this; exact this
                    rw [hz] at hne
                    have hzn := bstr_ne hne
                    clear hq hw hz hne hB HN
                    go_wp2_with fail
                    refine wp_region_quiet_below mixed (by kernel_rfl) ?_
                    repeat (go_big_quiet_step ((first | (go_at_call 21; exact below_same (cW.out _)) | (go_at_call 82; exact below_of (cP.out _)))))
                    refine wpQuiet_nil ?_
                    intro _ hw'
                    obtain ⟨⟨w2, hb2⟩, hw''⟩ := hw'
                    subst hw''
                    go_wp2_with fail
                    exact ⟨⟨2 + 1, rfl, by omega, by omega, HR, HB1.out.trans (hb2.mono HB1.out.size)⟩, by simp [intOf]⟩
                  · obtain ⟨d, hd⟩ : ∃ d, wd x = d := ⟨_, rfl⟩
                    have cW : Hid (∀ W : World, Calls Tryd.prog 21 #[.int .i64 x] W fun e w' => e = .returned (.int .i64 d) ∧ w' = W) := fun W => by have := rwidth_any x W; rw [hd] at this; exact this
                    rw [hd] at hw
                    have hdn : (d == 2) = false := by simpa using hw
                    clear hq hw hd hB HN
                    go_wp2_with fail
                    refine wp_region_quiet_below mixed (by kernel_rfl) ?_
                    repeat (go_big_quiet_step ((go_at_call 21; exact below_same (cW.out _))))
                    refine wpQuiet_nil ?_
                    intro _ hw'
                    obtain ⟨⟨w2, hb2⟩, hw''⟩ := hw'
                    subst hw''
                    go_wp2_with fail
                    exact ⟨⟨2 + 1, rfl, by omega, by omega, HR, HB1.out.trans (hb2.mono HB1.out.size)⟩, by simp [intOf]⟩
        ·
          rw [show ((3 : Nat) : Int) = (3 : Int) from rfl]
          go_wp2_with fail
          go_loopw [6, 7] (fun vu vi wq => ∃ (k x : Nat), vu = .int .i64 x ∧ vi = .int .i64 ((k : Int) + 1) ∧ k + 1 ≤ 3 ∧ x < 67108864 ∧ (k ≤ 2 → x < 1048576) ∧ (k ≤ 1 → x < 16384) ∧ (k = 0 → x < 256) ∧ Hid (x = acc s p ((s.get! p).toNat % md 3) k) ∧ Below w.heap.size w wq) (fun _ vi _ => 3 - (intOf vi).toNat)
          case atStart =>
            have hm := (s.get! p).toNat_lt
            have hm2 := Nat.mod_le (s.get! p).toNat (md 3)
            exact ⟨0, ((s.get! p).toNat % md 3), by rw [w64b, ← get_bang s p hp] <;> rfl, rfl, by omega, by omega, by omega, by omega, by omega, rfl, (HB0.out.alloc HB0.out.size _)⟩
          case round =>
            clear HB0
            obtain ⟨k, x, rfl, rfl, hk, hx, hx2, hx1, hx0, hX, hb⟩ := hrel
            have HB1 : Hid (Below w.heap.size w wr) := hb
            clear hb
            have hxi : (x : Int) < 67108864 := by omega
            by_cases hlt : k + 1 < 3
            · as_aux_lemma =>
                obtain ⟨q, hq⟩ : ∃ q : Nat, p + (k + 1) = q := ⟨_, rfl⟩
                have hqi : (p : Int) + ((k : Int) + 1) = (q : Int) := by omega
                have hqs : (q : Int) < (s.size : Int) := by omega
                have HQ : Hid (p + (k + 1) = q) := hq
                clear hq
                have hxj : (x : Int) < 1048576 := by omega
                have hlt' : (k : Int) + 1 < 3 := by omega
                go_wp2_with fail
                refine ⟨⟨k + 1, x * 64 + s[q].toNat % 64, by rw [step_val x s[q] (by omega)], by rw [show ((k : Int) + 1 + 1) = (((k + 1 : Nat) : Int) + 1) by omega], by omega, by omega, by omega, by omega, by omega, ?_, HB1.out⟩, by simp [intOf]; omega⟩
                show x * 64 + s[q].toNat % 64 = acc s p _ k * 64 + (s.get! (p + (k + 1))).toNat % 64
                rw [← hX.out, HQ.out, get_bang s q (by omega)]
            · have hk1 : k = 2 := by omega
              subst hk1
              have HN : Hid (num s p 3 = x) := hX.out.symm
              have hlei : (p : Int) + 3 ≤ (s.size : Int) := by omega
              clear hX hlt hx2 hx1 hx0 hk
              cases hq : tst s p 3 with
              | true =>
                as_aux_lemma =>
                  have hq1 : wd x = 3 ∧ put x = s.extract p (p + 3) := by unfold tst at hq; rw [HN.out] at hq; exact of_decide_eq_true hq
                  have HR : Hid (beginsU s p = x) := by show beginsU s p = x; rw [hB.out, show 5 - 3 = (4 - 3) + 1 by rfl, bgs, if_pos hle, if_pos hq, HN.out]
                  have cW : Hid (∀ W : World, Calls Tryd.prog 21 #[.int .i64 x] W fun e w' => e = .returned (.int .i64 3) ∧ w' = W) := fun W => by have := rwidth_any x W; rw [hq1.1] at this; exact this
                  have cP : Hid (∀ W : World, Calls Tryd.prog 82 #[.int .i64 x] W fun e w' => e = .returned (.string (s.extract p (p + 3))) ∧ Below W.heap.size W w') := fun W => by have := rput_any x W; rw [hq1.2] at this; exact this
                  clear hq hq1 hB HN
                  go_wp2_with fail
                  refine wp_region_quiet_below mixed (by kernel_rfl) ?_
                  repeat (go_big_quiet_step ((first | (go_at_call 21; exact below_same (cW.out _)) | (go_at_call 82; exact below_of (cP.out _)))))
                  refine wpQuiet_nil ?_
                  intro _ hw'
                  obtain ⟨⟨w2, hb2⟩, hw''⟩ := hw'
                  subst hw''
                  go_wp2_with fail
                  go_ret
                  exact ⟨by rw [HR.out]; rfl, HB1.out.trans (hb2.mono HB1.out.size)⟩
              | false =>
                as_aux_lemma =>
                  have HR : Hid (beginsU s p = bgs s p (5 - (3 + 1)) (3 + 1)) := hB.out.trans (bgs_no s p (4 - 3) 3 hle hq)
                  by_cases hw : wd x = 3
                  · have hne : put x ≠ s.extract p (p + 3) := fun h => by unfold tst at hq; rw [HN.out] at hq; exact absurd ⟨hw, h⟩ (of_decide_eq_false hq)
                    have cW : Hid (∀ W : World, Calls Tryd.prog 21 #[.int .i64 x] W fun e w' => e = .returned (.int .i64 3) ∧ w' = W) := fun W => by have := rwidth_any x W; rw [hw] at this; exact this
                    obtain ⟨z, hz⟩ : ∃ z, put x = z := ⟨_, rfl⟩
                    have cP : Hid (∀ W : World, Calls Tryd.prog 82 #[.int .i64 x] W fun e w' => e = .returned (.string z) ∧ Below W.heap.size W w') := fun W => by have := rput_any x W; rw [hz] at this; exact this
                    rw [hz] at hne
                    have hzn := bstr_ne hne
                    clear hq hw hz hne hB HN
                    go_wp2_with fail
                    refine wp_region_quiet_below mixed (by kernel_rfl) ?_
                    repeat (go_big_quiet_step ((first | (go_at_call 21; exact below_same (cW.out _)) | (go_at_call 82; exact below_of (cP.out _)))))
                    refine wpQuiet_nil ?_
                    intro _ hw'
                    obtain ⟨⟨w2, hb2⟩, hw''⟩ := hw'
                    subst hw''
                    go_wp2_with fail
                    exact ⟨⟨3 + 1, rfl, by omega, by omega, HR, HB1.out.trans (hb2.mono HB1.out.size)⟩, by simp [intOf]⟩
                  · obtain ⟨d, hd⟩ : ∃ d, wd x = d := ⟨_, rfl⟩
                    have cW : Hid (∀ W : World, Calls Tryd.prog 21 #[.int .i64 x] W fun e w' => e = .returned (.int .i64 d) ∧ w' = W) := fun W => by have := rwidth_any x W; rw [hd] at this; exact this
                    rw [hd] at hw
                    have hdn : (d == 3) = false := by simpa using hw
                    clear hq hw hd hB HN
                    go_wp2_with fail
                    refine wp_region_quiet_below mixed (by kernel_rfl) ?_
                    repeat (go_big_quiet_step ((go_at_call 21; exact below_same (cW.out _))))
                    refine wpQuiet_nil ?_
                    intro _ hw'
                    obtain ⟨⟨w2, hb2⟩, hw''⟩ := hw'
                    subst hw''
                    go_wp2_with fail
                    exact ⟨⟨3 + 1, rfl, by omega, by omega, HR, HB1.out.trans (hb2.mono HB1.out.size)⟩, by simp [intOf]⟩
        ·
          rw [show ((4 : Nat) : Int) = (4 : Int) from rfl]
          go_wp2_with fail
          go_loopw [6, 7] (fun vu vi wq => ∃ (k x : Nat), vu = .int .i64 x ∧ vi = .int .i64 ((k : Int) + 1) ∧ k + 1 ≤ 4 ∧ x < 67108864 ∧ (k ≤ 2 → x < 1048576) ∧ (k ≤ 1 → x < 16384) ∧ (k = 0 → x < 256) ∧ Hid (x = acc s p ((s.get! p).toNat % md 4) k) ∧ Below w.heap.size w wq) (fun _ vi _ => 4 - (intOf vi).toNat)
          case atStart =>
            have hm := (s.get! p).toNat_lt
            have hm2 := Nat.mod_le (s.get! p).toNat (md 4)
            exact ⟨0, ((s.get! p).toNat % md 4), by rw [w64b, ← get_bang s p hp] <;> rfl, rfl, by omega, by omega, by omega, by omega, by omega, rfl, (HB0.out.alloc HB0.out.size _)⟩
          case round =>
            clear HB0
            obtain ⟨k, x, rfl, rfl, hk, hx, hx2, hx1, hx0, hX, hb⟩ := hrel
            have HB1 : Hid (Below w.heap.size w wr) := hb
            clear hb
            have hxi : (x : Int) < 67108864 := by omega
            by_cases hlt : k + 1 < 4
            · as_aux_lemma =>
                obtain ⟨q, hq⟩ : ∃ q : Nat, p + (k + 1) = q := ⟨_, rfl⟩
                have hqi : (p : Int) + ((k : Int) + 1) = (q : Int) := by omega
                have hqs : (q : Int) < (s.size : Int) := by omega
                have HQ : Hid (p + (k + 1) = q) := hq
                clear hq
                have hxj : (x : Int) < 1048576 := by omega
                have hlt' : (k : Int) + 1 < 4 := by omega
                go_wp2_with fail
                refine ⟨⟨k + 1, x * 64 + s[q].toNat % 64, by rw [step_val x s[q] (by omega)], by rw [show ((k : Int) + 1 + 1) = (((k + 1 : Nat) : Int) + 1) by omega], by omega, by omega, by omega, by omega, by omega, ?_, HB1.out⟩, by simp [intOf]; omega⟩
                show x * 64 + s[q].toNat % 64 = acc s p _ k * 64 + (s.get! (p + (k + 1))).toNat % 64
                rw [← hX.out, HQ.out, get_bang s q (by omega)]
            · have hk1 : k = 3 := by omega
              subst hk1
              have HN : Hid (num s p 4 = x) := hX.out.symm
              have hlei : (p : Int) + 4 ≤ (s.size : Int) := by omega
              clear hX hlt hx2 hx1 hx0 hk
              cases hq : tst s p 4 with
              | true =>
                as_aux_lemma =>
                  have hq1 : wd x = 4 ∧ put x = s.extract p (p + 4) := by unfold tst at hq; rw [HN.out] at hq; exact of_decide_eq_true hq
                  have HR : Hid (beginsU s p = x) := by show beginsU s p = x; rw [hB.out, show 5 - 4 = (4 - 4) + 1 by rfl, bgs, if_pos hle, if_pos hq, HN.out]
                  have cW : Hid (∀ W : World, Calls Tryd.prog 21 #[.int .i64 x] W fun e w' => e = .returned (.int .i64 4) ∧ w' = W) := fun W => by have := rwidth_any x W; rw [hq1.1] at this; exact this
                  have cP : Hid (∀ W : World, Calls Tryd.prog 82 #[.int .i64 x] W fun e w' => e = .returned (.string (s.extract p (p + 4))) ∧ Below W.heap.size W w') := fun W => by have := rput_any x W; rw [hq1.2] at this; exact this
                  clear hq hq1 hB HN
                  go_wp2_with fail
                  refine wp_region_quiet_below mixed (by kernel_rfl) ?_
                  repeat (go_big_quiet_step ((first | (go_at_call 21; exact below_same (cW.out _)) | (go_at_call 82; exact below_of (cP.out _)))))
                  refine wpQuiet_nil ?_
                  intro _ hw'
                  obtain ⟨⟨w2, hb2⟩, hw''⟩ := hw'
                  subst hw''
                  go_wp2_with fail
                  go_ret
                  exact ⟨by rw [HR.out]; rfl, HB1.out.trans (hb2.mono HB1.out.size)⟩
              | false =>
                as_aux_lemma =>
                  have HR : Hid (beginsU s p = bgs s p (5 - (4 + 1)) (4 + 1)) := hB.out.trans (bgs_no s p (4 - 4) 4 hle hq)
                  by_cases hw : wd x = 4
                  · have hne : put x ≠ s.extract p (p + 4) := fun h => by unfold tst at hq; rw [HN.out] at hq; exact absurd ⟨hw, h⟩ (of_decide_eq_false hq)
                    have cW : Hid (∀ W : World, Calls Tryd.prog 21 #[.int .i64 x] W fun e w' => e = .returned (.int .i64 4) ∧ w' = W) := fun W => by have := rwidth_any x W; rw [hw] at this; exact this
                    obtain ⟨z, hz⟩ : ∃ z, put x = z := ⟨_, rfl⟩
                    have cP : Hid (∀ W : World, Calls Tryd.prog 82 #[.int .i64 x] W fun e w' => e = .returned (.string z) ∧ Below W.heap.size W w') := fun W => by have := rput_any x W; rw [hz] at this; exact this
                    rw [hz] at hne
                    have hzn := bstr_ne hne
                    clear hq hw hz hne hB HN
                    go_wp2_with fail
                    refine wp_region_quiet_below mixed (by kernel_rfl) ?_
                    repeat (go_big_quiet_step ((first | (go_at_call 21; exact below_same (cW.out _)) | (go_at_call 82; exact below_of (cP.out _)))))
                    refine wpQuiet_nil ?_
                    intro _ hw'
                    obtain ⟨⟨w2, hb2⟩, hw''⟩ := hw'
                    subst hw''
                    go_wp2_with fail
                    exact ⟨⟨4 + 1, rfl, by omega, by omega, HR, HB1.out.trans (hb2.mono HB1.out.size)⟩, by simp [intOf]⟩
                  · obtain ⟨d, hd⟩ : ∃ d, wd x = d := ⟨_, rfl⟩
                    have cW : Hid (∀ W : World, Calls Tryd.prog 21 #[.int .i64 x] W fun e w' => e = .returned (.int .i64 d) ∧ w' = W) := fun W => by have := rwidth_any x W; rw [hd] at this; exact this
                    rw [hd] at hw
                    have hdn : (d == 4) = false := by simpa using hw
                    clear hq hw hd hB HN
                    go_wp2_with fail
                    refine wp_region_quiet_below mixed (by kernel_rfl) ?_
                    repeat (go_big_quiet_step ((go_at_call 21; exact below_same (cW.out _))))
                    refine wpQuiet_nil ?_
                    intro _ hw'
                    obtain ⟨⟨w2, hb2⟩, hw''⟩ := hw'
                    subst hw''
                    go_wp2_with fail
                    exact ⟨⟨4 + 1, rfl, by omega, by omega, HR, HB1.out.trans (hb2.mono HB1.out.size)⟩, by simp [intOf]⟩
      · as_aux_lemma =>
          have hle' : ¬ ((p : Int) + n ≤ (s.size : Int)) := by omega
          go_wp2_with fail
          go_ret
          obtain ⟨j, hj⟩ : ∃ j, 5 - n = j + 1 := ⟨4 - n, by omega⟩
          refine ⟨?_, HB0.out⟩
          rw [hB.out, hj, bgs, if_neg hle]
          rfl
end Go.Proofs
namespace Go.Proofs
open Go.RowKit Go.Shelf

set_option maxRecDepth 100000
attribute [local go_sem] Oper.semAt_some
attribute [local go_sem ↓] Go.wp_at_zero Go.wp_at_succ
/-- a row of places and units of the call's own -/
def OwnU (w : World) (base : Nat) (v : Value) (l : List (Nat × Nat)) : Prop := w.ownsRow base 89 2 v l.length (flat l)
theorem info89 : (Tryd.prog.info? 89).map (fun i => (i.zero, i.size, i.bytes)) = some (some (.agg #[.int .i64 0, .int .i64 0]), 2, 16) := by kernel_rfl
theorem flat_append (l r : List (Nat × Nat)) : flat (l ++ r) = flat l ++ flat r := by simp [flat]
theorem flat_at : ∀ (l : List (Nat × Nat)) {j : Nat} {x : Nat × Nat}, l[j]? = some x → (flat l)[j * 2]? = some (.int .i64 x.1) ∧ (flat l)[j * 2 + 1]? = some (.int .i64 x.2)
  | [], j, x, h => by simp at h
  | y :: l, 0, x, h => by simp at h; subst h; simp [flat]
  | y :: l, j + 1, x, h => by
    have ih := flat_at l (j := j) (x := x) (by simpa using h)
    have e : flat (y :: l) = .int .i64 y.1 :: .int .i64 y.2 :: flat l := by simp [flat]
    rw [e, show (j + 1) * 2 = j * 2 + 1 + 1 by omega]
    simpa using ih
theorem addr_zero (g j : Nat) : (⟨g, 0, none⟩ : Addr).add j = ⟨g, j, none⟩ := by
  unfold Addr.add
  by_cases h : j = 0
  · subst h; rfl
  · simp [h]
theorem OwnU.at {w : World} {base g n cap : Nat} {l : List (Nat × Nat)} (h : OwnU w base (.slice (some ⟨g, 0, none⟩) n cap) l) {j : Nat} {x : Nat × Nat} (hj : l[j]? = some x) : w.cell? ⟨g, j * 2, none⟩ = some (.int .i64 x.1) ∧ w.cell? ⟨g, j * 2 + 1, none⟩ = some (.int .i64 x.2) := by
  have h1 := h.cells rfl
  have := flat_at l hj
  have a1 := h1 _ _ this.1
  have a2 := h1 _ _ this.2
  rw [addr_zero] at a1 a2
  exact ⟨a1, a2⟩
theorem OwnU.alloc {w : World} {base : Nat} {v : Value} {l : List (Nat × Nat)} (h : OwnU w base v l) (o : Obj) : OwnU (w.alloc o) base v l := World.ownsRow.alloc h o
theorem OwnU.below {w w' : World} {base n : Nat} {v : Value} {l : List (Nat × Nat)} (h : OwnU w base v l) (hb : Below n w w') (hn : w.heap.size ≤ n) : OwnU w' base v l := by
  refine ⟨h.1, ?_⟩
  rcases h.2 with h | ⟨g, cap, cur, rfl, h1, h2, h3⟩
  · exact .inl h
  · have : g < w.heap.size := (Array.getElem?_eq_some_iff.1 h2).1
    exact .inr ⟨g, cap, cur, rfl, h1, (hb.block g (by omega)).trans h2, h3⟩
theorem uinfo_parts {P : Program} {e : TypeId} {z : Value} {s b : Nat} (h : (P.info? e).map (fun i => (i.zero, i.size, i.bytes)) = some (some z, s, b)) : ∃ i, P.info? e = some i ∧ i.zero = some z ∧ i.size = s ∧ i.bytes = b := by
  cases hi : P.info? e with
  | none => rw [hi] at h; simp at h
  | some i => rw [hi] at h; simp at h; exact ⟨i, rfl, h.1, h.2.1, h.2.2⟩
/-- one more behind such a row -/
theorem push_U {ops : Array Oper} {rest : List Oper} {o : Oper} {a : Act} {Q : Exit → Act → World → Prop} {w : World} (hgd : o.guard = none) (s x : Operand)
    (ho : o.op = .call { callee := .builtin .append, args := #[s, x], argTypes := #[86, 86] })
    (base : Nat) (v : Value) (l : List (Nat × Nat)) (hs : a.eval s = v) (hown : OwnU w base v l) (g c : Nat) (p q : Nat) (q' : Int) (hqq : q' = (q : Int)) (hx : a.eval x = .slice (some ⟨g, 0, none⟩) 1 c)
    (hp : w.cell? ⟨g, 0, none⟩ = some (.int .i64 p)) (hq : w.cell? ⟨g, 1, none⟩ = some (.int .i64 q')) (hl : l.length + 1 ≤ 8796093022208) (hbase : base ≤ w.heap.size)
    (h : ∀ v' w', OwnU w' base v' (l ++ [(p, q)]) → Below base w w' → wpList Tryd.prog ops Q rest (a.put o.dst v') w') : wpList Tryd.prog ops Q (o :: rest) a w := by
  subst hqq
  obtain ⟨i0, hi, hz0, hz1, hz2⟩ := uinfo_parts info89
  refine wpList_append_own w hgd s x 86 ho base 89 i0 (.agg #[.int .i64 0, .int .i64 0]) 2 16 Tryd.underlying86 hi hz0 hz1 hz2 rfl (by decide) v l.length (flat l) hs hown ⟨g, 0, none⟩ 1 c (flat [(p, q)]) hx rfl ?_ ?_ (by unfold maxLen; omega) (by omega) hbase (fun v' w' h2 h3 _ => h v' w' ?_ ((Below.refl _ w).grown h3 hbase (fun k hk => (World.ownsRow.lt hown k hk).1)))
  · intro j u hj
    match j, hj with
    | 0, hj => simp [flat] at hj; subst hj; exact hp
    | 1, hj => simp [flat] at hj; subst hj; exact hq
  · intro u hu; simp [flat] at hu; rcases hu with rfl | rfl <;> rfl
  · unfold OwnU
    rw [flat_append, List.length_append]
    exact h2
theorem units_next (s : ByteArray) (p : Nat) (hp : p < s.size) : unitsN s s.size p = (p, uAt s p) :: unitsN s s.size (p + uw s p) := by
  obtain ⟨j, hj⟩ : ∃ j, s.size = j + 1 := ⟨s.size - 1, by omega⟩
  have h1 := unitsN_step s j p hp
  have hu := uw_pos s p
  rw [← hj] at h1
  rw [h1, fuel s j s.size (p + uw s p) (by omega) (by omega)]
theorem units_len (s : ByteArray) : (units s).length ≤ s.size := units_len_N s _ _

theorem strayVal (s : ByteArray) (p : Nat) (hp : p < s.size) : wrap64 (1114112 + wrap64 (s[p].toNat : Int)) = ((1114112 + (s.get! p).toNat : Nat) : Int) := by
  have := (s[p]).toNat_lt
  rw [w64b, get_bang s p hp, show (1114112 : Int) + ((s[p].toNat : Nat) : Int) = ((1114112 + s[p].toNat : Nat) : Int) by omega]
  exact IntWalk.wrap64_in _ (by omega)
set_option maxHeartbeats 4000000 in
theorem runits_any (s : ByteArray) (w : World) (hs : s.size ≤ 4398046511104) : Calls Tryd.prog 40 #[.string s] w fun e w' => ∃ v, e = .returned v ∧ OwnU w' w.heap.size v (units s) ∧ Below w.heap.size w w' := by
  have hsi : (s.size : Int) ≤ 4398046511104 := by omega
  go_enter Tryd.func40, Tryd.ntmps40
  go_wp2
  go_loopw [3, 4] (fun vo va wr => ∃ (p : Nat) (l : List (Nat × Nat)), va = .int .i64 p ∧ p ≤ s.size ∧ l.length ≤ p ∧ Hid (l ++ unitsN s s.size p = units s) ∧ OwnU wr w.heap.size vo l ∧ Below w.heap.size w wr) (fun _ va _ => s.size - (intOf va).toNat)
  case atStart => exact ⟨0, [], rfl, by omega, by simp, rfl, World.ownsRow_lit w _ 0 (Nat.le_refl _) (by unfold maxLen; omega) rfl, (Below.refl _ w).alloc (Nat.le_refl _) _⟩
  case round =>
    obtain ⟨p, l, rfl, hp, hl, hU, hO, hB⟩ := hrel
    have HO : Hid (OwnU wr w.heap.size u3 l) := hO
    have HB : Hid (Below w.heap.size w wr) := hB
    clear hO hB
    by_cases hps : p = s.size
    · as_aux_lemma =>
        subst hps
        have e : l = units s := by rw [← hU.out, unitsN_end s _ _ (by omega), List.append_nil]
        subst e
        clear hU
        go_wp2
        go_ret
        exact ⟨_, rfl, HO.out, HB.out⟩
    · have hlt : p < s.size := by omega
      have hpi : (p : Int) < (s.size : Int) := by omega
      have hu := uw_pos s p
      have hin := uw_in s p hlt
      have HN : Hid ((l ++ [(p, uAt s p)]) ++ unitsN s s.size (p + uw s p) = units s) := by
        show _ = _
        rw [← hU.out, units_next s p hlt]; simp
      have hux := uAt_lt s p
      have HW : Hid (wd (uAt s p : Int) = (uw s p : Int)) := wd_uAt s p
      cases hst : strayAt s p with
      | true =>
        as_aux_lemma =>
          have HE : Hid (beginsU s p = -1) := by show _ = _; rw [begins_eq s p hlt, hst]; rfl
          have HA : Hid (1114112 + (s.get! p).toNat = uAt s p) := (uAt_stray hst).symm
          clear hst hU
          generalize uAt s p = x at *
          generalize uw s p = d at *
          go_wp2_with fail
          refine (begins_any s p _ hlt hs).mono ?_
          rw [HE.out]
          rintro e w1 ⟨rfl, hb1⟩
          replace HO : Hid (OwnU w1 w.heap.size u3 l) := HO.out.below hb1 (Nat.le_refl _)
          replace HB : Hid (Below w.heap.size w w1) := HB.out.trans (hb1.mono HB.out.size)
          have hz := HB.out.size
          clear hb1 HE
          go_wp2_with (at_builtin; go_must (refine push_U rfl _ _ rfl w.heap.size _ _ rfl (HO.out.alloc _) _ _ p x _ ((strayVal s p hlt).trans (by rw [HA.out])) rfl (by simp) (by simp) (by omega) (by simp; omega) ?_); intro v' w3 hO1 hb3)
          have HO1 : Hid (OwnU w3 w.heap.size v' (l ++ [(p, x)])) := hO1
          have HB3 : Hid (Below w.heap.size w w3) := (HB.out.alloc hz _).trans hb3
          clear hO1 hb3 HO HB
          go_wp2_with fail
          refine (rwidth_any _ _).mono ?_
          rw [strayVal s p hlt, HA.out, HW.out]
          rintro e w4 ⟨rfl, rfl⟩
          clear HA HW
          go_wp2
          exact ⟨⟨p + d, _, by go_num, by omega, by simp; omega, HN, HO1.out, HB3.out⟩, by simp [intOf]; omega⟩
      | false =>
        as_aux_lemma =>
          have HE : Hid (beginsU s p = (uAt s p : Int)) := by show _ = _; rw [begins_eq s p hlt, hst]; rfl
          clear hst hU
          generalize uAt s p = x at *
          generalize uw s p = d at *
          clear hux
          have hz := HB.out.size
          go_wp2_with fail
          refine (begins_any s p _ hlt hs).mono ?_
          rw [HE.out]
          rintro e w1 ⟨rfl, hb1⟩
          replace HO : Hid (OwnU w1 w.heap.size u3 l) := HO.out.below hb1 (Nat.le_refl _)
          replace HB : Hid (Below w.heap.size w w1) := HB.out.trans (hb1.mono HB.out.size)
          replace hz := HB.out.size
          clear hb1 HE
          go_wp2_with (at_builtin; go_must (refine push_U rfl _ _ rfl w.heap.size _ _ rfl (HO.out.alloc _) _ _ p x _ rfl rfl (by simp) (by simp) (by omega) (by simp; omega) ?_); intro v' w3 hO1 hb3)
          have HO1 : Hid (OwnU w3 w.heap.size v' (l ++ [(p, x)])) := hO1
          have HB3 : Hid (Below w.heap.size w w3) := (HB.out.alloc hz _).trans hb3
          clear hO1 hb3 HO HB
          go_wp2_with fail
          refine (rwidth_any _ _).mono ?_
          rw [HW.out]
          rintro e w4 ⟨rfl, rfl⟩
          clear HW
          go_wp2
          exact ⟨⟨p + d, _, by go_num, by omega, by simp; omega, HN, HO1.out, HB3.out⟩, by simp [intOf]; omega⟩
end Go.Proofs
namespace Go.Proofs
open Go.RowKit Go.Shelf

set_option maxRecDepth 100000
attribute [local go_sem] Oper.semAt_some
attribute [local go_sem ↓] Go.wp_at_zero Go.wp_at_succ
/-- a row of numbers of the call's own -/
def OwnI1 (w : World) (base : Nat) (v : Value) (l : List Int) : Prop := w.ownsRow base 3 1 v l.length (l.map (Value.int .i64))
theorem OwnI1.alloc {w : World} {base : Nat} {v : Value} {l : List Int} (h : OwnI1 w base v l) (o : Obj) : OwnI1 (w.alloc o) base v l := World.ownsRow.alloc h o
theorem OwnI1.toInts {w : World} {base : Nat} {v : Value} {l : List Int} (h : OwnI1 w base v l) : Ints w v l := Ints.of_row h
/-- one number more behind such a row -/
theorem push_I1 {ops : Array Oper} {rest : List Oper} {o : Oper} {a : Act} {Q : Exit → Act → World → Prop} {w : World} (hgd : o.guard = none) (s x : Operand)
    (ho : o.op = .call { callee := .builtin .append, args := #[s, x], argTypes := #[40, 40] })
    (base : Nat) (v : Value) (l : List Int) (hs : a.eval s = v) (hown : OwnI1 w base v l) (g c : Nat) (p : Int) (hx : a.eval x = .slice (some ⟨g, 0, none⟩) 1 c)
    (hp : w.cell? ⟨g, 0, none⟩ = some (.int .i64 p)) (hl : l.length + 1 ≤ 8796093022208) (hbase : base ≤ w.heap.size)
    (h : ∀ v' w', OwnI1 w' base v' (l ++ [p]) → Below base w w' → wpList Tryd.prog ops Q rest (a.put o.dst v') w') : wpList Tryd.prog ops Q (o :: rest) a w := by
  obtain ⟨i0, hi, hz0, hz1, hz2⟩ := uinfo_parts info3
  refine wpList_append_own w hgd s x 40 ho base 3 i0 (.int .i64 0) 1 8 Tryd.underlying40 hi hz0 hz1 hz2 rfl (by decide) v l.length _ hs hown ⟨g, 0, none⟩ 1 c [.int .i64 p] hx rfl ?_ (by simp; rfl) (by unfold maxLen; omega) (by omega) hbase (fun v' w' h2 h3 _ => h v' w' ?_ ((Below.refl _ w).grown h3 hbase (fun k hk => (World.ownsRow.lt hown k hk).1)))
  · intro j u hj
    match j, hj with
    | 0, hj => simp at hj; subst hj; exact hp
  · unfold OwnI1
    rw [List.map_append, List.length_append]
    exact h2
/-- such a row, or one with no room that nobody has grown yet -/
def OwnI0 (w : World) (base : Nat) (v : Value) (l : List Int) : Prop := (∃ A, v = .slice A 0 0 ∧ l = []) ∨ OwnI1 w base v l
theorem OwnI0.alloc {w : World} {base : Nat} {v : Value} {l : List Int} (h : OwnI0 w base v l) (o : Obj) : OwnI0 (w.alloc o) base v l := h.imp id fun h => h.alloc o
theorem OwnI0.toInts {w : World} {base : Nat} {v : Value} {l : List Int} (h : OwnI0 w base v l) : Ints w v l := by
  rcases h with ⟨A, rfl, rfl⟩ | h
  · exact ⟨A, 0, rfl, .inl rfl⟩
  · exact h.toInts
theorem OwnI0.ir {w : World} {base : Nat} {v : Value} {l : List Int} (h : OwnI0 w base v l) : IR w v l := by
  rcases h with ⟨A, rfl, rfl⟩ | h
  · exact ⟨A, 0, rfl, Nat.le_refl _, .inl rfl⟩
  · exact OwnI.ir h
theorem push_I0 {ops : Array Oper} {rest : List Oper} {o : Oper} {a : Act} {Q : Exit → Act → World → Prop} {w : World} (hgd : o.guard = none) (s x : Operand)
    (ho : o.op = .call { callee := .builtin .append, args := #[s, x], argTypes := #[40, 40] })
    (base : Nat) (v : Value) (l : List Int) (hs : a.eval s = v) (hown : OwnI0 w base v l) (g c : Nat) (p : Int) (hx : a.eval x = .slice (some ⟨g, 0, none⟩) 1 c)
    (hp : w.cell? ⟨g, 0, none⟩ = some (.int .i64 p)) (hl : l.length + 1 ≤ 8796093022208) (hbase : base ≤ w.heap.size)
    (h : ∀ v' w', OwnI0 w' base v' (l ++ [p]) → Below base w w' → wpList Tryd.prog ops Q rest (a.put o.dst v') w') : wpList Tryd.prog ops Q (o :: rest) a w := by
  rcases hown with ⟨A, rfl, rfl⟩ | hown
  · obtain ⟨i0, hi, hz0, hz1, hz2⟩ := uinfo_parts info3
    refine wpList_append_grows w hgd s x 40 ho 3 i0 (.int .i64 0) 1 8 Tryd.underlying40 hi hz0 hz1 hz2 rfl (by decide) A 0 0 [] hs (fun _ => ⟨rfl, rfl⟩) rfl (fun b _ j u hj => by simp at hj) ⟨g, 0, none⟩ 1 c [.int .i64 p] hx rfl ?_ (by simp; rfl) (by omega) (by unfold maxLen; omega) (by omega) (fun v' w' h2 h3 => h v' w' (.inr ?_) ((Below.refl _ w).grown h3 hbase (fun k hk => by cases hk)))
    · intro j u hj
      match j, hj with
      | 0, hj => simp at hj; subst hj; exact hp
    · exact Joins.ownsRow_le h2 hbase
  · exact push_I1 hgd s x ho base v l hs hown g c p hx hp hl hbase (fun v' w' h1 h2 => h v' w' (.inr h1) h2)
theorem intsU_at {l : List (Nat × Nat)} {i : Nat} {x : Nat × Nat} (h : l[i]? = some x) : (intsU l).take (i + 1) = (intsU l).take i ++ [(x.2 : Int)] := by
  obtain ⟨hlt, e⟩ := List.getElem?_eq_some_iff.1 h
  rw [List.take_succ_eq_append_getElem (by rw [intsU_length]; exact hlt)]
  simp [intsU, e]
set_option maxHeartbeats 4000000 in
theorem rcut_any (s : ByteArray) (w : World) (hs : s.size ≤ 4398046511104) : Calls Tryd.prog 17 #[.string s] w fun e w' => ∃ v, e = .returned v ∧ IR w' v (intsU (units s)) ∧ Below w.heap.size w w' := by
  have hul := units_len s
  go_enter Tryd.func17, Tryd.ntmps17
  go_wp2_with fail
  refine (runits_any s _ hs).mono ?_
  rintro e w1 ⟨v, rfl, hO, hb⟩
  obtain ⟨A, n, cap, rfl, hn, hcells⟩ : ∃ A n cap, v = .slice A n cap ∧ n = (units s).length ∧ ∀ j x, (units s)[j]? = some x → ∃ g, A = some ⟨g, 0, none⟩ ∧ g < w1.heap.size ∧ w1.cell? ⟨g, j * 2 + 1, none⟩ = some (.int .i64 x.2) ∧ n ≤ cap := by
    rcases hO.2 with ⟨rfl, h0⟩ | ⟨g, cap, cur, rfl, _, hh, hc, _⟩
    · have : units s = [] := List.eq_nil_of_length_eq_zero h0
      exact ⟨none, 0, 0, rfl, by rw [this]; rfl, fun j x h => by rw [this] at h; simp at h⟩
    · exact ⟨_, _, cap, rfl, rfl, fun j x h => ⟨g, rfl, (Array.getElem?_eq_some_iff.1 hh).1, (OwnU.at hO h).2, hc⟩⟩
  have HC : Hid (∀ j x, (units s)[j]? = some x → ∃ g, A = some ⟨g, 0, none⟩ ∧ g < w1.heap.size ∧ w1.cell? ⟨g, j * 2 + 1, none⟩ = some (.int .i64 x.2) ∧ n ≤ cap) := hcells
  have HN : Hid (n = (units s).length) := hn
  have hni : n ≤ 4398046511104 := by omega
  have hb0 : Below w.heap.size w w1 := by
    first | exact hb | exact ((Below.refl _ w).alloc (Nat.le_refl _) _).trans (hb.mono (by simp))
  have HB : Hid (Below w.heap.size w w1) := hb0
  have hz1 : w.heap.size ≤ w1.heap.size := hb0.size
  clear hcells hb hn hO hb0 hul
  go_wp2
  go_loopw [3, 5] (fun vo vi wr => ∃ i : Nat, vi = .int .i64 i ∧ i ≤ n ∧ OwnI0 wr w1.heap.size vo ((intsU (units s)).take i) ∧ Below w1.heap.size w1 wr) (fun _ vi _ => n - (intOf vi).toNat)
  case atStart => exact ⟨0, rfl, by omega, .inl ⟨_, rfl, rfl⟩, Below.refl _ _⟩
  case round =>
    obtain ⟨i, rfl, hi, hO, hW⟩ := hrel
    have hz : w1.heap.size ≤ wr.heap.size := hW.size
    by_cases hin : i = n
    · as_aux_lemma =>
        have hni' := hin.symm
        subst hni'
        have HO : Hid (IR wr u3 (intsU (units s))) := by
          have := hO.ir
          rw [List.take_of_length_le (by rw [intsU_length, HN.out]; exact Nat.le_refl _)] at this
          exact this
        have HW : Hid (Below w1.heap.size w1 wr) := hW
        clear hO hW
        go_wp2
        go_ret
        exact ⟨_, rfl, HO.out, HB.out.trans (HW.out.mono hz1)⟩
    · as_aux_lemma =>
        obtain ⟨x, hx⟩ : ∃ x, (units s)[i]? = some x := ⟨_, List.getElem?_eq_getElem (by rw [← HN.out]; omega)⟩
        obtain ⟨g, rfl, hg, hc, hcap⟩ := HC.out i x hx
        have hc' := (hW.cell (p := ⟨g, i * 2 + 1, none⟩) hg).trans hc
        have HT : Hid ((intsU (units s)).take (i + 1) = (intsU (units s)).take i ++ [(x.2 : Int)]) := intsU_at hx
        have hlen : ((intsU (units s)).take i).length = i := by rw [List.length_take, intsU_length, ← HN.out]; omega
        have HO : Hid (OwnI0 wr w1.heap.size u3 ((intsU (units s)).take i)) := hO
        have HW : Hid (Below w1.heap.size w1 wr) := hW
        have HL : Hid (((intsU (units s)).take i).length = i) := hlen
        clear hx hc hO hW hlen
        go_wp2_with (at_builtin; go_must (refine push_I0 rfl _ _ rfl w1.heap.size _ _ rfl (HO.out.alloc _) _ _ (x.2 : Int) rfl (by simp) (by rw [HL.out]; omega) (by simp; omega) ?_); intro v' w3 hO1 hb3)
        exact ⟨⟨i + 1, by go_num, by omega, by rw [HT.out]; exact hO1, (HW.out.alloc hz _).trans hb3⟩, by simp [intOf]; omega⟩
end Go.Proofs
