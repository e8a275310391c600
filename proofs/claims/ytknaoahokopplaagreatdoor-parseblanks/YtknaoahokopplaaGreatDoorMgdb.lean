/-
  Several texts in one (Xeb Xhb).
-/
import Derived.Shelf.Abstract
import Derived.Shelf.RegionOpen
import Derived.WalkKit
import Derived.WalkSpells
import Derived.WalkLawsBesides
import Derived.BigQuiet
import Derived.Deep.QuietTactic
import Derived.Deep.LoopGhost
import Derived.Lib.OthersKept
import Derived.ScopeJumps
import Derived.WalkMore
import Derived.Test.YtknaoahokopplaaGreatDoorMgcb
import Derived.Maps.AppendAt
import Derived.Lib.SmallJoins
namespace Go.Proofs
open Go.RowKit Go.Shelf

set_option maxRecDepth 100000
attribute [local go_sem] Oper.semAt_some


/-- a call tells a token and an error -/
def Tells (f : Nat) (args : Array Value) (k a l u : Int) (t : ByteArray) (n e0 : Int) : Prop := ∀ w : World, Calls Tryz.prog f args w fun e w' => e = .returned (.tuple #[tk k a l u t n, .int .i64 e0]) ∧ Below w.heap.size w w'
set_option maxHeartbeats 1000000 in
theorem first_var (s : ByteArray) (fresh : Bool) (k a l u : Int) (t : ByteArray) (n e0 : Int) (hs : s.size ≤ maxLen) (h1 : 0 < s.size) (m : Nat) (hc : s[0].toNat = 36) (hm : spanN isNm (s.extract 1 s.size).data.toList = m) (hm0 : 0 < m) (hv : Tells 87 #[.string s] k a l u t n e0) : Tells 47 #[.string s, .bool fresh] k a l u t n e0 := by
  intro w
  have HV : Hid (Tells 87 #[.string s] k a l u t n e0) := hv
  clear hv
  have h1i : (1 : Int) ≤ (s.size : Int) := by omega
  have hmi : (0 : Int) < (m : Int) := by omega
  go_enter Tryz.func47, Tryz.ntmps47
  go_wp2_with (first | (go_at_call 84; refine (Tryz.strings_IndexByte _ _ _).mono ?_; rintro e w' ⟨rfl, rfl⟩; skip) | (go_at_call 85; refine (span_name _ _ (by rw [ext_size]; omega)).mono ?_; rintro e w' ⟨rfl, rfl⟩; rw [hm]))
  refine (HV.out _).mono ?_
  rintro e w2 ⟨rfl, hb2⟩
  have HT2 := (TB.new w 0 0 0 0 ⟨#[]⟩ 0).below hb2 (by simp)
  have HB2 : Below w.heap.size w w2 := ((Below.refl _ w).alloc (Nat.le_refl _) _).trans (hb2.mono (by simp))
  obtain ⟨c0, c1, c2, c3, c4, c5⟩ := HT2.cells
  obtain ⟨f0, f1, f2, f3, f4, f5⟩ := HT2.frozen
  clear hb2
  go_wp2
  exact ret_tk rfl rfl rfl (HT2.set k a l u t n) ⟨rfl, below_set6 HB2 (Nat.le_refl _) _ _ _ _ _ _⟩
set_option maxHeartbeats 1000000 in
theorem first_class (s : ByteArray) (fresh : Bool) (k a l u : Int) (t : ByteArray) (n e0 : Int) (_hs : s.size ≤ maxLen) (h1 : 0 < s.size) (hc : s[0].toNat = 91) (hp : Lib.hasPrefix s.data.toList [91, 58] = true) (hv : Tells 89 #[.string s] k a l u t n e0) : Tells 47 #[.string s, .bool fresh] k a l u t n e0 := by
  intro w
  have HV : Hid (Tells 89 #[.string s] k a l u t n e0) := hv
  clear hv
  have h1i : (1 : Int) ≤ (s.size : Int) := by omega
  go_enter Tryz.func47, Tryz.ntmps47
  go_wp2_with (first | (go_at_call 84; refine (Tryz.strings_IndexByte _ _ _).mono ?_; rintro e w' ⟨rfl, rfl⟩; skip) | (go_at_call 88; refine (Tryz.strings_HasPrefix _ _ _).mono ?_; rintro e w' ⟨rfl, rfl⟩; rw [show (⟨#[91, 58]⟩ : ByteArray).data.toList = [91, 58] from rfl, hp]))
  refine (HV.out _).mono ?_
  rintro e w2 ⟨rfl, hb2⟩
  have HT2 := (TB.new w 0 0 0 0 ⟨#[]⟩ 0).below hb2 (by simp)
  have HB2 : Below w.heap.size w w2 := ((Below.refl _ w).alloc (Nat.le_refl _) _).trans (hb2.mono (by simp))
  obtain ⟨c0, c1, c2, c3, c4, c5⟩ := HT2.cells
  obtain ⟨f0, f1, f2, f3, f4, f5⟩ := HT2.frozen
  clear hb2
  go_wp2
  exact ret_tk rfl rfl rfl (HT2.set k a l u t n) ⟨rfl, below_set6 HB2 (Nat.le_refl _) _ _ _ _ _ _⟩
set_option maxHeartbeats 1000000 in
theorem first_bare (s : ByteArray) (fresh : Bool) (k a l u : Int) (t : ByteArray) (n e0 : Int) (_hs : s.size ≤ maxLen) (h1 : 0 < s.size) (hc : s[0].toNat ≠ 36) (hp : Lib.hasPrefix s.data.toList [91, 58] = false) (hi : Lib.indexByte sgnL s[0] = -1) (h64 : s[0].toNat ≠ 64) (h92 : s[0].toNat ≠ 92) (hf : fresh = false) (hv : Tells 93 #[.string s] k a l u t n e0) : Tells 47 #[.string s, .bool fresh] k a l u t n e0 := by
  intro w
  have HV : Hid (Tells 93 #[.string s] k a l u t n e0) := hv
  clear hv
  have h1i : (1 : Int) ≤ (s.size : Int) := by omega
  subst hf
  go_enter Tryz.func47, Tryz.ntmps47
  go_wp2_with (first | (go_at_call 84; refine (Tryz.strings_IndexByte _ _ _).mono ?_; rintro e w' ⟨rfl, rfl⟩; rw [show (⟨#[62, 59, 123, 125, 124, 94, 36, 46, 91, 93, 45, 61, 58]⟩ : ByteArray).data.toList = sgnL from rfl, show (Int.toNat (s[0].toNat : Int)).toUInt8 = s[0] by simp, hi]) | (go_at_call 88; refine (Tryz.strings_HasPrefix _ _ _).mono ?_; rintro e w' ⟨rfl, rfl⟩; rw [show (⟨#[91, 58]⟩ : ByteArray).data.toList = [91, 58] from rfl, hp]))
  refine (HV.out _).mono ?_
  rintro e w2 ⟨rfl, hb2⟩
  have HT2 := (TB.new w 0 0 0 0 ⟨#[]⟩ 0).below hb2 (by simp)
  have HB2 : Below w.heap.size w w2 := ((Below.refl _ w).alloc (Nat.le_refl _) _).trans (hb2.mono (by simp))
  obtain ⟨c0, c1, c2, c3, c4, c5⟩ := HT2.cells
  obtain ⟨f0, f1, f2, f3, f4, f5⟩ := HT2.frozen
  clear hb2
  go_wp2
  exact ret_tk rfl rfl rfl (HT2.set k a l u t n) ⟨rfl, below_set6 HB2 (Nat.le_refl _) _ _ _ _ _ _⟩
theorem idx_bound : ∀ (l : List UInt8) (c : UInt8), -1 ≤ Lib.indexByte l c ∧ Lib.indexByte l c < l.length
  | [], c => by simp [Lib.indexByte]
  | b :: l, c => by
    obtain ⟨h1, h2⟩ := idx_bound l c
    unfold Lib.indexByte
    rw [List.length_cons]
    split
    · omega
    · split <;> omega
theorem sgn_bound (c : UInt8) : Lib.indexByte sgnL c ≤ 12 ∧ -1 ≤ Lib.indexByte sgnL c := by
  have := idx_bound sgnL c
  have e : sgnL.length = 13 := rfl
  omega
set_option maxHeartbeats 1000000 in
theorem first_sign (s : ByteArray) (fresh : Bool) (i : Nat) (_hs : s.size ≤ maxLen) (h1 : 0 < s.size) (hc : s[0].toNat ≠ 36) (hp : Lib.hasPrefix s.data.toList [91, 58] = false) (hi : Lib.indexByte sgnL s[0] = (i : Int)) : Tells 47 #[.string s, .bool fresh] (10 + i) 0 1 0 ⟨#[]⟩ 0 0 := by
  intro w
  have h1i : (1 : Int) ≤ (s.size : Int) := by omega
  have hi12 : (i : Int) ≤ 12 := by rw [← hi]; exact (sgn_bound _).1
  have hi0 : (0 : Int) ≤ (i : Int) := by omega
  go_enter Tryz.func47, Tryz.ntmps47
  go_wp2_with (first | (go_at_call 84; refine (Tryz.strings_IndexByte _ _ _).mono ?_; rintro e w' ⟨rfl, rfl⟩; rw [show (⟨#[62, 59, 123, 125, 124, 94, 36, 46, 91, 93, 45, 61, 58]⟩ : ByteArray).data.toList = sgnL from rfl, show (Int.toNat (s[0].toNat : Int)).toUInt8 = s[0] by simp, hi]) | (go_at_call 88; refine (Tryz.strings_HasPrefix _ _ _).mono ?_; rintro e w' ⟨rfl, rfl⟩; rw [show (⟨#[91, 58]⟩ : ByteArray).data.toList = [91, 58] from rfl, hp]))
  exact bodyPost_ret (v := .tuple #[tk (10 + i) 0 1 0 ⟨#[]⟩ 0, .int .i64 0]) (by simp [results, Tryz.f47, go_sem]) rfl ⟨rfl, (Below.refl _ _).alloc (Nat.le_refl _) _⟩
set_option maxHeartbeats 1000000 in
theorem first_sign36 (s : ByteArray) (fresh : Bool) (i : Nat) (hs : s.size ≤ maxLen) (h1 : 0 < s.size) (hc : s[0].toNat = 36) (hm : spanN isNm (s.extract 1 s.size).data.toList = 0) (hp : Lib.hasPrefix s.data.toList [91, 58] = false) (hi : Lib.indexByte sgnL s[0] = (i : Int)) : Tells 47 #[.string s, .bool fresh] (10 + i) 0 1 0 ⟨#[]⟩ 0 0 := by
  intro w
  have h1i : (1 : Int) ≤ (s.size : Int) := by omega
  have hi12 : (i : Int) ≤ 12 := by rw [← hi]; exact (sgn_bound _).1
  have hi0 : (0 : Int) ≤ (i : Int) := by omega
  go_enter Tryz.func47, Tryz.ntmps47
  go_wp2_with (first | (go_at_call 84; refine (Tryz.strings_IndexByte _ _ _).mono ?_; rintro e w' ⟨rfl, rfl⟩; rw [show (⟨#[62, 59, 123, 125, 124, 94, 36, 46, 91, 93, 45, 61, 58]⟩ : ByteArray).data.toList = sgnL from rfl, show (Int.toNat (36 : Int)).toUInt8 = s[0] by rw [← UInt8.toNat_inj, hc]; rfl, hi]) | (go_at_call 85; refine (span_name _ _ (by rw [ext_size]; omega)).mono ?_; rintro e w' ⟨rfl, rfl⟩; rw [hm]) | (go_at_call 88; refine (Tryz.strings_HasPrefix _ _ _).mono ?_; rintro e w' ⟨rfl, rfl⟩; rw [show (⟨#[91, 58]⟩ : ByteArray).data.toList = [91, 58] from rfl, hp]))
  exact bodyPost_ret (v := .tuple #[tk (10 + i) 0 1 0 ⟨#[]⟩ 0, .int .i64 0]) (by simp [results, Tryz.f47, go_sem]) rfl ⟨rfl, (Below.refl _ _).alloc (Nat.le_refl _) _⟩
end Go.Proofs
namespace Go.Proofs
open Go.RowKit Go.Shelf

set_option maxRecDepth 100000
attribute [local go_sem] Oper.semAt_some


/-- the text begins with a line that is nothing but the word then -/
def endsB (s : ByteArray) : Bool := Lib.hasPrefix s.data.toList [116, 104, 101, 110] && decide (s.data.toList[4 + pastN false (s.data.toList.drop 4)]? = some 59)
theorem pre_len {l p : List UInt8} (h : Lib.hasPrefix l p = true) : p.length ≤ l.length := by
  rw [← Lib.hasPrefix_of_take] at h
  simp only [Bool.and_eq_true, decide_eq_true_eq] at h
  exact h.1
set_option maxHeartbeats 1000000 in
theorem ends_any (s : ByteArray) (w : World) (hs : s.size ≤ maxLen) : Calls Tryz.prog 92 #[.string s] w fun e w' => e = .returned (.bool (endsB s)) ∧ w' = w := by
  unfold endsB
  cases hp : Lib.hasPrefix s.data.toList [116, 104, 101, 110]
  · rw [Bool.false_and]
    go_enter Tryz.func92, Tryz.ntmps92
    go_wp2_with (go_at_call 88; refine (Tryz.strings_HasPrefix _ _ _).mono ?_; rintro e w' ⟨rfl, rfl⟩; rw [show (⟨#[116, 104, 101, 110]⟩ : ByteArray).data.toList = [116, 104, 101, 110] from rfl, hp])
    go_ret
    exact ⟨rfl, rfl⟩
  · rw [Bool.true_and]
    have h4 : 4 ≤ s.size := by have := pre_len hp; simpa using this
    have HP : Hid (Calls Tryz.prog 46 #[.string s, .int .i64 (4 : Nat)] w fun e w' => e = .returned (.int .i64 (4 + pastN false (s.data.toList.drop 4) : Nat)) ∧ w' = w) := past_any s 4 w hs h4
    have hle : 4 + pastN false (s.data.toList.drop 4) ≤ s.size := by
      have := pastN_le false (s.data.toList.drop 4)
      simp at this
      omega
    generalize 4 + pastN false (s.data.toList.drop 4) = q at HP hle ⊢
    by_cases hq : q < s.size
    · have hqi : (q : Int) < (s.size : Int) := by omega
      have hg : s.data.toList[q]? = some s[q] := by
        rw [List.getElem?_eq_getElem (by simpa using hq)]; rfl
      rw [hg]
      go_enter Tryz.func92, Tryz.ntmps92
      go_wp2_with (first | (go_at_call 88; refine (Tryz.strings_HasPrefix _ _ _).mono ?_; rintro e w' ⟨rfl, rfl⟩; rw [show (⟨#[116, 104, 101, 110]⟩ : ByteArray).data.toList = [116, 104, 101, 110] from rfl, hp]) | (go_at_call 46; refine HP.out.mono ?_; rintro e w' ⟨rfl, rfl⟩))
      go_ret
      refine ⟨?_, rfl⟩
      show Ending.returned (.bool ((s[q].toNat : Int) == 59)) = _
      congr 2
      rw [Bool.eq_iff_iff]
      simp only [beq_iff_eq, decide_eq_true_eq, Option.some.injEq]
      constructor
      · intro h
        apply UInt8.toNat_inj.1
        have : s[q].toNat = 59 := by omega
        rw [this]; rfl
      · intro h; rw [h]; rfl
    · have hqi : decide ((q : Int) < (s.size : Int)) = false := by simp; omega
      have hqn : ¬ (q < s.size) := hq
      have hg : s.data.toList[q]? = none := by
        rw [List.getElem?_eq_none]; simpa using hq
      rw [hg]
      go_enter Tryz.func92, Tryz.ntmps92
      go_wp2_with (first | (go_at_call 88; refine (Tryz.strings_HasPrefix _ _ _).mono ?_; rintro e w' ⟨rfl, rfl⟩; rw [show (⟨#[116, 104, 101, 110]⟩ : ByteArray).data.toList = [116, 104, 101, 110] from rfl, hp]) | (go_at_call 46; refine HP.out.mono ?_; rintro e w' ⟨rfl, rfl⟩))
      go_ret
      exact ⟨rfl, rfl⟩
set_option maxHeartbeats 1000000 in
theorem first_bare2 (s : ByteArray) (k a l u : Int) (t : ByteArray) (n e0 : Int) (hs : s.size ≤ maxLen) (h1 : 0 < s.size) (hc : s[0].toNat ≠ 36) (hp : Lib.hasPrefix s.data.toList [91, 58] = false) (hi : Lib.indexByte sgnL s[0] = -1) (h64 : s[0].toNat ≠ 64) (h92 : s[0].toNat ≠ 92) (he : endsB s = false) (hv : Tells 93 #[.string s] k a l u t n e0) : Tells 47 #[.string s, .bool true] k a l u t n e0 := by
  intro w
  have HV : Hid (Tells 93 #[.string s] k a l u t n e0) := hv
  clear hv
  have h1i : (1 : Int) ≤ (s.size : Int) := by omega
  go_enter Tryz.func47, Tryz.ntmps47
  go_wp2_with (first | (go_at_call 84; refine (Tryz.strings_IndexByte _ _ _).mono ?_; rintro e w' ⟨rfl, rfl⟩; rw [show (⟨#[62, 59, 123, 125, 124, 94, 36, 46, 91, 93, 45, 61, 58]⟩ : ByteArray).data.toList = sgnL from rfl, show (Int.toNat (s[0].toNat : Int)).toUInt8 = s[0] by simp, hi]) | (go_at_call 88; refine (Tryz.strings_HasPrefix _ _ _).mono ?_; rintro e w' ⟨rfl, rfl⟩; rw [show (⟨#[91, 58]⟩ : ByteArray).data.toList = [91, 58] from rfl, hp]) | (go_at_call 92; refine (ends_any _ _ hs).mono ?_; rintro e w' ⟨rfl, rfl⟩; rw [he]))
  refine (HV.out _).mono ?_
  rintro e w2 ⟨rfl, hb2⟩
  have HT2 := (TB.new w 0 0 0 0 ⟨#[]⟩ 0).below hb2 (by simp)
  have HB2 : Below w.heap.size w w2 := ((Below.refl _ w).alloc (Nat.le_refl _) _).trans (hb2.mono (by simp))
  obtain ⟨c0, c1, c2, c3, c4, c5⟩ := HT2.cells
  obtain ⟨f0, f1, f2, f3, f4, f5⟩ := HT2.frozen
  clear hb2
  go_wp2
  exact ret_tk rfl rfl rfl (HT2.set k a l u t n) ⟨rfl, below_set6 HB2 (Nat.le_refl _) _ _ _ _ _ _⟩
set_option maxHeartbeats 1000000 in
theorem first_then (s : ByteArray) (hs : s.size ≤ maxLen) (h1 : 0 < s.size) (hc : s[0].toNat ≠ 36) (hp : Lib.hasPrefix s.data.toList [91, 58] = false) (hi : Lib.indexByte sgnL s[0] = -1) (h64 : s[0].toNat ≠ 64) (h92 : s[0].toNat ≠ 92) (he : endsB s = true) : Tells 47 #[.string s, .bool true] 2 0 4 0 ⟨#[116, 104, 101, 110]⟩ 0 0 := by
  intro w
  have h1i : (1 : Int) ≤ (s.size : Int) := by omega
  go_enter Tryz.func47, Tryz.ntmps47
  go_wp2_with (first | (go_at_call 84; refine (Tryz.strings_IndexByte _ _ _).mono ?_; rintro e w' ⟨rfl, rfl⟩; rw [show (⟨#[62, 59, 123, 125, 124, 94, 36, 46, 91, 93, 45, 61, 58]⟩ : ByteArray).data.toList = sgnL from rfl, show (Int.toNat (s[0].toNat : Int)).toUInt8 = s[0] by simp, hi]) | (go_at_call 88; refine (Tryz.strings_HasPrefix _ _ _).mono ?_; rintro e w' ⟨rfl, rfl⟩; rw [show (⟨#[91, 58]⟩ : ByteArray).data.toList = [91, 58] from rfl, hp]) | (go_at_call 92; refine (ends_any _ _ hs).mono ?_; rintro e w' ⟨rfl, rfl⟩; rw [he]))
  exact bodyPost_ret (v := .tuple #[tk 2 0 4 0 ⟨#[116, 104, 101, 110]⟩ 0, .int .i64 0]) (by simp [results, Tryz.f47, go_sem]) rfl ⟨rfl, (Below.refl _ _).alloc (Nat.le_refl _) _⟩
end Go.Proofs
