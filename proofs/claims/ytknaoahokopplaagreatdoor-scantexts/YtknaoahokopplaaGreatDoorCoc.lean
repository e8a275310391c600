/-
  Copies.
-/
import Derived.Shelf.Abstract
import Derived.Shelf.RegionOpen
import Derived.WalkKit
import Derived.WalkSpells
import Derived.WalkLawsBesides
import Derived.BigQuiet
import Derived.Deep.QuietTactic
import Derived.Deep.LoopGhost
import Derived.Lib.OthersKept
import Derived.ScopeJumps
import Derived.WalkMore
import Derived.Maps.AppendAt
import Derived.Lib.SmallJoins
import Derived.Test.YtknaoahokopplaaGreatDoorEbc
namespace Go.Proofs
open Go.RowKit Go.Shelf

set_option maxRecDepth 100000
attribute [local go_sem] Oper.semAt_some


set_option maxHeartbeats 1000000 in
theorem number10_any (t : ByteArray) (v : Int) (w : World) (h9 : t.size ≤ 9) (hv : Lib.parseIntB 64 t.data.toList = .ok v) : Calls Tryz.prog 131 #[.string t, .int .i64 10] w fun e w' => e = .returned (.int .i64 v) ∧ Below w.heap.size w w' := by
  have HC : Hid (∀ W : World, Calls Tryz.prog 156 #[.string t, .int .i64 10, .int .i64 64] W fun e w' => e = .returned (.tuple #[.int .i64 v, .nilIface]) ∧ Below W.heap.size W w') := fun W => by
    refine (Tryz.strconv_ParseInt_10_at64_ok t (by omega) v hv W).mono ?_
    rintro e w' ⟨he, hw | ⟨x, hw⟩⟩
    · subst hw; exact ⟨he, Below.refl _ _⟩
    · subst hw; exact ⟨he, ⟨rfl, rfl, rfl, by rw [Lib.bytesWorld_size]; omega, fun k hk => Lib.bytesWorld_at_old _ _ _ _ hk⟩⟩
  clear hv
  go_enter Tryz.func131, Tryz.ntmps131
  go_wp2_with fail
  refine (HC.out _).mono ?_
  rintro e w1 ⟨rfl, hb⟩
  go_wp2
  go_ret
  exact ⟨rfl, hb⟩
set_option maxHeartbeats 1000000 in
theorem cop_zero (s : ByteArray) (hs : s.size ≤ maxLen) (h1 : 0 < s.size) (hn : spanN isDg (s.extract 1 s.size).data.toList = 0) : Tells 90 #[.string s] 0 0 0 0 ⟨#[]⟩ 0 43 := by
  intro w
  have h1i : (1 : Int) ≤ (s.size : Int) := by omega
  go_enter Tryz.func90, Tryz.ntmps90
  go_wp2_with (go_at_call 85; refine (span_digit _ _ (by rw [ext_size]; omega)).mono ?_; rintro e w' ⟨rfl, rfl⟩; rw [hn])
  exact bodyPost_ret (v := .tuple #[tk0, .int .i64 43]) (by simp [results, Tryz.f90, go_sem]) rfl ⟨rfl, (Below.refl _ _).alloc (Nat.le_refl _) _⟩
set_option maxHeartbeats 1000000 in
theorem cop_many (s : ByteArray) (hs : s.size ≤ maxLen) (h1 : 0 < s.size) (n : Nat) (hn : spanN isDg (s.extract 1 s.size).data.toList = n) (h9 : 9 < n) : Tells 90 #[.string s] 0 0 0 0 ⟨#[]⟩ 0 43 := by
  intro w
  have h1i : (1 : Int) ≤ (s.size : Int) := by omega
  have hd : decide ((9 : Int) < (n : Int)) = true := by simp; omega
  have hd0 : ((n : Int) == 0) = false := by simp; omega
  go_enter Tryz.func90, Tryz.ntmps90
  go_wp2_with (go_at_call 85; refine (span_digit _ _ (by rw [ext_size]; omega)).mono ?_; rintro e w' ⟨rfl, rfl⟩; rw [hn])
  exact bodyPost_ret (v := .tuple #[tk0, .int .i64 43]) (by simp [results, Tryz.f90, go_sem]) rfl ⟨rfl, (Below.refl _ _).alloc (Nat.le_refl _) _⟩
set_option maxHeartbeats 1000000 in
theorem cop_nought (s : ByteArray) (hs : s.size ≤ maxLen) (_h1 : 0 < s.size) (n : Nat) (hn : spanN isDg (s.extract 1 s.size).data.toList = n) (h0 : 0 < n) (h9 : n ≤ 9) (h2 : 1 < s.size) (hc : s[1].toNat = 48) : Tells 90 #[.string s] 0 0 0 0 ⟨#[]⟩ 0 43 := by
  intro w
  have h1i : (1 : Int) ≤ (s.size : Int) := by omega
  have hle : 1 + n ≤ s.size := by
    have := spanN_le isDg (s.extract 1 s.size).data.toList
    rw [hn, ext_drop] at this
    simp at this
    omega
  have hlei : (1 : Int) + (n : Int) ≤ (s.size : Int) := by omega
  have h2i : (1 : Int) < (s.size : Int) := by omega
  have hd : decide ((9 : Int) < (n : Int)) = false := by simp; omega
  have hd0 : ((n : Int) == 0) = false := by simp; omega
  go_enter Tryz.func90, Tryz.ntmps90
  go_wp2_with (go_at_call 85; refine (span_digit _ _ (by rw [ext_size]; omega)).mono ?_; rintro e w' ⟨rfl, rfl⟩; rw [hn])
  exact bodyPost_ret (v := .tuple #[tk0, .int .i64 43]) (by simp [results, Tryz.f90, go_sem]) rfl ⟨rfl, (Below.refl _ _).alloc (Nat.le_refl _) _⟩
set_option maxHeartbeats 1000000 in
theorem cop_ok (s : ByteArray) (hs : s.size ≤ maxLen) (_h1 : 0 < s.size) (n : Nat) (hn : spanN isDg (s.extract 1 s.size).data.toList = n) (h0 : 0 < n) (h9 : n ≤ 9) (h2 : 1 < s.size) (hc : s[1].toNat ≠ 48) (v : Int) (hv : Lib.parseIntB 64 (s.extract 1 (1 + n)).data.toList = .ok v) : Tells 90 #[.string s] 3 0 (1 + n) 0 ⟨#[]⟩ v 0 := by
  intro w
  have h1i : (1 : Int) ≤ (s.size : Int) := by omega
  have hle : 1 + n ≤ s.size := by
    have := spanN_le isDg (s.extract 1 s.size).data.toList
    rw [hn, ext_drop] at this
    simp at this
    omega
  have hlei : (1 : Int) + (n : Int) ≤ (s.size : Int) := by omega
  have h2i : (1 : Int) < (s.size : Int) := by omega
  have hd : decide ((9 : Int) < (n : Int)) = false := by simp; omega
  have hd0 : ((n : Int) == 0) = false := by simp; omega
  have HNum : Hid (∀ W : World, Calls Tryz.prog 131 #[.string (s.extract 1 (1 + n)), .int .i64 10] W fun e w' => e = .returned (.int .i64 v) ∧ Below W.heap.size W w') := fun W => number10_any _ v W (by rw [ByteArray.size_extract]; omega) hv
  clear hv
  go_enter Tryz.func90, Tryz.ntmps90
  go_wp2_with (first | (go_at_call 85; refine (span_digit _ _ (by rw [ext_size]; omega)).mono ?_; rintro e w' ⟨rfl, rfl⟩; rw [hn]))
  refine (HNum.out _).mono ?_
  rintro e w2 ⟨rfl, hb2⟩
  have HT2 := (TB.new w 0 0 0 0 ⟨#[]⟩ 0).below hb2 (by simp)
  have HB2 : Below w.heap.size w w2 := ((Below.refl _ w).alloc (Nat.le_refl _) _).trans (hb2.mono (by simp))
  obtain ⟨c0, c1, c2, c3, c4, c5⟩ := HT2.cells
  obtain ⟨f0, f1, f2, f3, f4, f5⟩ := HT2.frozen
  clear hb2
  go_wp2
  exact ret_tk rfl rfl rfl (HT2.set 3 0 (1 + n) 0 ⟨#[]⟩ v) ⟨rfl, below_set6 HB2 (Nat.le_refl _) _ _ _ _ _ _⟩
end Go.Proofs
