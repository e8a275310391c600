/-
  begun does what the plain function below says.
-/
import Derived.RangeFuncNested
import Derived.RangeFuncBound
import Derived.RangeFuncCalls
import Derived.RangeFuncLeaves
import Derived.Shelf.Abstract
import Derived.Shelf.RegionOpen
import Derived.WalkKit
import Derived.WalkSpells
import Derived.WalkLawsBesides
import Derived.OwnWalkIn
import Derived.TacticsInMore
import Derived.LoopNIn
import Derived.LoopIn
import Derived.BigQuiet
import Derived.RegionIn
import Derived.Deep.QuietTactic
import Derived.Lib.OthersKept
import Derived.Lib.IndexBytes
import Derived.Lib.ConvBytes
import Derived.Test.YtahifnjompmcbaaDoorUc
namespace Go.Proofs
open Go.RowKit Go.Shelf

set_option maxRecDepth 100000
attribute [local go_sem] Oper.semAt_some
/-! begun -/
theorem w64b (b : UInt8) : wrap64 (b.toNat : Int) = (b.toNat : Int) := by
  have := b.toNat_lt
  rw [← IntWalk.i64_left]; exact IntWalk.i64_in _ (by omega)
set_option maxHeartbeats 1000000 in
theorem begun_long (h : ByteArray) (lead width lo hi : Int) (w : World) (_hs : h.size ≤ 3) (hw : width ≤ h.size) :
    Calls Tryd.prog 37 #[.string h, .agg #[.int .i64 lead, .int .i64 width, .int .i64 lo, .int .i64 hi]] w fun e w' => e = .returned (.tuple #[.int .i64 1, .int .i64 0]) ∧ Below w.heap.size w w' := by
  have hg : decide (width ≤ (h.size : Int)) = true := by simp; omega
  go_enter Tryd.func37, Tryd.ntmps37
  go_wp2_with fail
  go_quiet (fail)
  go_wp2
  go_ret2
  exact ⟨rfl, below_drewN ((Below.refl _ _).alloc (Nat.le_refl _) _) _⟩
set_option maxHeartbeats 1000000 in
theorem begun_low (h : ByteArray) (lead width lo hi : Int) (w : World) (h1 : 0 < h.size) (_hs : h.size ≤ 3) (hw : (h.size : Int) < width) (hl : (h[0].toNat : Int) < lead) :
    Calls Tryd.prog 37 #[.string h, .agg #[.int .i64 lead, .int .i64 width, .int .i64 lo, .int .i64 hi]] w fun e w' => e = .returned (.tuple #[.int .i64 1, .int .i64 0]) ∧ Below w.heap.size w w' := by
  have hg : decide (width ≤ (h.size : Int)) = false := by simp; omega
  have hi0 : (0 : Int) < (h.size : Int) := by omega
  have hb := w64b h[0]
  have hd : decide ((h[0].toNat : Int) < lead) = true := by simpa using hl
  go_enter Tryd.func37, Tryd.ntmps37
  go_wp2_with fail
  go_quiet (fail)
  go_wp2
  go_ret2
  exact ⟨rfl, below_drewN ((Below.refl _ _).alloc (Nat.le_refl _) _) _⟩
/-- what the bytes of a list add to bits, or nothing, where one of them begins a rune -/
def fold6 : List UInt8 → Nat → Option Nat
  | [], b => some b
  | c :: l, b => if c.toNat / 64 = 2 then fold6 l (b * 64 + c.toNat % 64) else none
def bgn (h : ByteArray) (lead width lo hi : Int) : Int × Int :=
  if width ≤ h.size ∨ ((h.get! 0).toNat : Int) < lead then (1, 0) else
  match fold6 (h.data.toList.drop 1) (((h.get! 0).toNat : Int) - lead).toNat with
  | none => (1, 0)
  | some b => (max lo ((b : Int) * 2 ^ (6 * (width - h.size)).toNat), min hi (((b : Int) + 1) * 2 ^ (6 * (width - h.size)).toNat - 1))
def BRow (w : World) (t : ByteArray) (lead width lo hi : Int) (W : World) : Prop := (∀ j, j < t.size → W.cell? ⟨w.heap.size + 1, j, none⟩ = some (.int .u8 (t.data.toList.getD j 0).toNat)) ∧ (W.cell? ⟨w.heap.size, 0, none⟩ = some (.int .i64 lead) ∧ W.cell? ⟨w.heap.size, 1, none⟩ = some (.int .i64 width) ∧ W.cell? ⟨w.heap.size, 2, none⟩ = some (.int .i64 lo) ∧ W.cell? ⟨w.heap.size, 3, none⟩ = some (.int .i64 hi)) ∧ Below w.heap.size w W
theorem brow_start (w : World) (t : ByteArray) (lead width lo hi : Int) (n : Nat) : BRow w t lead width lo hi (Lib.bytesWorld ((w.alloc (.cells #[.int .i64 lead, .int .i64 width, .int .i64 lo, .int .i64 hi] 51)).drewN n) 5 t) := by
  have hz : ((w.alloc (.cells #[.int .i64 lead, .int .i64 width, .int .i64 lo, .int .i64 hi] 51)).drewN n).heap.size = w.heap.size + 1 := by rw [show ((w.alloc (.cells #[.int .i64 lead, .int .i64 width, .int .i64 lo, .int .i64 hi] 51)).drewN n).heap = (w.alloc (.cells #[.int .i64 lead, .int .i64 width, .int .i64 lo, .int .i64 hi] 51)).heap from rfl, World.size_alloc]
  refine ⟨fun j hj => ?_, ⟨?_, ?_, ?_, ?_⟩, ?_⟩
  · rw [← hz]; exact Lib.bytesWorld_cell _ _ _ _ hj
  · rw [Lib.bytesWorld_old _ _ _ _ (by simp only [hz]; omega)]; simp
  · rw [Lib.bytesWorld_old _ _ _ _ (by simp only [hz]; omega)]; simp
  · rw [Lib.bytesWorld_old _ _ _ _ (by simp only [hz]; omega)]; simp
  · rw [Lib.bytesWorld_old _ _ _ _ (by simp only [hz]; omega)]; simp
  · refine (below_drewN ((Below.refl _ w).alloc (Nat.le_refl _) _) n).trans ⟨rfl, rfl, rfl, ?_, fun k hk => Lib.bytesWorld_at_old _ _ _ _ (by rw [hz]; omega)⟩
    rw [Lib.bytesWorld_size]; omega
theorem rs_at (c : UInt8) (b : Bool) (h : (c.toNat / 64 != 2) = b) (w : World) : Calls Tryd.prog 48 #[.int .u8 c.toNat] w fun e w' => e = .returned (.bool b) ∧ w' = w := by
  have hc := c.toNat_lt
  have k := Tryd.utf8_RuneStart c.toNat w (by omega) (by omega)
  have e : Lib.runeStart (c.toNat : Int) = b := by
    rw [← h]; unfold Lib.runeStart
    rw [Bool.eq_iff_iff, bne_iff_ne, bne_iff_ne]; omega
  rw [e] at k
  exact k
theorem i64_or_nat (a b : Nat) (ha : a < 1152921504606846976) (hb : b < 1152921504606846976) : bits BinOp.or IntKind.i64 (a : Int) (b : Int) = ((a ||| b : Nat) : Int) := by
  show IntKind.i64.wrap ((BitVec.ofInt 64 (a : Int) ||| BitVec.ofInt 64 (b : Int)).toNat : Int) = _
  have e : ∀ x : Nat, x < 1152921504606846976 → (BitVec.ofInt 64 (x : Int)).toNat = x := fun x hx => by rw [BitVec.toNat_ofInt]; omega
  rw [BitVec.toNat_or, e a ha, e b hb]
  have hlt : a ||| b < 2 ^ 60 := Nat.or_lt_two_pow (by omega) (by omega)
  exact IntWalk.i64_in _ (by omega)
theorem or6 (b c : Nat) (hb : b < 1048576) (hc : c < 64) : bits BinOp.or IntKind.i64 ((b : Int) * 64) (c : Int) = ((b * 64 + c : Nat) : Int) := by
  have e := i64_or_nat (b * 64) c (by omega) (by omega)
  have e2 : b * 64 ||| c = b * 64 + c := by
    rw [show b * 64 = 2 ^ 6 * b by omega]
    rw [← Nat.two_pow_add_eq_or_of_lt (by omega) b]
  rw [e2] at e
  rw [← e]; push_cast; rfl
theorem bgn_none {h : ByteArray} {lead width lo hi : Int} {t : ByteArray} {b0 : Nat} (h1 : 0 < h.size) (ht : h.extract 1 h.size = t) (hb : (h[0].toNat : Int) - lead = b0) (hf : fold6 t.data.toList b0 = none) : bgn h lead width lo hi = (1, 0) := by
  unfold bgn
  rw [get_bang h 0 h1, hb]
  have : h.data.toList.drop 1 = t.data.toList := by rw [← ht, Lib.extract_to_end]
  rw [this, show ((b0 : Nat) : Int).toNat = b0 from rfl, hf]
  split <;> rfl
theorem bgn_some {h : ByteArray} {lead width lo hi : Int} {t : ByteArray} {b0 b : Nat} (h1 : 0 < h.size) (hw : (h.size : Int) < width) (hl : lead ≤ h[0].toNat) (ht : h.extract 1 h.size = t) (hb : (h[0].toNat : Int) - lead = b0) (hf : fold6 t.data.toList b0 = some b) :
    bgn h lead width lo hi = (max lo ((b : Int) * 2 ^ (6 * (width - h.size)).toNat), min hi (((b : Int) + 1) * 2 ^ (6 * (width - h.size)).toNat - 1)) := by
  unfold bgn
  rw [get_bang h 0 h1, hb]
  have : h.data.toList.drop 1 = t.data.toList := by rw [← ht, Lib.extract_to_end]
  rw [this, show ((b0 : Nat) : Int).toNat = b0 from rfl, hf, if_neg (by omega)]
set_option maxHeartbeats 1000000 in
theorem begun_rest (h : ByteArray) (lead width lo hi : Int) (w : World) (h1 : 0 < h.size) (hs : h.size ≤ 3) (hw : (h.size : Int) < width) (hw4 : width ≤ 4) (hl0 : 0 ≤ lead) (hl : lead ≤ h[0].toNat) :
    Calls Tryd.prog 37 #[.string h, .agg #[.int .i64 lead, .int .i64 width, .int .i64 lo, .int .i64 hi]] w fun e w' => e = .returned (.tuple #[.int .i64 (bgn h lead width lo hi).1, .int .i64 (bgn h lead width lo hi).2]) ∧ Below w.heap.size w w' := by
  have hg : decide (width ≤ (h.size : Int)) = false := by simp; omega
  have hi0 : (0 : Int) < (h.size : Int) := by omega
  obtain ⟨t, ht⟩ : ∃ t, h.extract 1 h.size = t := ⟨_, rfl⟩
  have htz : t.size = h.size - 1 := by rw [← ht]; simp [ByteArray.size_extract]
  have HZ : Hid (t.size = h.size - 1) := htz
  have ht2 : t.size ≤ 2 := by omega
  clear htz
  obtain ⟨b0, hb0⟩ : ∃ b0 : Nat, (h[0].toNat : Int) - lead = b0 := ⟨((h[0].toNat : Int) - lead).toNat, by omega⟩
  have hb := w64b h[0]
  have hb8 : (h[0].toNat : Int) < 256 := by have := h[0].toNat_lt; omega
  have hd : decide ((h[0].toNat : Int) < lead) = false := by simp; omega
  go_enter Tryd.func37, Tryd.ntmps37
  go_wp2_with fail
  go_quiet (fail)
  go_wp2_with fail
  go_quiet (fail)
  have hcv := fun W => Lib.run_convert_string_bytes (P := Tryd.prog) W 9 56 5 t (u := .string) Tryd.underlying9 Tryd.underlying56 Tryd.underlying5
  go_wp2_with fail
  go_loopw [6, 8, 33] (fun vb _ vi wr => ∃ (k b : Nat), vb = .int .i64 b ∧ vi = .int .i64 k ∧ k ≤ t.size ∧ b < 1048576 ∧ (k ≤ 1 → b < 16384) ∧ (k = 0 → b < 256) ∧ Hid (fold6 (t.data.toList.drop k) b = fold6 t.data.toList b0) ∧ BRow w t lead width lo hi wr) (fun _ _ vi _ => t.size - (intOf vi).toNat)
  case atStart =>
    exact ⟨0, b0, rfl, rfl, Nat.zero_le _, by omega, fun _ => by omega, fun _ => by omega, rfl, brow_start _ _ _ _ _ _ _⟩
  case round =>
    obtain ⟨k, b, rfl, rfl, hk, hc0, hc1, hc2, hf, hr⟩ := hrel
    by_cases hkn : k < t.size
    · have hc := hr.1 k hkn
      have hLn : t.data.toList.length = t.size := by simp
      have hdrop : t.data.toList.drop k = t.data.toList.getD k 0 :: t.data.toList.drop (k + 1) := by
        rw [List.drop_eq_getElem_cons (by omega)]; simp [List.getD, List.getElem?_eq_getElem (show k < t.data.toList.length by omega)]
      have hf1 := hf.out
      rw [hdrop] at hf1
      clear hf hdrop hLn
      generalize t.data.toList.getD k 0 = c at hc hf1
      have hc256 : (c.toNat : Int) < 256 := by have := c.toNat_lt; omega
      cases hrs : (c.toNat / 64 != 2) with
      | true =>
        have HR : Hid ((c.toNat / 64 != 2) = true) := hrs
        have hF : Hid (fold6 t.data.toList b0 = none) := by rw [bne_iff_ne] at hrs; show fold6 t.data.toList b0 = none; rw [← hf1]; simp [fold6, hrs]
        clear hrs hf1
        have hBW := hr.2.2
        clear hr
        go_wp2_with (go_at_call 48; refine (rs_at c _ HR.out _).mono ?_; rintro e w' ⟨rfl, rfl⟩)
        go_ret2
        have e := bgn_none (width := width) (lo := lo) (hi := hi) h1 ht hb0 hF.out
        exact ⟨by rw [e]; rfl, hBW⟩
      | false =>
        have HR : Hid ((c.toNat / 64 != 2) = false) := hrs
        have hF : Hid (fold6 (t.data.toList.drop (k + 1)) (b * 64 + c.toNat % 64) = fold6 t.data.toList b0) := by
          have : c.toNat / 64 = 2 := by simpa using hrs
          show fold6 (t.data.toList.drop (k + 1)) (b * 64 + c.toNat % 64) = fold6 t.data.toList b0
          rw [← hf1]; simp [fold6, this]
        clear hrs hf1
        go_wp2_with (go_at_call 48; refine (rs_at c _ HR.out _).mono ?_; rintro e w' ⟨rfl, rfl⟩)
        have hor := or6 b (c.toNat % 64) hc0 (Nat.mod_lt _ (by omega))
        have hlt : b * 64 + c.toNat % 64 < 1048576 ∧ (k + 1 ≤ 1 → b * 64 + c.toNat % 64 < 16384) := by
          have := Nat.mod_lt c.toNat (show 64 > 0 by omega)
          by_cases k0 : k = 0
          · have := hc2 k0; omega
          · have := hc1 (by omega); omega
        refine ⟨⟨k + 1, b * 64 + c.toNat % 64, ?_, by go_num, by omega, hlt.1, hlt.2, by omega, hF, hr⟩, by simp [intOf]; omega⟩
        rw [← hor]; push_cast; rfl
    · obtain rfl : k = t.size := by omega
      have hF : Hid (fold6 t.data.toList b0 = some b) := by
        show fold6 t.data.toList b0 = some b
        rw [← hf.out, List.drop_of_length_le (by simp)]; rfl
      obtain ⟨hr1, ⟨r0, r1, r2, r3⟩, hBW⟩ := hr
      clear hf hr1 hcv
      obtain ⟨q, hq⟩ : ∃ q : Int, 6 * (width - h.size) = q := ⟨_, rfl⟩
      have e := bgn_some (lo := lo) (hi := hi) h1 hw hl ht hb0 hF.out
      rw [hq] at e
      have E : Hid (bgn h lead width lo hi = (max lo ((b : Int) * 2 ^ q.toNat), min hi (((b : Int) + 1) * 2 ^ q.toNat - 1))) := e
      clear e
      have hq3 : q = 6 ∨ q = 12 ∨ q = 18 := by omega
      rcases hq3 with rfl | rfl | rfl
      all_goals
        go_wp2_with fail
        go_quiet (fail)
        go_wp2
        go_ret2
        exact ⟨by rw [E.out]; rfl, below_drewN hBW _⟩
theorem begun_any (h : ByteArray) (lead width lo hi : Int) (w : World) (h1 : 0 < h.size) (hs : h.size ≤ 3) (hw4 : width ≤ 4) (hl0 : 0 ≤ lead) :
    Calls Tryd.prog 37 #[.string h, .agg #[.int .i64 lead, .int .i64 width, .int .i64 lo, .int .i64 hi]] w fun e w' => e = .returned (.tuple #[.int .i64 (bgn h lead width lo hi).1, .int .i64 (bgn h lead width lo hi).2]) ∧ Below w.heap.size w w' := by
  by_cases a : width ≤ h.size
  · rw [show bgn h lead width lo hi = (1, 0) by unfold bgn; rw [if_pos (.inl a)]]
    exact begun_long h lead width lo hi w hs a
  · by_cases b : (h[0].toNat : Int) < lead
    · rw [show bgn h lead width lo hi = (1, 0) by unfold bgn; rw [if_pos (.inr (by rw [get_bang h 0 h1]; exact b))]]
      exact begun_low h lead width lo hi w h1 hs (by omega) b
    · exact begun_rest h lead width lo hi w h1 hs (by omega) hw4 hl0 (by omega)
end Go.Proofs
