/-
  Several texts in one (Kb Kc).
-/
import Derived.RangeFuncNested
import Derived.RangeFuncBound
import Derived.RangeFuncCalls
import Derived.RangeFuncLeaves
import Derived.Shelf.Abstract
import Derived.Shelf.RegionOpen
import Derived.WalkKit
import Derived.WalkSpells
import Derived.WalkLawsBesides
import Derived.OwnWalkIn
import Derived.TacticsInMore
import Derived.LoopNIn
import Derived.LoopIn
import Derived.BigQuiet
import Derived.RegionIn
import Derived.Deep.QuietTactic
import Derived.Deep.RegionWith
import Derived.Lib.OthersKept
import Derived.Maps.AppendAt
import Derived.Lib.SmallJoins
import Derived.Shelf.SlSortCmp.QuietGrown
import Derived.ArgAppend
import Derived.Below
import Derived.Deep.LoopGhost
import Derived.Laws.CopyOwn
import Derived.Laws.MakeOwn
import Derived.Lib.AppendStr
import Derived.Lib.ConvBytes
import Derived.Lib.IndexBytes
import Derived.Lib.ParseIntB
import Derived.RangeFuncBox
import Derived.WalkMore
import Derived.Shelf.Small.Utf8
import Derived.Test.YtkijbaofhodplaaDoorMgr
namespace Go.Proofs
open Go.RowKit Go.Shelf

set_option maxRecDepth 100000
attribute [local go_sem] Oper.semAt_some
attribute [local go_sem ↓] Go.wp_at_zero Go.wp_at_succ
theorem fuel (s : ByteArray) : ∀ k k' q, s.size ≤ q + k → s.size ≤ q + k' → unitsN s k q = unitsN s k' q
  | 0, k', q, h, _ => by rw [unitsN_end s 0 q (by omega), unitsN_end s k' q (by omega)]
  | k + 1, 0, q, _, h => by rw [unitsN_end s _ q (by omega), unitsN_end s 0 q (by omega)]
  | k + 1, k' + 1, q, h, h' => by
    by_cases hq : q < s.size
    · have := uw_pos s q
      rw [unitsN_step s k q hq, unitsN_step s k' q hq, fuel s k k' (q + uw s q) (by omega) (by omega)]
    · rw [unitsN_end s _ q hq, unitsN_end s _ q hq]
theorem w64b (b : UInt8) : wrap64 (b.toNat : Int) = (b.toNat : Int) := by
  have := b.toNat_lt
  rw [← IntWalk.i64_left]; exact IntWalk.i64_in _ (by omega)
def flat (l : List (Nat × Nat)) : List Value := l.flatMap fun x => [Value.int .i64 (x.1 : Int), Value.int .i64 (x.2 : Int)]
theorem info3 : (Tryd.prog.info? 3).map (fun i => (i.zero, i.size, i.bytes)) = some (some (.int .i64 0), 1, 8) := by kernel_rfl
/-- a slice value that reads as these integers -/
def Ints (w : World) (v : Value) (xs : List Int) : Prop :=
  ∃ (a : Option Addr) (cap : Nat), v = .slice a xs.length cap ∧ (xs = [] ∨ ∃ g o, a = some ⟨g, o, none⟩ ∧ ∀ j, j < xs.length → w.cell? ⟨g, o + j, none⟩ = some (.int .i64 (xs[j]?.getD 0)))
theorem Ints.below {w w' : World} {n : Nat} {v : Value} {xs : List Int} (h : Ints w v xs) (hb : Below n w w') (hn : w.heap.size ≤ n) : Ints w' v xs := by
  obtain ⟨a, cap, rfl, h | ⟨g, o, rfl, hc⟩⟩ := h
  · exact ⟨a, cap, rfl, .inl h⟩
  · refine ⟨_, cap, rfl, .inr ⟨g, o, rfl, fun j hj => ?_⟩⟩
    obtain ⟨ob, ho, _⟩ := cells_of_cell (hc j hj)
    have : g < w.heap.size := (Array.getElem?_eq_some_iff.1 ho).1
    exact (hb.cell (p := ⟨g, o + j, none⟩) (show g < n by omega)).trans (hc j hj)
theorem Ints.of_row {w : World} {base : Nat} {v : Value} {xs : List Int} (h : w.ownsRow base 3 1 v xs.length (xs.map (Value.int .i64))) : Ints w v xs := by
  rcases Joins.ownsRow_forms h with ⟨rfl, h0⟩ | ⟨g, cap, rfl⟩
  · obtain rfl : xs = [] := List.eq_nil_of_length_eq_zero h0
    exact ⟨none, 0, rfl, .inl rfl⟩
  · refine ⟨_, cap, rfl, .inr ⟨g, 0, rfl, fun j hj => ?_⟩⟩
    rw [Nat.zero_add, h.cellAt j (by omega)]
    simp [hj]
def low (c : Nat) : Nat → List UInt8
  | 0 => []
  | k + 1 => UInt8.ofNat (128 + c / 64 ^ k % 64) :: low c k
def bc (l : List UInt8) : List Value := l.map fun b => .int .u8 (b.toNat : Int)
theorem low_length (c k : Nat) : (low c k).length = k := by induction k with | zero => rfl | succ k ih => simp [low, ih]
theorem bc_low_succ (c k x : Nat) (h : x = c / 64 ^ k) : [Value.int .u8 (128 + (x : Int) % 64)] ++ bc (low c k) = bc (low c (k + 1)) := by
  have e : low c (k + 1) = UInt8.ofNat (128 + c / 64 ^ k % 64) :: low c k := rfl
  have e2 : bc (low c (k + 1)) = Value.int .u8 (((UInt8.ofNat (128 + c / 64 ^ k % 64)).toNat : Nat) : Int) :: bc (low c k) := by rw [e]; rfl
  rw [e2, b8 _ (by omega), ← h, List.singleton_append]
  congr 1
def bspec (first : Int) (c n : Nat) : List Value := Value.int .u8 (first + ((c / 64 ^ (n - 1) : Nat) : Int)) :: bc (low c (n - 1))
theorem bspec_of {first : Int} {c n k x : Nat} (hk : n - 1 = k) (hx : x = c / 64 ^ k) : [Value.int .u8 (first + (x : Int))] ++ bc (low c k) = bspec first c n := by
  unfold bspec; rw [hk, hx]; rfl
theorem info51 : (Tryd.prog.info? 5).map (fun i => (i.zero, i.size, i.bytes)) = some (some (.int .u8 0), 1, 1) := by kernel_rfl
set_option maxHeartbeats 2000000 in
theorem bytes_many (c n : Nat) (first : Int) (w : World) (hw : wd c = n) (hn : (n = 2 ∧ first = 192) ∨ (n = 3 ∧ first = 224) ∨ (n = 4 ∧ first = 240)) (hc : c < 1114112) (hx : first + ((c / 64 ^ (n - 1) : Nat) : Int) < 256) :
    Calls Tryd.prog 92 #[.int .i64 c] w fun e w' => ∃ v, e = .returned v ∧ w'.ownsRow w.heap.size 5 1 v n (bspec first c n) ∧ Below w.heap.size w w' := by
  obtain ⟨i0, hi, hz0, hz1, hz2⟩ := info_parts info51
  have hwd : ∀ W : World, Calls Tryd.prog 21 #[.int .i64 c] W fun e w' => e = .returned (.int .i64 n) ∧ w' = W := fun W => by have := rwidth_any c W; rw [hw] at this; exact this
  have HC : Hid (∀ W : World, Calls Tryd.prog 21 #[.int .i64 c] W fun e w' => e = .returned (.int .i64 n) ∧ w' = W) := hwd
  have hn2 : 2 ≤ n ∧ n ≤ 4 := by omega
  obtain ⟨hn2, hn4⟩ := hn2
  have e0 : ((n : Int) == 0) = false := by simp; omega
  have e1 : ((n : Int) == 1) = false := by simp; omega
  have e2 : decide (1114112 ≤ (c : Int)) = false := by simp; omega
  clear hwd hw
  go_enter Tryd.func92, Tryd.ntmps92
  go_wp2_with (go_at_call 21; refine (HC.out _).mono ?_; rintro e w' ⟨rfl, rfl⟩)
  go_loopw [0, 4, 5] (fun vu vo vi wr => ∃ (k x g cap : Nat), vu = .int .i64 x ∧ vo = .slice (some ⟨g, 0, none⟩) k cap ∧ vi = .int .i64 ((k : Int) + 1) ∧ k + 1 ≤ n ∧ Hid (x = c / 64 ^ k) ∧ x < 1114112 ∧ wr.ownsRow w'.heap.size 5 1 (.slice (some ⟨g, 0, none⟩) k cap) k (bc (low c k)) ∧ Below w'.heap.size w' wr) (fun _ _ vi _ => n - (intOf vi).toNat)
  case atStart =>
    exact ⟨0, c, _, _, rfl, rfl, rfl, by omega, by simp [Hid], hc, World.ownsRow_lit _ #[] 0 (Nat.le_refl _) (by unfold maxLen; omega) rfl, (Below.refl _ _).alloc (Nat.le_refl _) _⟩
  case round =>
    obtain ⟨k, x, g, cap, rfl, rfl, rfl, hk, hX, hx0, hown, hb⟩ := hrel
    by_cases hlt : k + 1 < n
    · have hz := hb.size
      have hxi : (x : Int) < 1114112 := by omega
      have hlt' : (k : Int) + 1 < (n : Int) := by omega
      have hlow : (bc (low c k)).length = k := by simp [bc, low_length]
      go_wp2_with (at_builtin; go_must (refine wpList_append_own _ rfl _ _ 132 rfl w'.heap.size 5 i0 (.int .u8 0) 1 1 Tryd.underlying132 hi hz0 hz1 hz2 rfl (by decide) _ _ _ rfl (World.ownsRow_lit wr #[.int .u8 (128 + (x : Int) % 64)] 1 hz (by unfold maxLen; omega) rfl) ⟨g, 0, none⟩ k cap (bc (low c k)) rfl (by rw [hlow]; omega) (fun j u hu => (hown.alloc _).cells rfl j u hu) (by intro u hu; simp [bc] at hu; obtain ⟨b, _, rfl⟩ := hu; rfl) (by unfold maxLen; omega) (by omega) (by simp; omega) ?_); intro v' w1 hown' hgrow _)
      rw [show 1 + k = k + 1 by omega, bc_low_succ c k x hX.out] at hown'
      obtain ⟨g', cap', rfl⟩ := ownsRow_succ hown'
      have hdiv : x / 64 = c / 64 ^ (k + 1) := by rw [hX.out, Nat.div_div_eq_div_mul, Nat.pow_succ]
      exact ⟨⟨k + 1, x / 64, g', cap', by go_num, rfl, by go_num, by omega, hdiv, by omega, hown', (hb.alloc hz _).grown hgrow (by simp; omega) (fun j e => by cases e; exact hz)⟩, by simp [intOf]; omega⟩
    · have hkn : k + 1 = n := by omega
      have hz := hb.size
      have hlow : (bc (low c k)).length = k := by simp [bc, low_length]
      have hk1 : n - 1 = k := by omega
      rw [hk1, ← hX.out] at hx
      have HK : Hid (n - 1 = k) := hk1
      clear hk1
      have hge : ¬ ((k : Int) + 1 < (n : Int)) := by omega
      rcases hn with ⟨rfl, rfl⟩ | ⟨rfl, rfl⟩ | ⟨rfl, rfl⟩
      · have hlit := World.ownsRow_lit (base := w'.heap.size) (e := 5) (size := 1) (wr.alloc (.cells #[.int .i64 0, .int .i64 0, .int .i64 192, .int .i64 224, .int .i64 240] 3)) #[.int .u8 (192 + (x : Int))] 1 (by rw [World.size_alloc]; omega) (by unfold maxLen; omega) rfl
        rw [World.size_alloc] at hlit
        go_wp2_with (at_builtin; go_must (refine wpList_append_own _ rfl _ _ 132 rfl w'.heap.size 5 i0 (.int .u8 0) 1 1 Tryd.underlying132 hi hz0 hz1 hz2 rfl (by decide) _ _ _ rfl hlit ⟨g, 0, none⟩ k cap (bc (low c k)) rfl (by rw [hlow]; omega) (fun j u hu => ((hown.alloc _).alloc _).cells rfl j u hu) (by intro u hu; simp [bc] at hu; obtain ⟨b, _, rfl⟩ := hu; rfl) (by unfold maxLen; omega) (by omega) (by rw [World.size_alloc, World.size_alloc]; omega) ?_); intro v' w1 hown' hgrow _)
        go_ret
        rw [show 1 + k = 2 by omega] at hown'
        have hsp := bspec_of (first := 192) HK.out hX.out
        rw [← hsp]
        exact ⟨v', rfl, hown', ((hb.alloc hz _).alloc (by rw [World.size_alloc]; omega) _).grown hgrow (by rw [World.size_alloc, World.size_alloc]; omega) (fun j e => by cases e; show _ ≤ wr.heap.size + 1; omega)⟩
      · have hlit := World.ownsRow_lit (base := w'.heap.size) (e := 5) (size := 1) (wr.alloc (.cells #[.int .i64 0, .int .i64 0, .int .i64 192, .int .i64 224, .int .i64 240] 3)) #[.int .u8 (224 + (x : Int))] 1 (by rw [World.size_alloc]; omega) (by unfold maxLen; omega) rfl
        rw [World.size_alloc] at hlit
        go_wp2_with (at_builtin; go_must (refine wpList_append_own _ rfl _ _ 132 rfl w'.heap.size 5 i0 (.int .u8 0) 1 1 Tryd.underlying132 hi hz0 hz1 hz2 rfl (by decide) _ _ _ rfl hlit ⟨g, 0, none⟩ k cap (bc (low c k)) rfl (by rw [hlow]; omega) (fun j u hu => ((hown.alloc _).alloc _).cells rfl j u hu) (by intro u hu; simp [bc] at hu; obtain ⟨b, _, rfl⟩ := hu; rfl) (by unfold maxLen; omega) (by omega) (by rw [World.size_alloc, World.size_alloc]; omega) ?_); intro v' w1 hown' hgrow _)
        go_ret
        rw [show 1 + k = 3 by omega] at hown'
        have hsp := bspec_of (first := 224) HK.out hX.out
        rw [← hsp]
        exact ⟨v', rfl, hown', ((hb.alloc hz _).alloc (by rw [World.size_alloc]; omega) _).grown hgrow (by rw [World.size_alloc, World.size_alloc]; omega) (fun j e => by cases e; show _ ≤ wr.heap.size + 1; omega)⟩
      · have hlit := World.ownsRow_lit (base := w'.heap.size) (e := 5) (size := 1) (wr.alloc (.cells #[.int .i64 0, .int .i64 0, .int .i64 192, .int .i64 224, .int .i64 240] 3)) #[.int .u8 (240 + (x : Int))] 1 (by rw [World.size_alloc]; omega) (by unfold maxLen; omega) rfl
        rw [World.size_alloc] at hlit
        go_wp2_with (at_builtin; go_must (refine wpList_append_own _ rfl _ _ 132 rfl w'.heap.size 5 i0 (.int .u8 0) 1 1 Tryd.underlying132 hi hz0 hz1 hz2 rfl (by decide) _ _ _ rfl hlit ⟨g, 0, none⟩ k cap (bc (low c k)) rfl (by rw [hlow]; omega) (fun j u hu => ((hown.alloc _).alloc _).cells rfl j u hu) (by intro u hu; simp [bc] at hu; obtain ⟨b, _, rfl⟩ := hu; rfl) (by unfold maxLen; omega) (by omega) (by rw [World.size_alloc, World.size_alloc]; omega) ?_); intro v' w1 hown' hgrow _)
        go_ret
        rw [show 1 + k = 4 by omega] at hown'
        have hsp := bspec_of (first := 240) HK.out hX.out
        rw [← hsp]
        exact ⟨v', rfl, hown', ((hb.alloc hz _).alloc (by rw [World.size_alloc]; omega) _).grown hgrow (by rw [World.size_alloc, World.size_alloc]; omega) (fun j e => by cases e; show _ ≤ wr.heap.size + 1; omega)⟩

set_option maxHeartbeats 1000000 in
theorem bytes_none (u : Int) (w : World) (hw : wd u = 0) : Calls Tryd.prog 92 #[.int .i64 u] w fun e w' => e = .returned (.slice none 0 0) ∧ w' = w := by
  have hwd : ∀ W : World, Calls Tryd.prog 21 #[.int .i64 u] W fun e w' => e = .returned (.int .i64 0) ∧ w' = W := fun W => by have := rwidth_any u W; rw [hw] at this; exact this
  have HC : Hid (∀ W : World, Calls Tryd.prog 21 #[.int .i64 u] W fun e w' => e = .returned (.int .i64 0) ∧ w' = W) := hwd
  clear hwd hw
  go_enter Tryd.func92, Tryd.ntmps92
  go_wp2_with (go_at_call 21; refine (HC.out _).mono ?_; rintro e w' ⟨rfl, rfl⟩)
  go_ret
  exact ⟨rfl, rfl⟩
set_option maxHeartbeats 1000000 in
theorem bytes_stray (u : Int) (w : World) (h0 : 1114240 ≤ u) (h1 : u ≤ 1114367) : Calls Tryd.prog 92 #[.int .i64 u] w fun e w' => e = .returned (.slice (some ⟨w.heap.size, 0, none⟩) 1 1) ∧ w' = w.alloc (.cells #[.int .u8 (u - 1114112)] 5) := by
  have hwd : ∀ W : World, Calls Tryd.prog 21 #[.int .i64 u] W fun e w' => e = .returned (.int .i64 1) ∧ w' = W := fun W => by have := rwidth_any u W; rw [wd_stray ⟨h0, h1⟩] at this; exact this
  have HC : Hid (∀ W : World, Calls Tryd.prog 21 #[.int .i64 u] W fun e w' => e = .returned (.int .i64 1) ∧ w' = W) := hwd
  clear hwd
  go_enter Tryd.func92, Tryd.ntmps92
  go_wp2_with (go_at_call 21; refine (HC.out _).mono ?_; rintro e w' ⟨rfl, rfl⟩)
  go_ret
  exact ⟨rfl, rfl⟩
set_option maxHeartbeats 1000000 in
theorem bytes_ascii (u : Int) (w : World) (h0 : 0 ≤ u) (h1 : u ≤ 127) : Calls Tryd.prog 92 #[.int .i64 u] w fun e w' => e = .returned (.slice (some ⟨w.heap.size, 0, none⟩) 1 1) ∧ w' = w.alloc (.cells #[.int .u8 u] 5) := by
  have hwd : ∀ W : World, Calls Tryd.prog 21 #[.int .i64 u] W fun e w' => e = .returned (.int .i64 1) ∧ w' = W := fun W => by have := rwidth_any u W; rw [show wd u = 1 by unfold wd Lib.runeLen; repeat' split <;> omega] at this; exact this
  have HC : Hid (∀ W : World, Calls Tryd.prog 21 #[.int .i64 u] W fun e w' => e = .returned (.int .i64 1) ∧ w' = W) := hwd
  clear hwd
  go_enter Tryd.func92, Tryd.ntmps92
  go_wp2_with (go_at_call 21; refine (HC.out _).mono ?_; rintro e w' ⟨rfl, rfl⟩)
  go_ret
  exact ⟨rfl, rfl⟩
theorem bc_cons (n : Nat) (l : List UInt8) (h : n < 256) : bc (UInt8.ofNat n :: l) = Value.int .u8 (n : Int) :: bc l := by
  show Value.int .u8 (((UInt8.ofNat n).toNat : Nat) : Int) :: bc l = _
  rw [b8 n h]
/-- the reference's bytes are the unit's -/
theorem bytes_any (u : Int) (w : World) : Calls Tryd.prog 92 #[.int .i64 u] w fun e w' => ∃ v, e = .returned v ∧ w'.ownsRow w.heap.size 5 1 v (put u).size (bc (put u).data.toList) ∧ Below w.heap.size w w' := by
  by_cases a : 1114240 ≤ u ∧ u ≤ 1114367
  · refine (bytes_stray u w a.1 a.2).mono ?_
    rintro e w' ⟨rfl, rfl⟩
    rw [put_stray a]
    have hl := World.ownsRow_lit (base := w.heap.size) (e := 5) (size := 1) w #[.int .u8 (u - 1114112)] 1 (Nat.le_refl _) (by unfold maxLen; omega) rfl
    refine ⟨_, rfl, ?_, (Below.refl _ _).alloc (Nat.le_refl _) _⟩
    rw [show bc (⟨#[UInt8.ofNat (u - 1114112).toNat]⟩ : ByteArray).data.toList = [Value.int .u8 (u - 1114112)] from by
      rw [show (⟨#[UInt8.ofNat (u - 1114112).toNat]⟩ : ByteArray).data.toList = [UInt8.ofNat (u - 1114112).toNat] from rfl, bc_cons _ _ (by omega), show (((u - 1114112).toNat : Nat) : Int) = u - 1114112 by omega]; rfl]
    exact hl
  · by_cases b : (0 ≤ u ∧ u < 55296) ∨ (57343 < u ∧ u ≤ 1114111)
    · rw [put_rune b]
      obtain ⟨c, rfl⟩ : ∃ c : Nat, u = c := ⟨u.toNat, by omega⟩
      have wr := wd_rune b
      by_cases h1 : c < 128
      · refine (bytes_ascii c w (by omega) (by omega)).mono ?_
        rintro e w' ⟨rfl, rfl⟩
        have hl := World.ownsRow_lit (base := w.heap.size) (e := 5) (size := 1) w #[.int .u8 (c : Int)] 1 (Nat.le_refl _) (by unfold maxLen; omega) rfl
        refine ⟨_, rfl, ?_, (Below.refl _ _).alloc (Nat.le_refl _) _⟩
        rw [enc1 c h1, size_lit, show bc (⟨[UInt8.ofNat c].toArray⟩ : ByteArray).data.toList = [Value.int .u8 (c : Int)] from bc_cons c [] (by omega)]
        exact hl
      · by_cases h2 : c < 2048
        · have hw : wd c = (2 : Nat) := by rw [wr]; unfold Lib.runeLen; repeat' split <;> omega
          refine (bytes_many c 2 192 w hw (by omega) (by omega) (by simp; omega)).mono ?_
          rintro e w' ⟨v, rfl, hown, hb⟩
          refine ⟨v, rfl, ?_, hb⟩
          rw [enc2 c (by omega) h2, size_lit, show bc (⟨[UInt8.ofNat (192 + c / 64), UInt8.ofNat (128 + c % 64)].toArray⟩ : ByteArray).data.toList = bspec 192 c 2 from by
            show bc [UInt8.ofNat (192 + c / 64), UInt8.ofNat (128 + c % 64)] = _
            rw [bc_cons _ _ (by omega)]
            unfold bspec
            simp [low]]
          exact hown
        · by_cases h3 : c < 65536
          · have hw : wd c = (3 : Nat) := by rw [wr]; unfold Lib.runeLen; repeat' split <;> omega
            refine (bytes_many c 3 224 w hw (by omega) (by omega) (by simp; omega)).mono ?_
            rintro e w' ⟨v, rfl, hown, hb⟩
            refine ⟨v, rfl, ?_, hb⟩
            rw [enc3 c (by omega) h3 (by omega), size_lit, show bc (⟨[UInt8.ofNat (224 + c / 4096), UInt8.ofNat (128 + c / 64 % 64), UInt8.ofNat (128 + c % 64)].toArray⟩ : ByteArray).data.toList = bspec 224 c 3 from by
              show bc [UInt8.ofNat (224 + c / 4096), UInt8.ofNat (128 + c / 64 % 64), UInt8.ofNat (128 + c % 64)] = _
              rw [bc_cons _ _ (by omega)]
              unfold bspec
              simp [low]]
            exact hown
          · have hw : wd c = (4 : Nat) := by rw [wr]; unfold Lib.runeLen; repeat' split <;> omega
            refine (bytes_many c 4 240 w hw (by omega) (by omega) (by simp; omega)).mono ?_
            rintro e w' ⟨v, rfl, hown, hb⟩
            refine ⟨v, rfl, ?_, hb⟩
            rw [enc4 c (by omega) (by omega), size_lit, show bc (⟨[UInt8.ofNat (240 + c / 262144), UInt8.ofNat (128 + c / 4096 % 64), UInt8.ofNat (128 + c / 64 % 64), UInt8.ofNat (128 + c % 64)].toArray⟩ : ByteArray).data.toList = bspec 240 c 4 from by
              show bc [UInt8.ofNat (240 + c / 262144), UInt8.ofNat (128 + c / 4096 % 64), UInt8.ofNat (128 + c / 64 % 64), UInt8.ofNat (128 + c % 64)] = _
              rw [bc_cons _ _ (by omega)]
              unfold bspec
              simp [low]]
            exact hown
    · have hw : wd u = 0 := wd_no (by omega) (by omega)
      refine (bytes_none u w hw).mono ?_
      rintro e w' ⟨rfl, rfl⟩
      rw [put_no (by omega) (by omega)]
      exact ⟨_, rfl, World.ownsRow_nil _ _ _ _, Below.refl _ _⟩
theorem conv_row (w : World) (base : Nat) (v : Value) (l : List UInt8) (h : w.ownsRow base 5 1 v l.length (bc l)) : (convert 132 9 v).run Tryd.prog w = .ok (.string ⟨l.toArray⟩) w := by
  obtain ⟨hl, h | ⟨g, cap, cur, rfl, hb, hg, hn, hm, hc, ht⟩⟩ := h
  · obtain ⟨rfl, h0⟩ := h
    obtain rfl : l = [] := List.eq_nil_of_length_eq_zero h0
    rw [run_convert_bytes_string w 132 9 5 none 0 0 Tryd.underlying132 Tryd.underlying5 Tryd.underlying9]
    rfl
  · refine run_convert_bytes_back (P := Tryd.prog) w 132 9 5 ⟨g, 0, none⟩ cap l Tryd.underlying132 Tryd.underlying5 Tryd.underlying9 (fun j hj => ?_)
    have hx : (bc l)[j]? = some (.int .u8 (l[j].toNat : Int)) := by simp [bc, hj]
    have hown : w.ownsRow base 5 1 (.slice (some ⟨g, 0, none⟩) l.length cap) l.length (bc l) := ⟨hl, .inr ⟨g, cap, cur, rfl, hb, hg, hn, hm, hc, ht⟩⟩
    exact hown.cells rfl j _ hx
set_option maxHeartbeats 1000000 in
theorem rput_any (u : Int) (w : World) : Calls Tryd.prog 82 #[.int .i64 u] w fun e w' => e = .returned (.string (put u)) ∧ Below w.heap.size w w' := by
  go_enter Tryd.func82, Tryd.ntmps82
  go_wp2_with (go_at_call 92; refine (bytes_any _ _).mono ?_; rintro e w' ⟨v, rfl, hown, hb⟩; have hcv := conv_row w' _ v (put u).data.toList (by rw [← Lib.size_eq]; exact hown))
  go_ret
  exact ⟨by simp, hb⟩
theorem units_len_N (s : ByteArray) : ∀ k p, (unitsN s k p).length ≤ k
  | 0, _ => by simp [unitsN]
  | k + 1, p => by
    by_cases hp : p < s.size
    · rw [unitsN_step s k p hp, List.length_cons]; have := units_len_N s k (p + uw s p); omega
    · rw [unitsN_end s _ p hp]; simp
def intsU (l : List (Nat × Nat)) : List Int := l.map fun x => (x.2 : Int)
theorem intsU_length (l : List (Nat × Nat)) : (intsU l).length = l.length := by simp [intsU]
theorem drop_get (s : ByteArray) (p : Nat) (h : p < s.size) : s.data.toList.drop p = s.get! p :: s.data.toList.drop (p + 1) := by
  rw [List.drop_eq_getElem_cons (by rw [← Lib.size_eq]; exact h), get_bang s p h]; rfl
theorem ofNat_get (s : ByteArray) (p n : Nat) (h : (s.get! p).toNat = n) : UInt8.ofNat n = s.get! p := by rw [← h]; simp
theorem put_uAt (s : ByteArray) (p : Nat) (hp : p < s.size) : (put (uAt s p)).data.toList = (s.data.toList.drop p).take (uw s p) := by
  by_cases h : 1 < uw s p
  · obtain ⟨c, F⟩ := form_of s p h
    have hns : strayAt s p = false := by
      cases hs : strayAt s p with
      | false => rfl
      | true => have := (stray_iff s p).1 hs; rw [F.2.1] at this; simp at this; omega
    have hu : uAt s p = c := by rw [uAt_rune hns, F.2.1]
    rw [hu]
    obtain ⟨hz, _, hF⟩ := F
    obtain ⟨n, hn⟩ : ∃ n, uw s p = n := ⟨_, rfl⟩
    rw [hn] at hF hz ⊢
    rcases hF with ⟨rfl, a, b, b0, b1⟩ | ⟨rfl, a, b, v, b0, b1, b2⟩ | ⟨rfl, a, b, b0, b1, b2, b3⟩
    · rw [put_rune (by omega), enc2 c a b, ofNat_get s p _ b0, ofNat_get s (p + 1) _ b1, drop_get s p (by omega), drop_get s (p + 1) (by omega)]
      rfl
    · rw [put_rune (by omega), enc3 c a b v, ofNat_get s p _ b0, ofNat_get s (p + 1) _ b1, ofNat_get s (p + 2) _ b2, drop_get s p (by omega), drop_get s (p + 1) (by omega), drop_get s (p + 1 + 1) (by omega)]
      rfl
    · rw [put_rune (by omega), enc4 c a b, ofNat_get s p _ b0, ofNat_get s (p + 1) _ b1, ofNat_get s (p + 2) _ b2, ofNat_get s (p + 3) _ b3, drop_get s p (by omega), drop_get s (p + 1) (by omega), drop_get s (p + 1 + 1) (by omega), drop_get s (p + 1 + 1 + 1) (by omega)]
      rfl
  · have hpos := uw_pos s p
    have hu : uw s p = 1 := by omega
    rw [hu, drop_get s p hp]
    rcases one_wide s p hu with ⟨a, b⟩ | ⟨a, b⟩
    · have hns : strayAt s p = false := by
        cases hs : strayAt s p with
        | false => rfl
        | true => have := (stray_iff s p).1 hs; rw [b] at this; simp at this; omega
      have hv : uAt s p = (s.get! p).toNat := by rw [uAt_rune hns, b]
      rw [hv, put_rune (by omega), enc1 _ a, ofNat_get s p _ rfl]
      rfl
    · have hlt := (s.get! p).toNat_lt
      have hv := uAt_stray ((stray_iff s p).2 b)
      rw [hv, put_stray (by omega), show (((1114112 + (s.get! p).toNat : Nat) : Int) - 1114112).toNat = (s.get! p).toNat by omega, ofNat_get s p _ rfl]
      rfl
def acc (s : ByteArray) (p b : Nat) : Nat → Nat
  | 0 => b
  | k + 1 => acc s p b k * 64 + (s.get! (p + (k + 1))).toNat % 64
def md (n : Nat) : Nat := if n = 2 then 32 else if n = 3 then 16 else 8
def num (s : ByteArray) (p n : Nat) : Nat := acc s p (if n = 1 then (s.get! p).toNat else (s.get! p).toNat % md n) (n - 1)
def tst (s : ByteArray) (p n : Nat) : Bool := decide (wd (num s p n) = (n : Int) ∧ put (num s p n) = s.extract p (p + n))
def bgs (s : ByteArray) (p : Nat) : Nat → Nat → Int
  | 0, _ => -1
  | k + 1, n => if p + n ≤ s.size then (if tst s p n then (num s p n : Int) else bgs s p k (n + 1)) else -1
def beginsU (s : ByteArray) (p : Nat) : Int := bgs s p 4 1
theorem num1 (s : ByteArray) (p : Nat) : num s p 1 = (s.get! p).toNat := rfl
theorem num2 (s : ByteArray) (p : Nat) : num s p 2 = (s.get! p).toNat % 32 * 64 + (s.get! (p + 1)).toNat % 64 := rfl
theorem num3 (s : ByteArray) (p : Nat) : num s p 3 = ((s.get! p).toNat % 16 * 64 + (s.get! (p + 1)).toNat % 64) * 64 + (s.get! (p + 2)).toNat % 64 := rfl
theorem num4 (s : ByteArray) (p : Nat) : num s p 4 = (((s.get! p).toNat % 8 * 64 + (s.get! (p + 1)).toNat % 64) * 64 + (s.get! (p + 2)).toNat % 64) * 64 + (s.get! (p + 3)).toNat % 64 := rfl
theorem byte_of {s t : ByteArray} {p n : Nat} (h : t = s.extract p (p + n)) (hp : p + n ≤ s.size) (r : Nat) (hr : r < n) : (s.get! (p + r)).toNat = (t.get! r).toNat := by
  rw [h, get_ext s p (p + n) r (by omega) hp]
theorem wd_ge2 (c n : Nat) (hn : 2 ≤ n) (h : wd (c : Int) = (n : Int)) : (c < 55296 ∨ (57344 ≤ c ∧ c ≤ 1114111)) ∧ Lib.runeLen c = (n : Int) := by
  unfold wd at h
  split at h
  · omega
  · split at h
    · exact ⟨by omega, h⟩
    · omega
theorem tst_dec (s : ByteArray) (p n : Nat) (hn : 2 ≤ n) (hp : p + n ≤ s.size) (h : tst s p n = true) : Utf8.decode s p = (num s p n, n) := by
  obtain ⟨h1, h2⟩ : wd (num s p n) = (n : Int) ∧ put (num s p n) = s.extract p (p + n) := of_decide_eq_true h
  generalize num s p n = c at *
  obtain ⟨hr, hl⟩ := wd_ge2 c n hn h1
  rw [put_rune (by omega)] at h2
  unfold Lib.runeLen at hl
  by_cases c1 : c < 128
  · exfalso; repeat' split at hl
    all_goals omega
  by_cases c2 : c < 2048
  · obtain rfl : n = 2 := by repeat' split at hl
                             all_goals omega
    rw [enc2 c (by omega) c2] at h2
    have e0 := byte_of h2 hp 0 (by omega)
    have e1 := byte_of h2 hp 1 (by omega)
    change (s.get! (p + 0)).toNat = (UInt8.ofNat (192 + c / 64)).toNat at e0
    rw [b8 _ (by omega)] at e0
    change (s.get! (p + 1)).toNat = (UInt8.ofNat (128 + c % 64)).toNat at e1
    rw [b8 _ (by omega)] at e1
    exact dec2 s p c (by omega) c2 (by omega) e0 e1
  by_cases c3 : c < 65536
  · obtain rfl : n = 3 := by repeat' split at hl
                             all_goals omega
    rw [enc3 c (by omega) c3 (by omega)] at h2
    have e0 := byte_of h2 hp 0 (by omega)
    have e1 := byte_of h2 hp 1 (by omega)
    have e2 := byte_of h2 hp 2 (by omega)
    change (s.get! (p + 0)).toNat = (UInt8.ofNat (224 + c / 4096)).toNat at e0
    rw [b8 _ (by omega)] at e0
    change (s.get! (p + 1)).toNat = (UInt8.ofNat (128 + c / 64 % 64)).toNat at e1
    rw [b8 _ (by omega)] at e1
    change (s.get! (p + 2)).toNat = (UInt8.ofNat (128 + c % 64)).toNat at e2
    rw [b8 _ (by omega)] at e2
    exact dec3 s p c (by omega) c3 (by omega) (by omega) e0 e1 e2
  · obtain rfl : n = 4 := by repeat' split at hl
                             all_goals omega
    rw [enc4 c (by omega) (by omega)] at h2
    have e0 := byte_of h2 hp 0 (by omega)
    have e1 := byte_of h2 hp 1 (by omega)
    have e2 := byte_of h2 hp 2 (by omega)
    have e3 := byte_of h2 hp 3 (by omega)
    change (s.get! (p + 0)).toNat = (UInt8.ofNat (240 + c / 262144)).toNat at e0
    rw [b8 _ (by omega)] at e0
    change (s.get! (p + 1)).toNat = (UInt8.ofNat (128 + c / 4096 % 64)).toNat at e1
    rw [b8 _ (by omega)] at e1
    change (s.get! (p + 2)).toNat = (UInt8.ofNat (128 + c / 64 % 64)).toNat at e2
    rw [b8 _ (by omega)] at e2
    change (s.get! (p + 3)).toNat = (UInt8.ofNat (128 + c % 64)).toNat at e3
    rw [b8 _ (by omega)] at e3
    exact dec4 s p c (by omega) (by omega) (by omega) e0 e1 e2 e3
theorem tst_no (s : ByteArray) (p n : Nat) (hn : 2 ≤ n) (hp : p + n ≤ s.size) (h : uw s p ≠ n) : tst s p n = false := by
  cases ht : tst s p n with
  | false => rfl
  | true => exact absurd (by unfold uw; rw [tst_dec s p n hn hp ht]) h
theorem tst1_no (s : ByteArray) (p : Nat) (h : 128 ≤ (s.get! p).toNat) : tst s p 1 = false := by
  have := (s.get! p).toNat_lt
  unfold tst
  rw [num1, decide_eq_false_iff_not]
  rintro ⟨h1, _⟩
  rw [wd_rune (by omega)] at h1
  unfold Lib.runeLen at h1
  repeat' split at h1
  all_goals omega
theorem tst_yes (s : ByteArray) (p n : Nat) (hp : p < s.size) (h : uw s p = n) (hn : num s p n = uAt s p) : tst s p n = true := by
  unfold tst
  rw [hn, decide_eq_true_iff]
  refine ⟨by rw [wd_uAt, h], ?_⟩
  have e := put_uAt s p hp
  rw [h] at e
  have hd : (put (uAt s p)).data = (s.extract p (p + n)).data := by
    apply Array.ext'
    rw [e]
    simp [ByteArray.data_extract, List.extract_eq_take_drop]
  generalize put (uAt s p) = a at *
  generalize s.extract p (p + n) = b at *
  cases a; cases b
  simpa using hd
theorem bgs_none (s : ByteArray) (p : Nat) (h : uw s p = 1) : ∀ k n, 2 ≤ n → bgs s p k n = -1
  | 0, _, _ => rfl
  | k + 1, n, hn => by
    rw [bgs]
    split
    · rename_i hp
      rw [tst_no s p n hn hp (by omega), bgs_none s p h k (n + 1) (by omega)]
      rfl
    · rfl
theorem bgs_skip (s : ByteArray) (p k n : Nat) (hn : 2 ≤ n) (hp : p + n ≤ s.size) (h : uw s p ≠ n) : bgs s p (k + 1) n = bgs s p k (n + 1) := by
  rw [bgs, if_pos hp, tst_no s p n hn hp h]; rfl
theorem bgs_hit (s : ByteArray) (p k n : Nat) (hp : p + n ≤ s.size) (h : tst s p n = true) : bgs s p (k + 1) n = num s p n := by
  rw [bgs, if_pos hp, if_pos h]
theorem begins_eq (s : ByteArray) (p : Nat) (hp : p < s.size) : beginsU s p = if strayAt s p then -1 else (uAt s p : Int) := by
  unfold beginsU
  by_cases hw : uw s p = 1
  · rcases one_wide s p hw with ⟨h1, h2⟩ | ⟨h1, h2⟩
    · have hst : strayAt s p = false := by
        cases h : strayAt s p with
        | false => rfl
        | true => have := (stray_iff s p).1 h; rw [h2] at this; injection this with a b; omega
      have hu : uAt s p = (s.get! p).toNat := by rw [uAt_rune hst, h2]
      rw [hst, bgs_hit s p 3 1 (by omega) (tst_yes s p 1 hp hw (by rw [num1, hu])), num1, hu]
      rfl
    · have hst : strayAt s p = true := (stray_iff s p).2 h2
      rw [hst, bgs, if_pos (by omega), tst1_no s p h1, bgs_none s p hw 3 2 (by omega)]
      rfl
  · have h1 : 1 < uw s p := by have := uw_pos s p; omega
    obtain ⟨c, hz, hd, hf⟩ := form_of s p h1
    have hst : strayAt s p = false := by
      cases h : strayAt s p with
      | false => rfl
      | true => have := (stray_iff s p).1 h; rw [hd] at this; injection this with a b; omega
    have hu : uAt s p = c := by rw [uAt_rune hst, hd]
    have hb := (uw_many s p h1).2.1
    have h0 : bgs s p 4 1 = bgs s p 3 2 := by rw [bgs, if_pos (by omega), tst1_no s p (by omega)]; rfl
    rw [hst, h0]
    simp only [Bool.false_eq_true, if_false]
    rw [hu]
    rcases hf with ⟨hn, a, b, b0, b1⟩ | ⟨hn, a, b, _, b0, b1, b2⟩ | ⟨hn, a, b, b0, b1, b2, b3⟩
    · rw [hn] at hz
      have e : num s p 2 = c := by rw [num2, b0, b1]; omega
      rw [bgs_hit s p 2 2 hz (tst_yes s p 2 hp hn (by rw [e, hu])), e]
    · rw [hn] at hz
      have e : num s p 3 = c := by rw [num3, b0, b1, b2]; omega
      rw [bgs_skip s p 2 2 (by omega) (by omega) (by omega), bgs_hit s p 1 3 hz (tst_yes s p 3 hp hn (by rw [e, hu])), e]
    · rw [hn] at hz
      have e : num s p 4 = c := by rw [num4, b0, b1, b2, b3]; omega
      rw [bgs_skip s p 2 2 (by omega) (by omega) (by omega), bgs_skip s p 1 3 (by omega) (by omega) (by omega), bgs_hit s p 0 4 hz (tst_yes s p 4 hp hn (by rw [e, hu])), e]
end Go.Proofs
