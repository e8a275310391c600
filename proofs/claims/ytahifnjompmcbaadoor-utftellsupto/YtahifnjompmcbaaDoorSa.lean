/-
  same tells whether two rows of numbers are alike.
-/
import Derived.RangeFuncNested
import Derived.RangeFuncBound
import Derived.RangeFuncCalls
import Derived.RangeFuncLeaves
import Derived.Shelf.Abstract
import Derived.Shelf.RegionOpen
import Derived.WalkKit
import Derived.WalkSpells
import Derived.WalkLawsBesides
import Derived.OwnWalkIn
import Derived.TacticsInMore
import Derived.LoopNIn
import Derived.LoopIn
import Derived.BigQuiet
import Derived.RegionIn
import Derived.Deep.QuietTactic
import Derived.Lib.OthersKept
import Derived.Maps.AppendAt
import Derived.Lib.SmallJoins
import Derived.Lib.IndexBytes
import Derived.Test.YtahifnjompmcbaaDoorCu
import Derived.Test.YtahifnjompmcbaaDoorUh
namespace Go.Proofs
open Go.RowKit Go.Shelf

set_option maxRecDepth 100000
attribute [local go_sem] Oper.semAt_some
/-! same -/
theorem drew_add (w : World) (a b : Nat) : (w.drewN a).drewN b = w.drewN (a + b) := by unfold World.drewN; simp only [Nat.add_assoc]
set_option maxHeartbeats 1000000 in
theorem same_lens (a1 a2 : Option Addr) (n c m d : Nat) (w : World) (h : n ≠ m) : Calls Tryd.prog 13 #[.slice a1 n c, .slice a2 m d] w fun e w' => e = .returned (.bool false) ∧ w' = w := by
  have e1 : ((n : Int) != (m : Int)) = true := by rw [bne_iff_ne]; omega
  go_enter Tryd.func13, Tryd.ntmps13
  go_wp2
  go_ret
  exact ⟨rfl, rfl⟩
set_option maxHeartbeats 1000000 in
theorem same_zero (a1 a2 : Option Addr) (c d : Nat) (w : World) : Calls Tryd.prog 13 #[.slice a1 0 c, .slice a2 0 d] w fun e w' => e = .returned (.bool true) ∧ w' = w := by
  go_enter Tryd.func13, Tryd.ntmps13
  go_wp2
  go_loop [5] (fun i => i = .int .i64 0) (fun _ => 0)
  case atStart => rfl
  case round =>
    obtain rfl := hrel
    go_wp2
    go_ret
    exact ⟨rfl, rfl⟩
theorem take_eq_succ {xs ys : List Int} {k : Nat} (hx : k < xs.length) (hy : k < ys.length) (h : xs.take k = ys.take k) (he : xs[k]?.getD 0 = ys[k]?.getD 0) : xs.take (k + 1) = ys.take (k + 1) := by
  rw [List.take_succ_eq_append_getElem hx, List.take_succ_eq_append_getElem hy, h]
  simp [hx, hy] at he
  rw [he]
set_option maxHeartbeats 1000000 in
theorem same_walk (g1 o1 c g2 o2 d : Nat) (xs ys : List Int) (w : World) (hl : xs.length = ys.length) (hn : xs.length ≤ 1152921504606846976)
    (h1 : ∀ j, j < xs.length → w.cell? ⟨g1, o1 + j, none⟩ = some (.int .i64 (xs[j]?.getD 0))) (h2 : ∀ j, j < xs.length → w.cell? ⟨g2, o2 + j, none⟩ = some (.int .i64 (ys[j]?.getD 0))) :
    Calls Tryd.prog 13 #[.slice (some ⟨g1, o1, none⟩) xs.length c, .slice (some ⟨g2, o2, none⟩) xs.length d] w fun e w' => e = .returned (.bool (xs == ys)) ∧ ∃ q, w' = w.drewN q := by
  obtain ⟨n, hnn⟩ : ∃ n, xs.length = n := ⟨_, rfl⟩
  rw [hnn] at h1 h2 hn ⊢
  have HX : Hid (xs.length = n) := hnn
  have HY : Hid (ys.length = n) := by rw [hnn] at hl; exact hl.symm
  clear hl hnn
  obtain ⟨r, hr⟩ : ∃ r : Bool, (xs == ys) = r := ⟨_, rfl⟩
  have HR : Hid ((xs == ys) = r) := hr
  rw [hr]
  clear hr
  go_enter Tryd.func13, Tryd.ntmps13
  go_wp2
  go_loopw [5] (fun i wr => ∃ k q : Nat, i = .int .i64 k ∧ k ≤ n ∧ Hid (xs.take k = ys.take k) ∧ wr = w.drewN q) (fun i _ => n - (intOf i).toNat)
  case atStart => exact ⟨0, 0, rfl, Nat.zero_le _, rfl, rfl⟩
  case round =>
    obtain ⟨k, q, rfl, hk, hT, rfl⟩ := hrel
    by_cases hlt : k < n
    · have c1 := h1 k hlt
      have c2 := h2 k hlt
      clear h1 h2
      have hlt' : (k : Int) < (n : Int) := by omega
      have hpos : (0 : Int) ≤ (k : Int) := by omega
      obtain ⟨a, ha⟩ : ∃ a : Int, xs[k]?.getD 0 = a := ⟨_, rfl⟩
      obtain ⟨b, hb⟩ : ∃ b : Int, ys[k]?.getD 0 = b := ⟨_, rfl⟩
      rw [ha] at c1
      rw [hb] at c2
      have HA : Hid (xs[k]?.getD 0 = a) := ha
      have HB : Hid (ys[k]?.getD 0 = b) := hb
      clear ha hb
      by_cases he : a = b
      · have e1 : (a != b) = false := by simp [he]
        have HE : Hid (a = b) := he
        clear he
        go_wp2_with fail
        go_quiet (fail)
        go_wp2
        have hx := HX.out
        have hy := HY.out
        exact ⟨⟨k + 1, q + nq, by go_num, by omega, take_eq_succ (by omega) (by omega) hT.out (by rw [HA.out, HB.out]; exact HE.out), rfl⟩, by simp [intOf]; omega⟩
      · have e1 : (a != b) = true := by simp [he]
        have HE : Hid (a ≠ b) := he
        clear he
        go_wp2_with fail
        go_quiet (fail)
        go_wp2
        go_ret
        have hrf : r = false := by
          rw [← HR.out, beq_eq_false_iff_ne]
          rintro rfl
          exact HE.out (HA.out.symm.trans HB.out)
        exact ⟨by rw [hrf]; rfl, q + nq, drew_add w q nq⟩
    · clear h1 h2
      go_wp2
      go_ret
      have hrt : r = true := by
        have hx := HX.out
        have hy := HY.out
        have ht := hT.out
        rw [List.take_of_length_le (by omega), List.take_of_length_le (by omega)] at ht
        rw [← HR.out, beq_iff_eq]; exact ht
      exact ⟨by rw [hrt]; rfl, q, rfl⟩
/-- a slice value that reads as these integers -/
def Ints (w : World) (v : Value) (xs : List Int) : Prop :=
  ∃ (a : Option Addr) (cap : Nat), v = .slice a xs.length cap ∧ (xs = [] ∨ ∃ g o, a = some ⟨g, o, none⟩ ∧ ∀ j, j < xs.length → w.cell? ⟨g, o + j, none⟩ = some (.int .i64 (xs[j]?.getD 0)))
theorem Ints.below {w w' : World} {n : Nat} {v : Value} {xs : List Int} (h : Ints w v xs) (hb : Below n w w') (hn : w.heap.size ≤ n) : Ints w' v xs := by
  obtain ⟨a, cap, rfl, h | ⟨g, o, rfl, hc⟩⟩ := h
  · exact ⟨a, cap, rfl, .inl h⟩
  · refine ⟨_, cap, rfl, .inr ⟨g, o, rfl, fun j hj => ?_⟩⟩
    obtain ⟨ob, ho, _⟩ := cells_of_cell (hc j hj)
    have : g < w.heap.size := (Array.getElem?_eq_some_iff.1 ho).1
    exact (hb.cell (p := ⟨g, o + j, none⟩) (show g < n by omega)).trans (hc j hj)
theorem Ints.of_row {w : World} {base : Nat} {v : Value} {xs : List Int} (h : w.ownsRow base 3 1 v xs.length (xs.map (Value.int .i64))) : Ints w v xs := by
  rcases Joins.ownsRow_forms h with ⟨rfl, h0⟩ | ⟨g, cap, rfl⟩
  · obtain rfl : xs = [] := List.eq_nil_of_length_eq_zero h0
    exact ⟨none, 0, rfl, .inl rfl⟩
  · refine ⟨_, cap, rfl, .inr ⟨g, 0, rfl, fun j hj => ?_⟩⟩
    rw [Nat.zero_add, h.cellAt j (by omega)]
    simp [hj]
theorem same_any (v1 v2 : Value) (xs ys : List Int) (w : World) (h1 : Ints w v1 xs) (h2 : Ints w v2 ys) (hn : xs.length ≤ 1152921504606846976) :
    Calls Tryd.prog 13 #[v1, v2] w fun e w' => e = .returned (.bool (xs == ys)) ∧ ∃ q, w' = w.drewN q := by
  obtain ⟨a, c, rfl, h1⟩ := h1
  obtain ⟨b, d, rfl, h2⟩ := h2
  by_cases hl : xs.length = ys.length
  · by_cases h0 : xs = []
    · subst h0
      obtain rfl : ys = [] := List.eq_nil_of_length_eq_zero hl.symm
      refine (same_zero a b c d w).mono ?_
      rintro e w' ⟨rfl, rfl⟩
      exact ⟨rfl, 0, rfl⟩
    · have h0' : ys ≠ [] := fun e => h0 (List.eq_nil_of_length_eq_zero (by rw [hl, e]; rfl))
      obtain ⟨g1, o1, rfl, k1⟩ := h1.resolve_left h0
      obtain ⟨g2, o2, rfl, k2⟩ := h2.resolve_left h0'
      rw [← hl] at k2 ⊢
      exact same_walk g1 o1 c g2 o2 d xs ys w hl hn k1 k2
  · refine (same_lens a b xs.length c ys.length d w hl).mono ?_
    rintro e w' ⟨rfl, rfl⟩
    have : (xs == ys) = false := by rw [beq_eq_false_iff_ne]; rintro rfl; exact hl rfl
    exact ⟨by rw [this], 0, rfl⟩
end Go.Proofs
