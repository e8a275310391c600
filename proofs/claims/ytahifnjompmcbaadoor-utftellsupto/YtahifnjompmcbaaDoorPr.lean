/-
  Proper tells whether units are the ones of their own text.
-/
import Derived.RangeFuncNested
import Derived.RangeFuncBound
import Derived.RangeFuncCalls
import Derived.RangeFuncLeaves
import Derived.Shelf.Abstract
import Derived.Shelf.RegionOpen
import Derived.WalkKit
import Derived.WalkSpells
import Derived.WalkLawsBesides
import Derived.OwnWalkIn
import Derived.TacticsInMore
import Derived.LoopNIn
import Derived.LoopIn
import Derived.BigQuiet
import Derived.RegionIn
import Derived.Deep.QuietTactic
import Derived.Lib.OthersKept
import Derived.Maps.AppendAt
import Derived.Lib.SmallJoins
import Derived.Lib.IndexBytes
import Derived.Test.YtahifnjompmcbaaDoorJo
import Derived.Test.YtahifnjompmcbaaDoorUs
import Derived.Lib.AppendStr
import Derived.Shelf.Strings.Builder1
import Derived.Test.YtahifnjompmcbaaDoorUh
namespace Go.Proofs
open Go.RowKit Go.Shelf

set_option maxRecDepth 100000
attribute [local go_sem] Oper.semAt_some
theorem units_len_N (s : ByteArray) : ∀ k p, (unitsN s k p).length ≤ k
  | 0, _ => by simp [unitsN]
  | k + 1, p => by
    by_cases hp : p < s.size
    · rw [unitsN_step s k p hp, List.length_cons]; have := units_len_N s k (p + uw s p); omega
    · rw [unitsN_end s _ p hp]; simp
/-! Proper -/
theorem equal_any (v1 v2 : Value) (xs ys : List Int) (w : World) (h1 : Ints w v1 xs) (h2 : Ints w v2 ys) (hn : xs.length ≤ 1152921504606846976) (hm : ys.length ≤ 1152921504606846976) :
    Calls Tryd.prog 44 #[v1, v2] w fun e w' => e = .returned (.bool (xs == ys)) ∧ ∃ q, w' = w.drewN q := by
  obtain ⟨a, c, rfl, h1⟩ := h1
  obtain ⟨b, d, rfl, h2⟩ := h2
  by_cases hl : xs.length = ys.length
  · by_cases h0 : xs = []
    · subst h0
      obtain rfl : ys = [] := List.eq_nil_of_length_eq_zero hl.symm
      refine (Tryd.slices_Equal_int_empty a b c 0 d w (by omega)).mono ?_
      rintro e w' ⟨rfl, rfl⟩
      exact ⟨rfl, 0, rfl⟩
    · have h0' : ys ≠ [] := fun e => h0 (List.eq_nil_of_length_eq_zero (by rw [hl, e]; rfl))
      obtain ⟨g1, o1, rfl, k1⟩ := h1.resolve_left h0
      obtain ⟨g2, o2, rfl, k2⟩ := h2.resolve_left h0'
      have := Tryd.slices_Equal_int g1 o1 xs.length c g2 o2 ys.length d xs ys w (Nat.le_refl _) (Nat.le_refl _) (by omega) (by omega) (fun j hj => by rw [k1 j hj, List.getD_eq_getElem?_getD]) (fun j hj => by rw [k2 j hj, List.getD_eq_getElem?_getD])
      rw [List.take_length, List.take_length] at this
      exact this
  · refine (Tryd.slices_Equal_int_lens a b xs.length c ys.length d w hl).mono ?_
    rintro e w' ⟨rfl, rfl⟩
    have : (xs == ys) = false := by rw [beq_eq_false_iff_ne]; rintro rfl; exact hl rfl
    exact ⟨by rw [this], 0, rfl⟩
def ints (l : List (Nat × Nat)) : List Int := l.map fun x => (x.2 : Int)
theorem us_ints (l : List (Nat × Nat)) : us l = (ints l).map (Value.int .i64) := by simp [us, ints]
theorem ints_length (l : List (Nat × Nat)) : (ints l).length = l.length := by simp [ints]
theorem joinB_len : ∀ (l : List Int) (t : List UInt8), joinB l = some t → t.length ≤ 4 * l.length
  | [], t, h => by simp [joinB] at h; subst h; simp
  | u :: l, t, h => by
    by_cases hw : wd u = 0
    · simp [joinB, hw] at h
    · rw [joinB_step hw, Option.map_eq_some_iff] at h
      obtain ⟨t', ht', rfl⟩ := h
      have := joinB_len l t' ht'
      have hp := put_size_le u
      rw [Lib.size_eq] at hp
      rw [List.length_append, List.length_cons]
      omega
def properB (l : List Int) : Bool := match joinB l with
  | none => false
  | some t => ints (units ⟨t.toArray⟩) == l
theorem cut_ints (s : ByteArray) (w : World) (hs : s.size ≤ 4398046511104) : Calls Tryd.prog 21 #[.string s] w fun e w' => ∃ v, e = .returned v ∧ Ints w' v (ints (units s)) ∧ Below w.heap.size w w' := by
  refine (cut_any s w hs).mono ?_
  rintro e w' ⟨v, rfl, ho, hb⟩
  exact ⟨v, rfl, Ints.of_row (base := w.heap.size) (by rw [ints_length, ← us_ints]; exact ho), hb⟩
set_option maxHeartbeats 2000000 in
theorem proper_any (v : Value) (l : List Int) (w : World) (hv : Ints w v l) (hl : l.length ≤ 1099511627776) :
    Calls Tryd.prog 28 #[v] w fun e w' => e = .returned (.bool (properB l)) ∧ Below w.heap.size w w' := by
  have hj := join_any v l w hv (by omega)
  cases hJ : joinB l with
  | none =>
    rw [hJ] at hj
    have hp : properB l = false := by unfold properB; rw [hJ]
    rw [hp]
    have HJ : Hid (Calls Tryd.prog 27 #[v] w fun e w' => e = .returned (.tuple #[.string ⟨#[]⟩, .int .i64 11]) ∧ Below w.heap.size w w') := hj
    clear hj hJ hp hv
    go_enter Tryd.func28, Tryd.ntmps28
    go_wp2_with fail
    refine HJ.out.mono ?_
    rintro e w1 ⟨rfl, hb1⟩
    go_wp2
    go_ret
    exact ⟨rfl, hb1⟩
  | some t =>
    rw [hJ] at hj
    have htl := joinB_len l t hJ
    have hp : properB l = (ints (units ⟨t.toArray⟩) == l) := by unfold properB; rw [hJ]
    rw [hp]
    have HJ : Hid (Calls Tryd.prog 27 #[v] w fun e w' => e = .returned (.tuple #[.string ⟨t.toArray⟩, .int .i64 0]) ∧ Below w.heap.size w w') := hj
    have hsz : (⟨t.toArray⟩ : ByteArray).size ≤ 4398046511104 := by rw [size_lit]; omega
    have hul : (ints (units ⟨t.toArray⟩)).length ≤ 1152921504606846976 := by
      rw [ints_length]
      have := units_len_N ⟨t.toArray⟩ (⟨t.toArray⟩ : ByteArray).size 0
      have h2 : (units ⟨t.toArray⟩).length ≤ (⟨t.toArray⟩ : ByteArray).size := this
      omega
    obtain ⟨r, hr⟩ : ∃ r, (ints (units ⟨t.toArray⟩) == l) = r := ⟨_, rfl⟩
    have HR : Hid ((ints (units ⟨t.toArray⟩) == l) = r) := hr
    rw [hr]
    have HV : Hid (Ints w v l) := hv
    clear hj hJ hp hr hv htl
    generalize (⟨t.toArray⟩ : ByteArray) = s at *
    go_enter Tryd.func28, Tryd.ntmps28
    go_wp2_with fail
    refine HJ.out.mono ?_
    rintro e w1 ⟨rfl, hb1⟩
    go_wp2_with fail
    refine (cut_ints s w1 hsz).mono ?_
    rintro e w2 ⟨v2, rfl, i2, hb2⟩
    have hB2 : Below w.heap.size w w2 := hb1.trans (hb2.mono hb1.size)
    have iv := HV.out.below hB2 (Nat.le_refl _)
    have cE : Hid (Calls Tryd.prog 44 #[v2, v] w2 fun e w' => e = .returned (.bool r) ∧ ∃ q, w' = w2.drewN q) := by have := equal_any v2 v _ _ w2 i2 iv hul (by omega); rw [HR.out] at this; exact this
    clear i2 iv hb1 hb2
    go_wp2_with fail
    refine cE.out.mono ?_
    rintro e w3 ⟨rfl, q, rfl⟩
    go_wp2
    go_ret
    exact ⟨rfl, below_drewN hB2 q⟩
end Go.Proofs
