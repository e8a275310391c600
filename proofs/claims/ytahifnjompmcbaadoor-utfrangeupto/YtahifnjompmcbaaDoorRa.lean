/-
  UtfRange answers true for every text of at most 2 to the 42 bytes.
-/
import Derived.RangeFuncNested
import Derived.RangeFuncBound
import Derived.RangeFuncCalls
import Derived.RangeFuncLeaves
import Derived.Shelf.Abstract
import Derived.Shelf.RegionOpen
import Derived.WalkKit
import Derived.WalkSpells
import Derived.WalkLawsBesides
import Derived.OwnWalkIn
import Derived.TacticsInMore
import Derived.LoopNIn
import Derived.LoopIn
import Derived.BigQuiet
import Derived.RegionIn
import Derived.Deep.QuietTactic
import Derived.Lib.OthersKept
import Derived.Maps.AppendAt
import Derived.Lib.SmallJoins
import Derived.Lib.IndexBytes
import Derived.Test.YtahifnjompmcbaaDoorFo
import Derived.Test.YtahifnjompmcbaaDoorUh
namespace Go.Proofs
open Go.RowKit Go.Shelf

set_option maxRecDepth 100000
attribute [local go_sem] Oper.semAt_some
/-! UtfRange -/
theorem hp_bytes (s : ByteArray) (p : Nat) (h : Lib.hasPrefix (s.data.toList.drop p) fffd = true) : p + 3 ≤ s.size ∧ s.extract p (p + 3) = ⟨#[239, 191, 189]⟩ := by
  unfold Lib.hasPrefix at h
  rw [List.isPrefixOf_iff_prefix] at h
  obtain ⟨t, ht⟩ := h
  have hl : (s.data.toList.drop p).length = 3 + t.length := by rw [← ht]; simp [fffd]; omega
  rw [List.length_drop, ← Lib.size_eq] at hl
  refine ⟨by omega, ?_⟩
  have e : (s.extract p (p + 3)).data.toList = [239, 191, 189] := by
    rw [Lib.extract_data, ← ht, show p + 3 - p = 3 by omega]; rfl
  have e2 : (s.extract p (p + 3)).data = #[239, 191, 189] := by
    rw [← Array.toArray_toList (xs := (s.extract p (p + 3)).data), e]
  cases hx : s.extract p (p + 3) with
  | mk d => rw [hx] at e2; simp only at e2; rw [e2]
theorem stray_high (s : ByteArray) (p : Nat) (h : strayAt s p = true) : 128 ≤ (s.get! p).toNat ∧ (Utf8.decode s p).1 = 65533 := by
  unfold strayAt at h
  rw [Bool.and_eq_true, beq_iff_eq] at h
  refine ⟨?_, h.1⟩
  by_cases hl : (s.get! p).toNat < 128
  · have := dec1 s p hl
    rw [this] at h
    have := h.1
    simp only at this
    omega
  · omega
theorem units_len_N (s : ByteArray) : ∀ k p, (unitsN s k p).length ≤ k
  | 0, _ => by simp [unitsN]
  | k + 1, p => by
    by_cases hp : p < s.size
    · rw [unitsN_step s k p hp, List.length_cons]; have := units_len_N s k (p + uw s p); omega
    · rw [unitsN_end s _ p hp]; simp
theorem lit3 : ((⟨#[239, 191, 189]⟩ : ByteArray).toList == [239, 191, 189]) = true := by decide +kernel
theorem flat_at (l r : List (Nat × Nat)) (x : Nat × Nat) (u : List (Nat × Nat)) (h : u = l ++ x :: r) : (flat u)[2 * l.length]? = some (.int .i64 (x.1 : Int)) ∧ (flat u)[2 * l.length + 1]? = some (.int .i64 (x.2 : Int)) := by
  have e : flat u = flat l ++ (.int .i64 (x.1 : Int) :: .int .i64 (x.2 : Int) :: flat r) := by rw [h]; simp [flat]
  have hl := flat_length l
  rw [e, ← hl]
  refine ⟨by simp, ?_⟩
  rw [List.getElem?_append_right (by omega)]
  simp
set_option maxHeartbeats 2000000 in
theorem range_any (s : ByteArray) (w : World) (hs : s.size ≤ 4398046511104) (hT : Tab w) : Calls Tryd.prog 8 #[.string s] w fun e w' => e = .returned (.bool true) ∧ Below w.heap.size w w' := by
  have hfo : ∀ W : World, Calls Tryd.prog 11 #[.string s, .int .i64 ((s.size : Int) + 1)] W fun e w' => ∃ v, e = .returned v ∧ w'.ownsRow W.heap.size 3 1 v (2 * (units s).length) (flat (units s)) ∧ Below W.heap.size W w' := fun W => by
    have := forth_any s ((s.size : Int) + 1) W hs (by omega)
    rw [List.take_of_length_le (by have := units_len_N s s.size 0; unfold units; omega)] at this
    exact this
  have HF : Hid (∀ W : World, Calls Tryd.prog 11 #[.string s, .int .i64 ((s.size : Int) + 1)] W fun e w' => ∃ v, e = .returned v ∧ w'.ownsRow W.heap.size 3 1 v (2 * (units s).length) (flat (units s)) ∧ Below W.heap.size W w') := hfo
  have hul : (units s).length ≤ s.size := units_len_N s s.size 0
  clear hfo
  go_enter Tryd.func8, Tryd.ntmps8
  go_wp2_with fail
  refine (shown_any _ hT).mono ?_
  rintro e w1 ⟨rfl, hb1⟩
  go_wp2_with fail
  refine (HF.out _).mono ?_
  rintro e w2 ⟨v, rfl, hown, hb2⟩
  have hB2 : Below w.heap.size w w2 := hb1.trans (hb2.mono hb1.size)
  have hz2 := hb1.size
  clear hb1 hb2
  go_wp2_with fail
  rcases Joins.ownsRow_forms hown with ⟨rfl, hn0⟩ | ⟨g, cap, rfl⟩
  · have hs0 : s.size = 0 := by
      by_cases h0 : s.size = 0
      · exact h0
      · have := units_ne (s := s) (by omega)
        have : (units s).length ≠ 0 := fun e => this (List.eq_nil_of_length_eq_zero e)
        omega
    go_loopw [5, 6, 7, 8, 9] (fun vi _ _ _ _ wr => vi = .int .i64 0 ∧ wr.heap[w2.heap.size]? = some (.stringIter s 0) ∧ Below w.heap.size w wr) (fun _ _ _ _ _ _ => 0)
    case atStart => exact ⟨rfl, World.iter_heap w2 s 0, hB2.alloc hB2.size _⟩
    case round =>
      obtain ⟨rfl, hit, hb⟩ := hrel
      have hnx : ∀ ty, (Instr.next (.pointer (some ⟨w2.heap.size, 0, none⟩)) true ty).run Tryd.prog wr = _ := fun ty => Lib.run_next_end_at wr w2.heap.size s 0 ty hit (by omega)
      go_wp2
      go_ret
      exact ⟨rfl, hb⟩
  · go_loopw [5, 6, 7, 8, 9] (fun vi _ _ _ _ wr => ∃ (done : List (Nat × Nat)) (d p k : Nat), vi = .int .i64 (2 * (d : Int)) ∧ Hid (d = done.length) ∧ wr.heap[w2.heap.size]? = some (.stringIter s p) ∧ Hid (units s = done ++ unitsN s k p) ∧ s.size ≤ p + k ∧ wr.ownsRow w1.heap.size 3 1 (.slice (some ⟨g, 0, none⟩) (2 * (units s).length) cap) (2 * (units s).length) (flat (units s)) ∧ Below w.heap.size w wr) (fun _ _ _ _ _ wr => s.size - wr.iterPos w2.heap.size)
    case atStart => exact ⟨[], 0, 0, s.size, rfl, rfl, World.iter_heap w2 s 0, rfl, by omega, hown.alloc _, hB2.alloc hB2.size _⟩
    case round =>
      obtain ⟨done, d, p, k, rfl, hd, hit, hu, hk, hrow, hb⟩ := hrel
      by_cases hp : p < s.size
      · obtain ⟨k, rfl⟩ : ∃ j, k = j + 1 := ⟨k - 1, by omega⟩
        have hu1 := hu.out
        rw [unitsN_step s k p hp] at hu1
        clear hu
        have hdd := hd.out
        have hfl := flat_at done _ _ _ hu1
        have hdl : done.length < (units s).length := by rw [hu1]; simp
        rw [← hdd] at hfl hdl
        clear hdd
        have hU : Hid (units s = done ++ (p, uAt s p) :: unitsN s k (p + uw s p)) := hu1
        clear hu1
        have hnx : ∀ ty, (Instr.next (.pointer (some ⟨w2.heap.size, 0, none⟩)) true ty).run Tryd.prog wr = _ := fun ty => Lib.run_next_any_at wr w2.heap.size s p ty hit hp
        have hit2 := Lib.iterAt_heap wr w2.heap.size s p (p + (Utf8.decode s p).2) hit
        have hg2 : wr.grownBy (wr.iterAt w2.heap.size s (p + (Utf8.decode s p).2)) (some w2.heap.size) := ⟨rfl, rfl, rfl, by rw [Lib.iterAt_size]; exact Nat.le_refl _, fun j _ hj => Lib.iterAt_other wr w2.heap.size j s _ (fun e => hj (by rw [e]))⟩
        have hrow2 := row_kept hrow hg2 (fun r e => by cases e; exact ⟨_, hit, rfl⟩)
        have hb2 : Below w.heap.size w (wr.iterAt w2.heap.size s (p + (Utf8.decode s p).2)) := Lib.below_iterAt hb hB2.size s _
        have q0 := (hrow2.cellAt (2 * d) (by omega)).trans hfl.1
        have q1 := (hrow2.cellAt (2 * d + 1) (by omega)).trans hfl.2
        have hpos := uw_pos s p
        have hm1 : s.size - (p + uw s p) < s.size - p := by omega
        have HM : Hid (s.size - (wr.iterAt w2.heap.size s (p + uw s p)).iterPos w2.heap.size < s.size - wr.iterPos w2.heap.size) := by
          show s.size - (wr.iterAt w2.heap.size s (p + (Utf8.decode s p).2)).iterPos w2.heap.size < s.size - wr.iterPos w2.heap.size
          rw [iterPos_of hit, iterPos_of hit2]; exact hm1
        have HR : Hid ((units s = (done ++ [(p, uAt s p)]) ++ unitsN s k (p + uw s p))) := by
          show units s = (done ++ [(p, uAt s p)]) ++ unitsN s k (p + uw s p)
          rw [hU.out]; simp
        clear hfl hrow hit hg2 hpos hm1
        have hw8 := w64b s[p]
        have hb8 : (s[p].toNat : Int) < 256 := by have := s[p].toNat_lt; omega
        have hlen2 : (s.size : Int) ≤ 4398046511104 := by omega
        have hdl2 : (d : Int) < ((units s).length : Int) := by omega
        have hul2 : ((units s).length : Int) ≤ (s.size : Int) := by omega
        cases hst : strayAt s p with
        | true =>
          have hsh := stray_high s p hst
          have hua := uAt_stray hst
          rw [get_bang s p hp] at hua hsh
          have e0 : ((uAt s p : Nat) : Int) = 1114112 + (s[p].toNat : Int) := by omega
          have e2 : (((Utf8.decode s p).1 : Nat) : Int) = 65533 := by omega
          have e3 : decide (128 ≤ (s[p].toNat : Int)) = true := decide_eq_true (by omega)
          simp only at q1 q0
          rw [e0] at q1
          rw [e2] at hnx
          clear hsh hua e0 e2 hst
          have e4 : ((1114112 + (s[p].toNat : Int)) != 65533) = true := by rw [bne_iff_ne]; omega
          have e5 : ((1114112 + (s[p].toNat : Int)) == 65533) = false := beq_eq_false_iff_ne.2 (by omega)
          have hw81 : wrap64 (1114112 + (s[p].toNat : Int)) = 1114112 + (s[p].toNat : Int) := by rw [← IntWalk.i64_left]; exact IntWalk.i64_in _ (by omega)
          go_wp2
          exact ⟨⟨done ++ [(p, uAt s p)], d + 1, p + uw s p, k, by go_num, by have := hd.out; show d + 1 = (done ++ [(p, uAt s p)]).length; simp; omega, hit2, HR, by have := uw_pos s p; omega, hrow2, hb2⟩, HM.out⟩
        | false =>
          have hua := uAt_rune hst
          have hdl3 := dec_lt s p
          have e0 : ((uAt s p : Nat) : Int) = (((Utf8.decode s p).1 : Nat) : Int) := by omega
          simp only at q1 q0
          rw [e0] at q1
          have hR1 : (((Utf8.decode s p).1 : Nat) : Int) < 1114112 := by omega
          have hR0 : 0 ≤ (((Utf8.decode s p).1 : Nat) : Int) := by omega
          have hfp : (((Utf8.decode s p).1 : Nat) : Int) = 65533 → p + 3 ≤ s.size ∧ s.extract p (p + 3) = ⟨#[239, 191, 189]⟩ := fun e => by
            refine hp_bytes s p ?_
            unfold strayAt at hst
            rw [show ((Utf8.decode s p).1 == 65533) = true by rw [beq_iff_eq]; omega] at hst
            simpa using hst
          clear hua hdl3 e0 hst
          generalize (((Utf8.decode s p).1 : Nat) : Int) = R at q1 hnx hR1 hR0 hfp
          have e1 : (R == 1114112 + (s[p].toNat : Int)) = false := beq_eq_false_iff_ne.2 (by omega)
          by_cases hf : R = 65533
          · obtain ⟨f1, f2⟩ := hfp hf
            have f3 : decide ((s.size : Int) < (p : Int) + 3) = false := decide_eq_false (by omega)
            have e5 : (R == 65533) = true := beq_iff_eq.2 hf
            have F2 : ((s.extract p (p + 3)).toList == [239, 191, 189]) = true := by rw [f2]; exact lit3
            have hp3 : (p : Int) + 3 ≤ (s.size : Int) := by omega
            clear hfp hf f2
            go_wp2
            exact ⟨⟨done ++ [(p, uAt s p)], d + 1, p + uw s p, k, by go_num, by have := hd.out; show d + 1 = (done ++ [(p, uAt s p)]).length; simp; omega, hit2, HR, by have := uw_pos s p; omega, hrow2, hb2⟩, HM.out⟩
          · have e5 : (R == 65533) = false := beq_eq_false_iff_ne.2 hf
            clear hfp
            go_wp2
            exact ⟨⟨done ++ [(p, uAt s p)], d + 1, p + uw s p, k, by go_num, by have := hd.out; show d + 1 = (done ++ [(p, uAt s p)]).length; simp; omega, hit2, HR, by have := uw_pos s p; omega, hrow2, hb2⟩, HM.out⟩
      · have hu1 := hu.out
        rw [unitsN_end s k p hp, List.append_nil] at hu1
        have hl : (units s).length = d := by rw [hu1]; exact hd.out.symm
        have hnx : ∀ ty, (Instr.next (.pointer (some ⟨w2.heap.size, 0, none⟩)) true ty).run Tryd.prog wr = _ := fun ty => Lib.run_next_end_at wr w2.heap.size s p ty hit hp
        have he : ((2 * (d : Int)) == (2 * ((units s).length : Int))) = true := by rw [hl]; simp
        clear hu1 hu hd
        go_wp2
        go_ret
        exact ⟨rfl, hb⟩
end Go.Proofs
