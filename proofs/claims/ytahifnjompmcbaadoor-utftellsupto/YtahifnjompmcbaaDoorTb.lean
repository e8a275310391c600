/-
  back, walked: a text's units from the end on, gone over as far as one likes.
-/
import Derived.RangeFuncNested
import Derived.RangeFuncBound
import Derived.RangeFuncCalls
import Derived.RangeFuncLeaves
import Derived.Shelf.Abstract
import Derived.Shelf.RegionOpen
import Derived.WalkKit
import Derived.WalkSpells
import Derived.WalkLawsBesides
import Derived.OwnWalkIn
import Derived.TacticsInMore
import Derived.LoopNIn
import Derived.LoopIn
import Derived.BigQuiet
import Derived.RegionIn
import Derived.Deep.QuietTactic
import Derived.Lib.OthersKept
import Derived.Maps.AppendAt
import Derived.Lib.SmallJoins
import Derived.Lib.IndexBytes
import Derived.Test.YtahifnjompmcbaaDoorFo
import Derived.Test.YtahifnjompmcbaaDoorUh
namespace Go.Proofs
open Go.RowKit Go.Shelf

set_option maxRecDepth 100000
attribute [local go_sem] Oper.semAt_some
set_option maxHeartbeats 2000000 in
theorem backs_any (s : ByteArray) (m : Int) (w : World) (hs : s.size ≤ 4398046511104) (hm : m ≤ 9223372036854775807) :
    Calls Tryd.prog 12 #[.string s, .int .i64 m] w fun e w' => ∃ v, e = .returned v ∧ w'.ownsRow w.heap.size 3 1 v (2 * ((backU s).take m.toNat).length) (flat ((backU s).take m.toNat)) ∧ Below w.heap.size w w' := by
  obtain ⟨i0, hi, hz0, hz1, hz2⟩ := info_parts info3
  refine (callsIn_wide (n := 9)).1 ?_
  refine callsIn_of_wp_marks Tryd.func12 rfl trivial ?_ rfl
  simp only [Tryd.ntmps12, List.size_toArray, List.length_cons, List.length_nil, Nat.reduceAdd, Nat.reduceSub, Array.replicate_succ, Array.replicate_zero, List.push_toArray, List.append_toArray, List.nil_append, List.cons_append]
  gi_wp2_with (refine ⟨trivial, ?_⟩; gi_at_call 34; refine (callsIn_wide.2 (back_any _ _)).mono ?_; rintro e w' ⟨rfl, rfl⟩)
  have b0 : Boxed (w.alloc (.cells #[.int .i64 m] 3)) w.heap.size 3 (.int .i64 m) := Boxed.new _ _ _
  have r1 := World.ownsRow_lit (base := w.heap.size + 1) (e := 3) (size := 1) (w.alloc (.cells #[.int .i64 m] 3)) #[] 0 (by rw [World.size_alloc]; omega) (by unfold maxLen; omega) rfl
  rw [World.size_alloc] at r1
  have b2 : Boxed (((w.alloc (.cells #[.int .i64 m] 3)).alloc (.cells #[] 3)).alloc (.cells #[.slice (some ⟨w.heap.size + 1, 0, none⟩) 0 0] 25)) (w.heap.size + 1 + 1) 25 (.slice (some ⟨w.heap.size + 1, 0, none⟩) 0 0) := by have := Boxed.new ((w.alloc (.cells #[.int .i64 m] 3)).alloc (.cells #[] 3)) 25 (.slice (some ⟨w.heap.size + 1, 0, none⟩) 0 0); rwa [World.size_alloc, World.size_alloc] at this
  have b3 : Boxed ((((w.alloc (.cells #[.int .i64 m] 3)).alloc (.cells #[] 3)).alloc (.cells #[.slice (some ⟨w.heap.size + 1, 0, none⟩) 0 0] 25)).alloc (.cells #[.string s] 9)) (w.heap.size + 1 + 1 + 1) 9 (.string s) := by have := Boxed.new (((w.alloc (.cells #[.int .i64 m] 3)).alloc (.cells #[] 3)).alloc (.cells #[.slice (some ⟨w.heap.size + 1, 0, none⟩) 0 0] 25)) 9 (.string s); rwa [World.size_alloc, World.size_alloc, World.size_alloc] at this
  have hB0 : Below w.heap.size w ((((w.alloc (.cells #[.int .i64 m] 3)).alloc (.cells #[] 3)).alloc (.cells #[.slice (some ⟨w.heap.size + 1, 0, none⟩) 0 0] 25)).alloc (.cells #[.string s] 9)) := ((((Below.refl _ w).alloc (Nat.le_refl _) _).alloc (by simp) _).alloc (by simp; omega) _).alloc (by simp; omega) _
  refine wpIn_rangeFunc_ownF rfl (by omega) (gf := 47) (lb := #[.pointer (some ⟨w.heap.size + 1 + 1 + 1, 0, none⟩)]) rfl trivial (enters_of Tryd.func47 (by kernel_rfl) rfl)
    (back_stops 8 (by omega) (w.heap.size + 1 + 1 + 1) s (by unfold maxLen; omega) _ (by simp) b3.cell) kpA_t kpA_b (Below.refl _ _) (fun _ => rfl)
    (fun pre W => FI s m w.heap.size pre W ∧ Below w.heap.size w W)
    (fun c pre W => FX s m w.heap.size c pre W ∧ Below w.heap.size w W)
    (OwnFrom.and (Own.from (FI_own _ _ _) _) (ownFrom_below (Nat.le_refl _) (by simp; omega)))
    (fun c => OwnFrom.and (Own.from (FX_own _ _ _ c) _) (ownFrom_below (Nat.le_refl _) (by simp; omega)))
    ⟨⟨_, b2.alloc _, (r1.alloc _).alloc _, by simpa using ((b0.alloc _).alloc _).alloc _, b3, Nat.zero_le _⟩, hB0⟩
    (fun x => { tmps := #[.string s, .int .i64 m, undef, .pointer (some ⟨w.heap.size, 0, none⟩), .slice none 0 0, .pointer (some ⟨w.heap.size + 1 + 1, 0, none⟩), .int .i64 x.1.1, .int .i64 x.1.2, .slice (some ⟨w.heap.size + 1, 0, none⟩) 0 0, .string s, .func (.func 47) #[] #[.pointer (some ⟨w.heap.size + 1 + 1 + 1, 0, none⟩)], .int .i64 x.1.1, .int .i64 x.1.2, undef, undef, undef, undef, undef, undef, undef, undef, undef, undef], defers := [] }) ?assign ?body ?done ?stop
  case assign =>
    intro l x W K hK
    gi_wp2
    exact hK
  case body =>
    as_aux_lemma =>
      rintro l pre x W ⟨⟨v, h1, h2, h3, h4, h5⟩, hB⟩ hlt
      clear b0 r1 b2 b3 hB0
      have c1 := h1.cell
      have c3 := h3.cell
      have f3 := h3.frozen
      by_cases hle : m - (pre.length : Int) ≤ 0
      · have hd : decide (m - (pre.length : Int) ≤ 0) = true := by simpa using hle
        gi_wp2
        exact ⟨KeepsOthers.refl _, ⟨rfl, vals pre, x.1, v, vals_snoc pre x, by rw [vals_length]; omega, h1, by rw [vals_length]; exact h2⟩, hB⟩
      · have hd : decide (m - (pre.length : Int) ≤ 0) = false := by simpa using hle
        have hpos : 0 < m - (pre.length : Int) := by omega
        have hup : m - (pre.length : Int) ≤ 9223372036854775807 := by omega
        obtain ⟨q, hq⟩ : ∃ q : Int, m - (pre.length : Int) = q := ⟨_, rfl⟩
        have HQ : Hid (m - (pre.length : Int) = q) := hq
        rw [hq] at c3 h3 hd hpos hup
        clear hq hle
        have hz := hB.size
        have hzl := h4.lt
        have k1 := h1.other (B' := w.heap.size) (by omega) (.int .i64 (q - 1))
        have k2 := ownsRow_setCell_below h2 (a := ⟨w.heap.size, 0, none⟩) (by simp) (.int .i64 (q - 1))
        have k3 := h3.set (.int .i64 (q - 1))
        have k4 := h4.other (B' := w.heap.size) (by omega) (.int .i64 (q - 1))
        have kc1 := k1.cell
        have hsz : (W.setCell ⟨w.heap.size, 0, none⟩ (.int .i64 (q - 1))).heap.size = W.heap.size := by simp
        have hnew := cell_two_new (W.setCell ⟨w.heap.size, 0, none⟩ (.int .i64 (q - 1))) (.int .i64 (x.1.1 : Int)) (.int .i64 (x.1.2 : Int)) 3
        rw [hsz] at hnew
        have HN : Hid (∀ (j : Nat) (u : Value), [Value.int .i64 (x.1.1 : Int), Value.int .i64 (x.1.2 : Int)][j]? = some u → ((W.setCell ⟨w.heap.size, 0, none⟩ (.int .i64 (q - 1))).alloc (.cells #[.int .i64 (x.1.1 : Int), .int .i64 (x.1.2 : Int)] 3)).cell? ((⟨W.heap.size, 0, none⟩ : Addr).add j) = some u) := hnew
        have HZ : Hid ((W.setCell ⟨w.heap.size, 0, none⟩ (.int .i64 (q - 1))).heap.size = W.heap.size) := hsz
        clear hnew hsz
        gi_wp2_with (gi_at_builtin; go_must (refine wpListIn_append_own _ rfl _ _ 25 rfl (w.heap.size + 1) 3 i0 (.int .i64 0) 1 8 Tryd.underlying25 hi hz0 hz1 hz2 rfl (by decide) _ _ _ rfl (k2.alloc _) ⟨W.heap.size, 0, none⟩ 2 2 [.int .i64 (x.1.1 : Int), .int .i64 (x.1.2 : Int)] rfl rfl HN.out (by simp [Value.oneCell']) (by unfold maxLen; omega) (by omega) (by rw [World.size_alloc, HZ.out]; omega) ?_); intro v' w1 hown' hgrow _; obtain ⟨g', cap', rfl⟩ := ownsRow_succ (k := 2 * pre.length + 1) hown'; obtain ⟨hv1, hv2, hr2, hk2, hb2⟩ := k1.appended (by decide) k2 (by rw [HZ.out]; omega) (by omega) hown' hgrow; have hc1 := hv1.cell; have hf1 := hv1.frozen)
        have m4 := ((k4.alloc _).kept hgrow (k4.not_row (by decide) k2)).other (B' := w.heap.size + 1 + 1) (by omega) (.slice (some ⟨g', 0, none⟩) (2 * pre.length + 1 + 1) cap')
        have m3 := boxed_below k3 hb2 (by omega)
        have hko := (KeepsOthers.setCell W ⟨w.heap.size, 0, none⟩ (.int .i64 (q - 1))).trans hk2
        have hlen : (pre ++ [x]).length = pre.length + 1 := by simp
        have hqq := HQ.out
        refine ⟨hko, kpA_of hko (fun u hu => ?_), ⟨_, hv2, ?_, ?_, m4, by rw [hlen]; omega⟩, (hB.setCell (p := ⟨w.heap.size, 0, none⟩) (Nat.le_refl _) _).trans (hb2.mono (by omega))⟩
        · rw [h4.cell] at hu
          rw [m4.cell]; exact hu
        · rw [hlen, vals_snoc, flat_snoc, show 2 * (pre.length + 1) = 2 * pre.length + 2 by omega]
          exact hr2
        · rw [hlen, show m - ((pre.length + 1 : Nat) : Int) = q - 1 by omega]
          exact m3
  case done =>
    as_aux_lemma =>
      rintro D ys W hD hys ⟨⟨v, h1, h2, h3, h4, h5⟩, hB⟩ hK
      have HT : Hid ((backU s).take m.toNat = vals ys) := by
        show (backU s).take m.toNat = vals ys
        rw [← hys, List.take_of_length_le (by rw [vals_length]; exact h5)]
      clear b0 r1 b2 b3 hB0 hys
      have c1 := h1.cell
      gi_wp2
      refine ⟨by simp, .inl ⟨_, _, rfl, run_takeDeferred hK, ?_⟩⟩
      refine ⟨_, results_tmp rfl _ _ _, v, rfl, ?_, hB.trans (belowK_b (w := w) (Nat.le_refl _) W D _ _ (by simp at hD; omega) hK rfl rfl)⟩
      rw [HT.out, vals_length]
      exact Joins.ownsRow_le (ownsRow_putObj h2 _ hK rfl) (by omega)
  case stop =>
    as_aux_lemma =>
      rintro D c pre W hD hpre ⟨⟨rfl, q, x, v, hq, hl, h1, h2⟩, hB⟩ hK
      have HT : Hid ((backU s).take m.toNat = q) := by
        show (backU s).take m.toNat = q
        obtain ⟨t, ht⟩ := hpre.1
        rw [← ht, hq, ← hl, List.append_assoc, List.take_left']
        rfl
      clear b0 r1 b2 b3 hB0 hpre hq
      have c1 := h1.cell
      gi_wp2
      refine ⟨by simp, .inl ⟨_, _, rfl, run_takeDeferred hK, ?_⟩⟩
      refine ⟨_, results_tmp rfl _ _ _, v, rfl, ?_, hB.trans (belowK_b (w := w) (Nat.le_refl _) W D _ _ (by simp at hD; omega) hK rfl rfl)⟩
      rw [HT.out]
      exact Joins.ownsRow_le (ownsRow_putObj h2 _ hK rfl) (by omega)
end Go.Proofs
