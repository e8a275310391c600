/-
  UtfTells, walked.
-/
import Derived.RangeFuncNested
import Derived.RangeFuncBound
import Derived.RangeFuncCalls
import Derived.RangeFuncLeaves
import Derived.Shelf.Abstract
import Derived.Shelf.RegionOpen
import Derived.WalkKit
import Derived.WalkSpells
import Derived.WalkLawsBesides
import Derived.OwnWalkIn
import Derived.TacticsInMore
import Derived.LoopNIn
import Derived.LoopIn
import Derived.BigQuiet
import Derived.RegionIn
import Derived.Deep.QuietTactic
import Derived.Lib.OthersKept
import Derived.Maps.AppendAt
import Derived.Lib.IndexBytes
import Derived.Lib.SmallJoins
import Derived.Deep.RegionWith
import Derived.ArgAppend
import Derived.Laws.CopyOwn
import Derived.Laws.MakeOwn
import Derived.Deep.RegionHeld3
import Derived.Deep.AppendLies
import Derived.Test.YtahifnjompmcbaaDoorTk
import Derived.Test.YtahifnjompmcbaaDoorUh
namespace Go.Proofs
open Go.RowKit Go.Shelf

set_option maxRecDepth 100000
attribute [local go_sem] Oper.semAt_some

/-- two lists that are alike -/
theorem same_eq (v1 v2 : Value) (xs : List Int) (w : World) (h1 : Ints w v1 xs) (h2 : Ints w v2 xs) (hn : xs.length ≤ 1152921504606846976) : Calls Tryd.prog 13 #[v1, v2] w fun e w' => e = .returned (.bool true) ∧ Below w.heap.size w w' :=
  (same_any v1 v2 xs xs w h1 h2 hn).mono fun e w' ⟨he, q, hq⟩ => ⟨by rw [he, show (xs == xs) = true by simp], by rw [hq]; exact below_drew w q⟩
theorem size_le4 (s : ByteArray) : ∀ k p, p ≤ s.size → s.size ≤ p + k → s.size - p ≤ 4 * (unitsN s k p).length
  | 0, p, h1, h2 => by omega
  | k + 1, p, h1, h2 => by
    by_cases h : p < s.size
    · have hu := uw_pos s p
      have hl := uw_le s p
      have hi := uw_in s p h
      have ih := size_le4 s k (p + uw s p) hi (by omega)
      rw [unitsN_step s k p h, List.length_cons]
      omega
    · omega
theorem grownBy_set (W : World) (g i : Nat) (u : Value) : W.grownBy (W.setCell ⟨g, i, none⟩ u) (some g) :=
  ⟨rfl, rfl, rfl, by simp [World.setCell], fun k hk hne => by
    simp only [World.setCell, Array.getElem?_modify]
    rw [if_neg (fun e => hne (by rw [e]))]⟩
theorem cells_set3 {w : World} {g : Nat} {cur : Array Value} {t : TypeId} {j : Nat} {u : Value} (h : w.heap[g]? = some (.cells cur t (0, 0))) : (w.setCell ⟨g, j, none⟩ u).heap[g]? = some (.cells (cur.setIfInBounds j u) t (0, 0)) := by
  have hlt := (Array.getElem?_eq_some_iff.1 h).1
  have h' : w.heap[g] = .cells cur t (0, 0) := by simpa [Array.getElem?_eq_getElem hlt] using h
  show (w.heap.modify g _)[g]? = _
  rw [Array.getElem?_eq_getElem (by simpa using hlt), Array.getElem_modify_self, h']
  rfl
/-- a number of a row of the call's own, written anew -/
theorem own_put3 {w : World} {base g n cap : Nat} {ys : List Value} (h : w.ownsRow base 3 1 (.slice (some ⟨g, 0, none⟩) n cap) n ys) (i : Nat) (hi : i < n) (u : Value) :
    (∃ v, w.cell? ⟨g, i, none⟩ = some v) ∧ w.frozen? ⟨g, i, none⟩ = false ∧ ∃ ys', (w.setCell ⟨g, i, none⟩ u).ownsRow base 3 1 (.slice (some ⟨g, 0, none⟩) n cap) n ys' := by
  obtain ⟨h1, h2⟩ := h
  rcases h2 with ⟨h2, _⟩ | ⟨g', cap', cur, hv, hg, hh, hc, hm, hs, ht⟩
  · cases h2
  · cases hv
    refine ⟨⟨cur[i], by simp [World.cell?, hh]⟩, by simp [World.frozen?, hh], ys.set i u, by simpa using h1, .inr ⟨g, cap, cur.setIfInBounds i u, rfl, hg, cells_set3 hh, hc, hm, by simpa using hs, ?_⟩⟩
    rw [Array.toList_setIfInBounds, List.take_set, ht]
set_option maxHeartbeats 16000000 in
theorem tellsLaw_any (s : ByteArray) (many : Int) (w : World) (hs : s.size ≤ 1099511627776) (hk1 : -9223372036854775808 ≤ many) (hk2 : many ≤ 9223372036854775807) (hT : Tab w) :
    Calls Tryd.prog 3 #[.string s, .int .i64 many] w fun e w' => e = .returned (.bool true) ∧ Below w.heap.size w w' := by
  obtain ⟨i0, hi0, hz0, hz1, hz2⟩ := uinfo_parts info3
  have hul := units_len s
  have HT : Hid (Tab w) := hT
  go_enter Tryd.func3, Tryd.ntmps3
  go_wp2_with fail
  refine (shown_any _ hT).mono ?_
  rintro e w1 ⟨rfl, hb⟩
  have HB1 : Hid (Below w.heap.size w w1) := hb
  clear hb hT
  go_wp2_with fail
  refine (runits_any s _ (by omega)).mono ?_
  rintro e w2 ⟨v, rfl, hO, hb⟩
  have HB2 : Hid (Below w.heap.size w w2) := HB1.out.trans (hb.mono HB1.out.size)
  obtain ⟨A, L, cap, rfl, hL, hcells⟩ : ∃ A L cap, v = .slice A L cap ∧ L = (units s).length ∧ ∀ j x, (units s)[j]? = some x → ∃ g, A = some ⟨g, 0, none⟩ ∧ g < w2.heap.size ∧ w2.cell? ⟨g, j * 2, none⟩ = some (.int .i64 x.1) ∧ w2.cell? ⟨g, j * 2 + 1, none⟩ = some (.int .i64 x.2) ∧ L ≤ cap := by
    rcases hO.2 with ⟨rfl, h0⟩ | ⟨g, cap, cur, rfl, _, hh, hc, _⟩
    · have : units s = [] := List.eq_nil_of_length_eq_zero h0
      exact ⟨none, 0, 0, rfl, by rw [this]; rfl, fun j x h => by rw [this] at h; simp at h⟩
    · exact ⟨_, _, cap, rfl, rfl, fun j x h => ⟨g, rfl, (Array.getElem?_eq_some_iff.1 hh).1, (OwnU.at hO h).1, (OwnU.at hO h).2, hc⟩⟩
  have HC : Hid (∀ j x, (units s)[j]? = some x → ∃ g, A = some ⟨g, 0, none⟩ ∧ g < w2.heap.size ∧ w2.cell? ⟨g, j * 2, none⟩ = some (.int .i64 x.1) ∧ w2.cell? ⟨g, j * 2 + 1, none⟩ = some (.int .i64 x.2) ∧ L ≤ cap) := hcells
  have HL : Hid (L = (units s).length) := hL
  have hLs : L ≤ s.size := by omega
  have hLb : L ≤ 1099511627776 := by omega
  clear hcells hb hO hL hul HB1
  obtain ⟨B2, hB2⟩ : ∃ B2, w2.heap.size = B2 := ⟨_, rfl⟩
  have HZ2 : Hid (w2.heap.size = B2) := hB2
  have hr0 : (w2.alloc (.cells #[] 3)).ownsRow B2 3 1 (.slice (some ⟨B2, 0, none⟩) 0 0) 0 [] := by rw [← hB2]; exact World.ownsRow_lit w2 _ 0 (Nat.le_refl _) (by unfold maxLen; omega) rfl
  have HR0 : Hid ((w2.alloc (.cells #[] 3)).ownsRow B2 3 1 (.slice (some ⟨B2, 0, none⟩) 0 0) 0 []) := hr0
  clear hr0
  go_wp2
  clear hB2
  go_loopw [7, 8] (fun vp vi wr => ∃ i : Nat, vi = .int .i64 i ∧ i ≤ L ∧ wr.ownsRow B2 3 1 vp (2 * i) (flat ((units s).take i)) ∧ Below B2 w2 wr) (fun _ vi _ => L - (intOf vi).toNat)
  case atStart => exact ⟨0, rfl, by omega, by simpa [flat] using HR0.out, (Below.refl _ w2).alloc (by rw [HZ2.out]; exact Nat.le_refl _) _⟩
  case round =>
    clear HR0
    obtain ⟨i, rfl, hi, hP, hW⟩ := hrel
    have hz : B2 ≤ wr.heap.size := by rw [← HZ2.out]; exact hW.size
    by_cases hin : i = L
    · have hni := hin.symm
      subst hni
      obtain ⟨W3, hW3⟩ : ∃ W3, W3 = wr := ⟨_, rfl⟩
      subst hW3
      have HP3 : Hid (W3.ownsRow B2 3 1 u7 (2 * L) (flat (units s))) := by
        have := hP
        rw [List.take_of_length_le (by rw [← HL.out]; exact Nat.le_refl _)] at this
        exact this
      have HB3 : Hid (Below B2 w2 W3) := hW
      clear hP hW hi hin hz
      obtain ⟨B3, hB3⟩ : ∃ B3, W3.heap.size = B3 := ⟨_, rfl⟩
      have HZ3 : Hid (W3.heap.size = B3) := hB3
      have HR0 : Hid ((W3.alloc (.cells #[] 3)).ownsRow B3 3 1 (.slice (some ⟨B3, 0, none⟩) 0 0) 0 []) := by show World.ownsRow _ _ _ _ _ _ _; rw [← hB3]; exact World.ownsRow_lit W3 _ 0 (Nat.le_refl _) (by unfold maxLen; omega) rfl
      have h23 : B2 ≤ B3 := by rw [← HZ3.out, ← HZ2.out]; exact HB3.out.size
      go_wp2
      clear hB3
      go_loopw [9, 10] (fun vt vi wr => ∃ t : Nat, vi = .int .i64 ((L : Int) - 1 - t) ∧ t ≤ L ∧ wr.ownsRow B3 3 1 vt (2 * t) (flat ((units s).reverse.take t)) ∧ Below B3 W3 wr) (fun _ vi _ => (intOf vi + 1).toNat)
      case atStart => exact ⟨0, by go_num, by omega, by simpa [flat] using HR0.out, (Below.refl _ W3).alloc (by rw [HZ3.out]; exact Nat.le_refl _) _⟩
      case round =>
        clear HR0
        obtain ⟨t, rfl, ht, hP, hW⟩ := hrel
        have hz : B3 ≤ wr.heap.size := by rw [← HZ3.out]; exact hW.size
        by_cases htn : t = L
        · have hni := htn.symm
          subst hni
          obtain ⟨W4, hW4⟩ : ∃ W4, W4 = wr := ⟨_, rfl⟩
          subst hW4
          have hform : ∀ {B : Nat} {v : Value} {xs : List Value}, W4.ownsRow B 3 1 v (2 * L) xs → ∃ a c, v = .slice a (2 * L) c ∧ 2 * L ≤ c := by
            intro B v xs h
            rcases h.2 with ⟨rfl, h0⟩ | ⟨g, c, cur, rfl, _, _, hc, _⟩
            · exact ⟨none, 0, by rw [h0], by omega⟩
            · exact ⟨_, c, rfl, hc⟩
          have HPW : W4.ownsRow B2 3 1 u7 (2 * L) (flat (units s)) := row_below5 HP3.out hW (by rw [HZ3.out]; exact Nat.le_refl _)
          have hT4 : W4.ownsRow B3 3 1 u9 (2 * L) (flat (units s).reverse) := by
            have := hP
            rw [List.take_of_length_le (by rw [List.length_reverse, ← HL.out]; exact Nat.le_refl _)] at this
            exact this
          have IP4 : Hid (Ints W4 u7 (flatI (units s))) := ints_of_flat (by rw [HL.out]) HPW
          have IT4 : Hid (Ints W4 u9 (flatI (units s).reverse)) := ints_of_flat (by rw [List.length_reverse, HL.out]) hT4
          obtain ⟨a7, c7, rfl, hc7⟩ := hform HPW
          obtain ⟨a9, c9, rfl, hc9⟩ := hform hT4
          have HBW4 : Hid (Below w.heap.size w W4) := (HB2.out.trans (HB3.out.mono (by rw [← HZ2.out]; exact HB2.out.size))).trans (hW.mono (by have := HB2.out.size; have := HZ2.out; omega))
          clear hform HPW hT4 hP hW HP3 HB3 HB2 HC ht htn hz HZ3 HZ2 h23
          have d0 : decide ((0 : Int) ≤ (L : Int) - 1 - (L : Int)) = false := by rw [decide_eq_false_iff_not]; omega
          obtain ⟨d, hd⟩ : ∃ d, (L : Int) + 2 = d := ⟨_, rfl⟩
          obtain ⟨m, hmL, hneg, hpos⟩ : ∃ m : Nat, m ≤ L + 1 ∧ (many < 0 → -(many + 1).tmod d = (m : Int)) ∧ (0 ≤ many → many.tmod d = (m : Int) ∧ many % d = (m : Int)) := by
            have hd1 : 0 < d := by omega
            by_cases hm : many < 0
            · have h1 : -(many + 1).tmod d = (-(many + 1)) % d := by rw [← Int.neg_tmod, Int.tmod_eq_emod_of_nonneg (by omega)]
              have h2 := Int.emod_nonneg (-(many + 1)) (show d ≠ 0 by omega)
              have h3 := Int.emod_lt_of_pos (-(many + 1)) hd1
              exact ⟨((-(many + 1)) % d).toNat, by omega, fun _ => by rw [h1]; omega, fun h => by omega⟩
            · have h1 : many.tmod d = many % d := Int.tmod_eq_emod_of_nonneg (by omega)
              have h2 := Int.emod_nonneg many (show d ≠ 0 by omega)
              have h3 := Int.emod_lt_of_pos many hd1
              exact ⟨(many % d).toNat, by omega, fun h => by omega, fun _ => ⟨by rw [h1]; omega, by omega⟩⟩
          have HTM : Hid ((units s).take m = (units s).take (min m L)) := by
            show _ = _
            by_cases h : m ≤ L
            · rw [Nat.min_eq_left h]
            · rw [Nat.min_eq_right (by omega), List.take_of_length_le (by rw [← HL.out]; omega), List.take_of_length_le (by rw [← HL.out]; omega)]
          have HTR : Hid ((units s).reverse.take m = (units s).reverse.take (min m L)) := by
            show _ = _
            by_cases h : m ≤ L
            · rw [Nat.min_eq_left h]
            · rw [Nat.min_eq_right (by omega), List.take_of_length_le (by rw [List.length_reverse, ← HL.out]; omega), List.take_of_length_le (by rw [List.length_reverse, ← HL.out]; omega)]
          obtain ⟨k, hk, hkL⟩ : ∃ k, min m L = k ∧ k ≤ L := ⟨_, rfl, by omega⟩
          rw [hk] at HTM HTR
          have hsgn : (many < 0 ∨ 0 ≤ many) ∧ (m ≤ L ∨ L < m) := ⟨by omega, by omega⟩
          rcases hsgn with ⟨hm | hm, hmk | hmk⟩
          all_goals
            first
              | (have ht := hneg hm)
              | (obtain ⟨ht, ht2⟩ := hpos hm)
            first
              | (have dk : decide ((L : Int) < (m : Int)) = false := by rw [decide_eq_false_iff_not]; omega); (have dk' : decide (L < m) = false := by rw [decide_eq_false_iff_not]; omega); (have hkm : k = m := by omega)
              | (have dk : decide ((L : Int) < (m : Int)) = true := by rw [decide_eq_true_iff]; omega); (have dk' : decide (L < m) = true := by rw [decide_eq_true_iff]; omega); (have hkm : k = L := by omega)
            clear hneg hpos hk
            go_wp2_with fail
          all_goals
            as_aux_lemma =>
              have HB4 : Hid (Below w.heap.size w W4) := HBW4.out
              clear HBW4
              have hsz : ((s.size : Int) + 1).toNat = s.size + 1 := by omega
              have hal : (units s).take (s.size + 1) = units s := List.take_of_length_le (by rw [← HL.out]; omega)
              have hlr : (units s).reverse.take (s.size + 1) = (units s).reverse := List.take_of_length_le (by rw [List.length_reverse, ← HL.out]; omega)
              have cF : Hid (∀ W : World, Calls Tryd.prog 11 #[.string s, .int .i64 ((s.size : Int) + 1)] W fun e w' => ∃ v, e = .returned v ∧ Ints w' v (flatI (units s)) ∧ Below W.heap.size W w') := fun W => by
                refine (forth_any s _ W (by omega) (by omega)).mono ?_
                rw [hsz, hal]
                rintro e w' ⟨v, rfl, h1, h2⟩
                exact ⟨v, rfl, ints_of_flat rfl h1, h2⟩
              have cK : Hid (∀ W : World, Calls Tryd.prog 12 #[.string s, .int .i64 ((s.size : Int) + 1)] W fun e w' => ∃ v, e = .returned v ∧ Ints w' v (flatI (units s).reverse) ∧ Below W.heap.size W w') := fun W => by
                refine (backs_any s _ W (by omega) (by omega)).mono ?_
                rw [hsz, back_rev, hlr]
                rintro e w' ⟨v, rfl, h1, h2⟩
                exact ⟨v, rfl, ints_of_flat rfl h1, h2⟩
              have cFm : Hid (∀ W : World, Calls Tryd.prog 11 #[.string s, .int .i64 (m : Int)] W fun e w' => ∃ v, e = .returned v ∧ Ints w' v (flatI ((units s).take m)) ∧ Below W.heap.size W w') := fun W => by
                refine (forth_any s _ W (by omega) (by omega)).mono ?_
                rw [Int.toNat_natCast]
                rintro e w' ⟨v, rfl, h1, h2⟩
                exact ⟨v, rfl, ints_of_flat rfl h1, h2⟩
              have cKm : Hid (∀ W : World, Calls Tryd.prog 12 #[.string s, .int .i64 (m : Int)] W fun e w' => ∃ v, e = .returned v ∧ Ints w' v (flatI ((units s).reverse.take m)) ∧ Below W.heap.size W w') := fun W => by
                refine (backs_any s _ W (by omega) (by omega)).mono ?_
                rw [Int.toNat_natCast, back_rev]
                rintro e w' ⟨v, rfl, h1, h2⟩
                exact ⟨v, rfl, ints_of_flat rfl h1, h2⟩
              have hlen1 : (flatI (units s)).length ≤ 1152921504606846976 := by rw [flatI_length, ← HL.out]; omega
              have hlen2 : (flatI (units s).reverse).length ≤ 1152921504606846976 := by rw [flatI_length, List.length_reverse, ← HL.out]; omega
              have hlen3 : (flatI ((units s).take m)).length ≤ 1152921504606846976 := by rw [flatI_length, List.length_take, ← HL.out]; omega
              have hlen4 : (flatI ((units s).reverse.take m)).length ≤ 1152921504606846976 := by rw [flatI_length, List.length_take, List.length_reverse, ← HL.out]; omega
              have HE1 : Hid (flatI ((units s).take m) = (flatI (units s)).take (2 * k)) := by show _ = _; rw [HTM.out, flatI_take]
              have HE2 : Hid (flatI ((units s).reverse.take m) = (flatI (units s).reverse).take (2 * k)) := by show _ = _; rw [HTR.out, flatI_take]
              have HKL1 : Hid (2 * k ≤ (flatI (units s)).length) := by show _ ≤ _; rw [flatI_length, ← HL.out]; omega
              have HKL2 : Hid (2 * k ≤ (flatI (units s).reverse).length) := by show _ ≤ _; rw [flatI_length, List.length_reverse, ← HL.out]; omega
              clear hal hlr hsz HTM HTR
              refine (cF.out _).mono ?_
              rintro e W5 ⟨v12, rfl, hI, hb⟩
              have IA5 : Hid (Ints W5 v12 (flatI (units s))) := hI
              have IP5 : Hid (Ints W5 (.slice a7 (2 * L) c7) (flatI (units s))) := IP4.out.below hb (Nat.le_refl _)
              have IT5 : Hid (Ints W5 (.slice a9 (2 * L) c9) (flatI (units s).reverse)) := IT4.out.below hb (Nat.le_refl _)
              have HB5 : Hid (Below w.heap.size w W5) := HB4.out.trans (hb.mono HB4.out.size)
              clear hb IP4 IT4 HB4
              clear hI cF
              go_wp2_with fail
              refine (cK.out _).mono ?_
              rintro e W6 ⟨v13, rfl, hI, hb⟩
              have IB6 : Hid (Ints W6 v13 (flatI (units s).reverse)) := hI
              have IP6 : Hid (Ints W6 (.slice a7 (2 * L) c7) (flatI (units s))) := IP5.out.below hb (Nat.le_refl _)
              have IT6 : Hid (Ints W6 (.slice a9 (2 * L) c9) (flatI (units s).reverse)) := IT5.out.below hb (Nat.le_refl _)
              have IA6 : Hid (Ints W6 v12 (flatI (units s))) := IA5.out.below hb (Nat.le_refl _)
              have HB6 : Hid (Below w.heap.size w W6) := HB5.out.trans (hb.mono HB5.out.size)
              clear hb IP5 IT5 IA5 HB5
              clear hI cK
              go_wp2_with fail
              refine (cFm.out _).mono ?_
              rintro e W7 ⟨v14, rfl, hI, hb⟩
              have IC7 : Hid (Ints W7 v14 (flatI ((units s).take m))) := hI
              have IP7 : Hid (Ints W7 (.slice a7 (2 * L) c7) (flatI (units s))) := IP6.out.below hb (Nat.le_refl _)
              have IT7 : Hid (Ints W7 (.slice a9 (2 * L) c9) (flatI (units s).reverse)) := IT6.out.below hb (Nat.le_refl _)
              have IA7 : Hid (Ints W7 v12 (flatI (units s))) := IA6.out.below hb (Nat.le_refl _)
              have IB7 : Hid (Ints W7 v13 (flatI (units s).reverse)) := IB6.out.below hb (Nat.le_refl _)
              have HB7 : Hid (Below w.heap.size w W7) := HB6.out.trans (hb.mono HB6.out.size)
              clear hb IP6 IT6 IA6 IB6 HB6
              clear hI cFm
              go_wp2_with fail
              refine (cKm.out _).mono ?_
              rintro e W8 ⟨v15, rfl, hI, hb⟩
              have ID8 : Hid (Ints W8 v15 (flatI ((units s).reverse.take m))) := hI
              have IP8 : Hid (Ints W8 (.slice a7 (2 * L) c7) (flatI (units s))) := IP7.out.below hb (Nat.le_refl _)
              have IT8 : Hid (Ints W8 (.slice a9 (2 * L) c9) (flatI (units s).reverse)) := IT7.out.below hb (Nat.le_refl _)
              have IA8 : Hid (Ints W8 v12 (flatI (units s))) := IA7.out.below hb (Nat.le_refl _)
              have IB8 : Hid (Ints W8 v13 (flatI (units s).reverse)) := IB7.out.below hb (Nat.le_refl _)
              have IC8 : Hid (Ints W8 v14 (flatI ((units s).take m))) := IC7.out.below hb (Nat.le_refl _)
              have HB8 : Hid (Below w.heap.size w W8) := HB7.out.trans (hb.mono HB7.out.size)
              clear hb IP7 IT7 IA7 IB7 IC7 HB7
              clear hI cKm
              go_wp2_with fail
              refine (same_eq _ _ (flatI (units s)) _ IA8.out IP8.out hlen1).mono ?_
              rintro e W9 ⟨rfl, hb⟩
              have IP9 : Hid (Ints W9 (.slice a7 (2 * L) c7) (flatI (units s))) := IP8.out.below hb (Nat.le_refl _)
              have IT9 : Hid (Ints W9 (.slice a9 (2 * L) c9) (flatI (units s).reverse)) := IT8.out.below hb (Nat.le_refl _)
              have IB9 : Hid (Ints W9 v13 (flatI (units s).reverse)) := IB8.out.below hb (Nat.le_refl _)
              have IC9 : Hid (Ints W9 v14 (flatI ((units s).take m))) := IC8.out.below hb (Nat.le_refl _)
              have ID9 : Hid (Ints W9 v15 (flatI ((units s).reverse.take m))) := ID8.out.below hb (Nat.le_refl _)
              have HB9 : Hid (Below w.heap.size w W9) := HB8.out.trans (hb.mono HB8.out.size)
              clear hb IP8 IT8 IB8 IC8 ID8 HB8
              clear IA8
              go_wp2_with fail
              refine (same_eq _ _ (flatI (units s).reverse) _ IB9.out IT9.out hlen2).mono ?_
              rintro e W10 ⟨rfl, hb⟩
              have IP10 : Hid (Ints W10 (.slice a7 (2 * L) c7) (flatI (units s))) := IP9.out.below hb (Nat.le_refl _)
              have IT10 : Hid (Ints W10 (.slice a9 (2 * L) c9) (flatI (units s).reverse)) := IT9.out.below hb (Nat.le_refl _)
              have IC10 : Hid (Ints W10 v14 (flatI ((units s).take m))) := IC9.out.below hb (Nat.le_refl _)
              have ID10 : Hid (Ints W10 v15 (flatI ((units s).reverse.take m))) := ID9.out.below hb (Nat.le_refl _)
              have HB10 : Hid (Below w.heap.size w W10) := HB9.out.trans (hb.mono HB9.out.size)
              clear hb IP9 IT9 IC9 ID9 HB9
              clear IB9
              have hkc7 : 2 * (k : Int) ≤ (c7 : Int) := by omega
              have hkc9 : 2 * (k : Int) ≤ (c9 : Int) := by omega
              go_wp2_with fail
              refine (same_eq _ _ (flatI ((units s).take m)) _ IC10.out (by rw [HE1.out]; first | exact IP10.out.cut _ _ (by first | exact HKL1.out | (have h1 := HKL1.out; have h2 := hkm; omega)) | (have h2 := hkm; subst h2; exact IP10.out.cut _ _ HKL1.out)) hlen3).mono ?_
              rintro e W11 ⟨rfl, hb⟩
              have IT11 : Hid (Ints W11 (.slice a9 (2 * L) c9) (flatI (units s).reverse)) := IT10.out.below hb (Nat.le_refl _)
              have ID11 : Hid (Ints W11 v15 (flatI ((units s).reverse.take m))) := ID10.out.below hb (Nat.le_refl _)
              have HB11 : Hid (Below w.heap.size w W11) := HB10.out.trans (hb.mono HB10.out.size)
              clear hb IT10 ID10 HB10
              clear IC10 IP10
              go_wp2_with fail
              refine (same_eq _ _ (flatI ((units s).reverse.take m)) _ ID11.out (by rw [HE2.out]; first | exact IT11.out.cut _ _ (by first | exact HKL2.out | (have h1 := HKL2.out; have h2 := hkm; omega)) | (have h2 := hkm; subst h2; exact IT11.out.cut _ _ HKL2.out)) hlen4).mono ?_
              rintro e W12 ⟨rfl, hb⟩

              have HB12 : Hid (Below w.heap.size w W12) := HB11.out.trans (hb.mono HB11.out.size)
              clear hb  HB11
              clear ID11 IT11 hlen1 hlen2 hlen3 hlen4 HE1 HE2 HKL1 HKL2 hkc7 hkc9 hc7 hc9

              have HTB : Hid (∀ W : World, Below w.heap.size w W → Tab W) := fun W hW => HT.out.below hW HT.out.pos
              have h4s := size_le4 s s.size 0 (Nat.zero_le _) (by omega)
              have HU4 : Hid (s.size ≤ 4 * L) := by show _ ≤ _; rw [HL.out]; have : (unitsN s s.size 0).length = (units s).length := rfl; omega
              clear h4s
              have hway : (L ≤ 60 ∨ 60 < L) := by omega
              rcases hway with h60 | h60
              have d60 : decide ((L : Int) ≤ 60) = true := by rw [decide_eq_true_iff]; omega
              have d60' : decide (L ≤ 60) = true := by rw [decide_eq_true_iff]; omega
              obtain ⟨c, hc⟩ : ∃ c : Int, (((units s).length * ((units s).length + 1) / 2 : Nat) : Int) = c := ⟨_, rfl⟩
              have cWi : Hid (Calls Tryd.prog 14 #[.string s] W12 fun e w' => e = .returned (.int .i64 c) ∧ Below W12.heap.size W12 w') := by
                have := within_any s W12 (by have := HU4.out; omega)
                rw [hc] at this
                exact this
              rw [← HL.out] at hc
              obtain ⟨z, hz⟩ : ∃ z : Int, (L : Int) * ((L : Int) + 1) = z := ⟨_, rfl⟩
              have hzn : ((L * (L + 1) : Nat) : Int) = z := by rw [← hz]; push_cast; rfl
              have hz0 : 0 ≤ z := by omega
              have hz6 : z ≤ 3660 := by
                have : L * (L + 1) ≤ 60 * 61 := Nat.mul_le_mul h60 (by omega)
                omega
              have hzc : z / 2 = c := by omega
              have hzt : z.tdiv 2 = c := by rw [Int.tdiv_eq_ediv_of_nonneg hz0]; exact hzc
              clear hzn hc
              go_wp2_with fail
              refine cWi.out.mono ?_
              rintro e W13 ⟨rfl, hb⟩
              have HB13 : Hid (Below w.heap.size w W13) := HB12.out.trans (hb.mono HB12.out.size)
              clear hb cWi HB12 HU4
              go_wp2_with fail
              clear hzc hzt hz hz0 hz6
              rotate_left
              have d60 : decide ((L : Int) ≤ 60) = false := by rw [decide_eq_false_iff_not]; omega
              have d60' : decide (L ≤ 60) = false := by rw [decide_eq_false_iff_not]; omega
              have HB13 : Hid (Below w.heap.size w W12) := HB12.out
              clear HB12 HU4
              go_wp2_with fail
              generalize W12 = W13 at *
              all_goals
                as_aux_lemma =>
                  clear d60 d60' h60
                  refine (first_any s _ (by unfold maxLen; omega)).mono ?_
                  rintro e X1 ⟨rfl, hb⟩
                  have HC1 : Hid (Below w.heap.size w X1) := HB13.out.trans (hb.mono HB13.out.size)
                  clear hb HB13
                  go_wp2_with fail
                  refine (rfirst_any s _ (by omega)).mono ?_
                  rintro e X2 ⟨rfl, hb⟩
                  have HC2 : Hid (Below w.heap.size w X2) := HC1.out.trans (hb.mono HC1.out.size)
                  clear hb HC1
                  go_wp2_with fail
                  refine (last_any s _ (by unfold maxLen; omega)).mono ?_
                  rintro e X3 ⟨rfl, hb⟩
                  have HC3 : Hid (Below w.heap.size w X3) := HC2.out.trans (hb.mono HC2.out.size)
                  clear hb HC2
                  go_wp2_with fail
                  refine (rlast_any s _ (by omega)).mono ?_
                  rintro e X4 ⟨rfl, hb⟩
                  have HC4 : Hid (Below w.heap.size w X4) := HC3.out.trans (hb.mono HC3.out.size)
                  clear hb HC3
                  go_wp2_with fail
                  refine (open_any s _ (by unfold maxLen; omega) (HTB.out _ HC4.out)).mono ?_
                  rintro e X5 ⟨rfl, hb⟩
                  have HC5 : Hid (Below w.heap.size w X5) := HC4.out.trans (hb.mono HC4.out.size)
                  clear hb HC4
                  go_wp2_with fail
                  refine (ropen_any s _ (by omega)).mono ?_
                  rintro e X6 ⟨rfl, hb⟩
                  have HC6 : Hid (Below w.heap.size w X6) := HC5.out.trans (hb.mono HC5.out.size)
                  clear hb HC5 HTB HT
                  have hli : (ints (units s)).length ≤ 1152921504606846976 := by rw [ints_length, ← HL.out]; omega
                  have HLI : Hid ((ints (units s)).length = L) := by show _ = _; rw [ints_length, HL.out]
                  go_wp2_with fail
                  refine (cut_any s _ (by omega)).mono ?_
                  rintro e X7 ⟨v30, rfl, hO, hb⟩
                  rw [← HL.out] at hO
                  have HC7 : Hid (Below w.heap.size w X7) := HC6.out.trans (hb.mono HC6.out.size)
                  have O7 : Hid (X7.ownsRow X6.heap.size 3 1 v30 L (us (units s))) := hO
                  have hx6 := hb.size
                  have HXW0 : Hid (w.heap.size ≤ X6.heap.size) := HC6.out.size
                  clear hb hO
                  go_wp2_with fail
                  refine (rcut_own s _ (by omega)).mono ?_
                  rintro e X8 ⟨v31, rfl, hO, hb⟩
                  have HC8 : Hid (Below w.heap.size w X8) := HC7.out.trans (hb.mono HC7.out.size)
                  have O8 : Hid (X8.ownsRow X6.heap.size 3 1 v30 L (us (units s))) := row_below5 O7.out hb (Nat.le_refl _)
                  have W8o : Hid (OwnI0 X8 X7.heap.size v31 (ints (units s))) := hO
                  have HL7 : Hid (∀ g, v30.ownBlock = some g → g < X7.heap.size) := fun g e => (World.ownsRow.lt O7.out g e).2
                  have hx7 := hb.size
                  clear hb hO O7 HC7
                  go_wp2_with fail
                  refine (cut_any s _ (by omega)).mono ?_
                  rintro e X9 ⟨v32, rfl, hO, hb⟩
                  rw [← HL.out] at hO
                  have HC9 : Hid (Below w.heap.size w X9) := HC8.out.trans (hb.mono HC8.out.size)
                  have O9 : Hid (X9.ownsRow X6.heap.size 3 1 v30 L (us (units s))) := row_below5 O8.out hb (Nat.le_refl _)
                  have I31 : Hid (Ints X9 v31 (ints (units s))) := W8o.out.ints.below hb (Nat.le_refl _)
                  have I32 : Hid (Ints X9 v32 (ints (units s))) := Ints.of_row (base := X8.heap.size) (by rw [HLI.out, ← us_ints]; exact hO)
                  have N31 : Hid (ints (units s) = [] ∨ v31.ownBlock ≠ v30.ownBlock) := by
                    rcases W8o.out with ⟨A', rfl, h0⟩ | h1
                    · exact .inl h0
                    · by_cases h0 : ints (units s) = []
                      · exact .inl h0
                      · right
                        intro e
                        obtain ⟨g', c', rfl⟩ := Joins.ownsRow_form h1 (List.length_pos_iff.2 h0)
                        have a1 := (World.ownsRow.lt h1 g' rfl).1
                        have a2 := HL7.out g' e.symm
                        omega
                  have N32 : Hid (ints (units s) = [] ∨ v32.ownBlock ≠ v30.ownBlock) := by
                    by_cases h0 : ints (units s) = []
                    · exact .inl h0
                    · right
                      intro e
                      obtain ⟨g', c', rfl⟩ := Joins.ownsRow_form hO (by have := List.length_pos_iff.2 h0; rw [HLI.out] at this; exact this)
                      have a1 := (World.ownsRow.lt hO g' rfl).1
                      have a2 := HL7.out g' e.symm
                      omega
                  have hx8 := hb.size
                  have I30 : Hid (Ints X9 v30 (ints (units s))) := Ints.of_row (base := X6.heap.size) (by rw [HLI.out, ← us_ints]; exact O9.out)
                  obtain ⟨a30, c30, rfl, hc30⟩ : ∃ a c, v30 = .slice a L c ∧ L ≤ c := by
                    rcases O9.out.2 with ⟨e1, h0⟩ | ⟨g, c, cur, e1, _, _, hc, _⟩
                    · exact ⟨none, 0, by rw [e1, h0], by omega⟩
                    · exact ⟨_, c, e1, hc⟩
                  obtain ⟨a31, c31, e31, -⟩ := I31.out.form
                  rw [HLI.out] at e31
                  subst e31
                  clear hb hO O8 HC8 W8o HL7 HC6
                  go_wp2_with fail
                  refine (same_eq _ _ (ints (units s)) _ I30.out I31.out hli).mono ?_
                  rintro e Y1 ⟨rfl, hb⟩
                  have HC10 : Hid (Below w.heap.size w Y1) := HC9.out.trans (hb.mono HC9.out.size)
                  have P1o : Hid (Y1.ownsRow X6.heap.size 3 1 (.slice a30 L c30) L (us (units s))) := row_below5 O9.out hb (Nat.le_refl _)
                  have J31 : Hid (Ints Y1 (.slice a31 L c31) (ints (units s))) := I31.out.below hb (Nat.le_refl _)
                  have J32 : Hid (Ints Y1 v32 (ints (units s))) := I32.out.below hb (Nat.le_refl _)
                  have hxy : X6.heap.size ≤ Y1.heap.size := by have := hb.size; omega
                  have HXW : Hid (w.heap.size ≤ X6.heap.size) := HXW0.out
                  clear hb O9 I30 I31 I32 HC9 hx6 hx7 hx8
                  go_wp2
                  go_loopw [34] (fun vi wr => ∃ (i : Nat) (ys : List Value), vi = .int .i64 i ∧ i ≤ L ∧ wr.ownsRow X6.heap.size 3 1 (.slice a30 L c30) L ys ∧ Y1.grownBy wr (Value.slice a30 L c30).ownBlock) (fun vi _ => L - (intOf vi).toNat)
                  case atStart => exact ⟨0, _, rfl, by omega, P1o.out, grownBy_refl _ _⟩
                  case round =>
                    obtain ⟨i, ys, rfl, hi, hO, hG⟩ := hrel
                    by_cases hin : i = L
                    · as_aux_lemma =>
                        have hni := hin.symm
                        subst hni
                        have HG : Hid (Y1.grownBy wr (Value.slice a30 L c30).ownBlock) := hG
                        have hzr := hG.size
                        have hOa : wr.ownsRow X6.heap.size 3 1 (.slice a30 L c30) L ys := hO
                        clear hG hO hi hin
                        go_wp2_with (at_builtin; go_must (refine wpList_append_own _ rfl _ _ 25 rfl X6.heap.size 3 i0 (.int .i64 0) 1 8 Tryd.underlying25 hi0 hz0 hz1 hz2 rfl (by decide) _ _ _ rfl (hOa.alloc _) ⟨wr.heap.size, 0, none⟩ 3 3 [.int .i64 (-8), .int .i64 (-9), .int .i64 (-10)] rfl rfl (World.news_of_block (cs := #[.int .i64 (-8), .int .i64 (-9), .int .i64 (-10)]) (t := 3) (fr := (0, 0)) (heap_alloc_new wr _)) (by simp [Value.oneCell']) (by unfold maxLen; omega) (by omega) (by simp; omega) ?_); intro v' Y3 hown' hgrow _)
                        obtain ⟨g', cap', rfl⟩ := Joins.ownsRow_form hown' (by omega)
                        have hG3 := grownBy_trans HG.out (grownBy_trans (World.grownBy_alloc wr _ _) hgrow)
                        have K31 : Hid (Ints Y3 (.slice a31 L c31) (ints (units s))) := J31.out.kept hG3 N31.out
                        have K32 : Hid (Ints Y3 v32 (ints (units s))) := J32.out.kept hG3 N32.out
                        have HC11 : Hid (Below w.heap.size w Y3) := HC10.out.trans ((Below.refl _ Y1).grown hG3 HC10.out.size (fun b hb => Nat.le_trans HXW.out (World.ownsRow.lt P1o.out b hb).1))
                        clear hG3 hgrow hown' hOa HG hzr J31 J32 N31 N32 HC10 P1o
                        go_wp2_with fail
                        refine (same_eq _ _ (ints (units s)) _ K32.out K31.out hli).mono ?_
                        rintro e Z1 ⟨rfl, hb⟩
                        have M31 : Hid (Ints Z1 (.slice a31 L c31) (ints (units s))) := K31.out.below hb (Nat.le_refl _)
                        have HC12 : Hid (Below w.heap.size w Z1) := HC11.out.trans (hb.mono HC11.out.size)
                        clear hb K31 K32 HC11
                        go_wp2_with fail
                        refine (cut_any s _ (by omega)).mono ?_
                        rintro e Z2 ⟨v36, rfl, hO, hb⟩
                        rw [← HL.out] at hO
                        have Q31 : Hid (Ints Z2 (.slice a31 L c31) (ints (units s))) := M31.out.below hb (Nat.le_refl _)
                        have Q36 : Hid (Ints Z2 v36 (ints (units s))) := Ints.of_row (base := Z1.heap.size) (by rw [HLI.out, ← us_ints]; exact hO)
                        have HC13 : Hid (Below w.heap.size w Z2) := HC12.out.trans (hb.mono HC12.out.size)
                        clear hb hO M31 HC12
                        go_wp2_with fail
                        refine (same_eq _ _ (ints (units s)) _ Q36.out Q31.out hli).mono ?_
                        rintro e Z3 ⟨rfl, hb⟩
                        have HC14 : Hid (Below w.heap.size w Z3) := HC13.out.trans (hb.mono HC13.out.size)
                        clear hb Q31 Q36 HC13
                        go_wp2
                        go_ret
                        exact ⟨rfl, HC14.out⟩
                    · as_aux_lemma =>
                        obtain ⟨g, cc, e⟩ := Joins.ownsRow_form hO (by omega)
                        injection e with e1 e2 e3
                        subst e1
                        obtain ⟨⟨v0, hv0⟩, hf, ys', hO'⟩ := own_put3 hO i (by omega) (.int .i64 (-7))
                        have HG : Hid (Y1.grownBy wr (Value.slice (some ⟨g, 0, none⟩) L c30).ownBlock) := hG
                        have HO' : Hid ((wr.setCell ⟨g, i, none⟩ (.int .i64 (-7))).ownsRow X6.heap.size 3 1 (.slice (some ⟨g, 0, none⟩) L c30) L ys') := hO'
                        have hli' : (i : Int) < (L : Int) := by omega
                        clear hO hG hO' e3 e2
                        go_wp2
                        exact ⟨⟨i + 1, ys', by go_num, by omega, HO'.out, grownBy_trans HG.out (grownBy_set wr g i _)⟩, by simp [intOf]; omega⟩
        · as_aux_lemma =>
            obtain ⟨j, hj⟩ : ∃ j, L - 1 - t = j := ⟨_, rfl⟩
            have hji : (L : Int) - 1 - (t : Int) = (j : Int) := by omega
            obtain ⟨x, hx⟩ : ∃ x, (units s)[j]? = some x := ⟨_, List.getElem?_eq_getElem (by rw [← HL.out]; omega)⟩
            obtain ⟨g, rfl, hg, hc1, hc2, hcap⟩ := HC.out j x hx
            have hrx : (units s).reverse[t]? = some x := by rw [List.getElem?_reverse (by rw [← HL.out]; omega), ← HL.out, hj]; exact hx
            have hgB : g < B2 := by rw [← HZ2.out]; exact hg
            have k1 := (hW.cell (p := ⟨g, j * 2, none⟩) (by show g < B3; omega)).trans ((HB3.out.cell (p := ⟨g, j * 2, none⟩) hgB).trans hc1)
            have k2 := (hW.cell (p := ⟨g, j * 2 + 1, none⟩) (by show g < B3; omega)).trans ((HB3.out.cell (p := ⟨g, j * 2 + 1, none⟩) hgB).trans hc2)
            have HN : Hid (flat ((units s).reverse.take (t + 1)) = flat ((units s).reverse.take t) ++ [.int .i64 x.1, .int .i64 x.2]) := take_snoc2 hrx
            have hge : u9.ownBlock ≠ some g := fun e => by have := (World.ownsRow.lt hP g e).1; omega
            have HW : Hid (Below B3 W3 wr) := hW
            have lg := World.block_lt_of_cell? wr _ k1
            have HJ : Hid (L - 1 - t = j) := hj
            clear hc1 hc2 hx hg hW HC hrx hj
            have hi0' : (0 : Int) ≤ (j : Int) := by omega
            have hi1' : (j : Int) < (L : Int) := by omega
            obtain ⟨p1, hp1⟩ : ∃ p1, (x.1 : Int) = p1 := ⟨_, rfl⟩
            obtain ⟨p2, hp2⟩ : ∃ p2, (x.2 : Int) = p2 := ⟨_, rfl⟩
            rw [hp1] at k1 HN
            rw [hp2] at k2 HN
            clear hp1 hp2
            go_wp2_with fail
            go_region_held3 (fun w' => w'.cell? ⟨g, j * 2, none⟩ = some (.int .i64 p1) ∧ w'.cell? ⟨g, j * 2 + 1, none⟩ = some (.int .i64 p2))
              (first
                | go_keep
                | (go_split_ands
                   refine ⟨?_, ?_⟩
                   · (rw [hgrow.cell_far _ (by simp; omega) (Ne.symm hge)]; assumption)
                   · (rw [hgrow.cell_far _ (by simp; omega) (Ne.symm hge)]; assumption)))
              ((refine step_append_lies _ (by rfl) _ _ _ (by rfl) B3 3 i0 _ 1 8 Tryd.underlying25 hi0 hz0 hz1 hz2 rfl (by omega) u9 (2 * t) _ (by rfl) ((hP.alloc _).drew)
                  ⟨wr.heap.size, 0, none⟩ 2 2 [.int .i64 p1, .int .i64 p2] (by rfl) (by rfl) (World.news_of_block (cs := #[.int .i64 p1, .int .i64 p2]) (t := 3) (fr := (0, 0)) (heap_alloc_new wr _)) (by simp [Value.oneCell'])
                  (by omega) (by unfold maxLen; omega) (by omega) (by simp; omega) (wr.heap.size + 1) (by simp) ?_; intro gg cap' w3 hown1 hgrow hat hlt))
            go_wp2
            exact ⟨⟨t + 1, by have := HJ.out; congr 1; omega, by omega, by rw [HN.out, show 2 * (t + 1) = 2 * t + 2 by omega]; exact hown1, ((HW.out.alloc hz _).drew).trans ((Below.refl _ _).grown hgrow (by simp; omega) (fun b hb => (World.ownsRow.lt hP b hb).1))⟩, by simp [intOf]; omega⟩
    · as_aux_lemma =>
        obtain ⟨x, hx⟩ : ∃ x, (units s)[i]? = some x := ⟨_, List.getElem?_eq_getElem (by rw [← HL.out]; omega)⟩
        obtain ⟨g, rfl, hg, hc1, hc2, hcap⟩ := HC.out i x hx
        have hgB : g < B2 := by rw [← HZ2.out]; exact hg
        have k1 := (hW.cell (p := ⟨g, i * 2, none⟩) hgB).trans hc1
        have k2 := (hW.cell (p := ⟨g, i * 2 + 1, none⟩) hgB).trans hc2
        have HN : Hid (flat ((units s).take (i + 1)) = flat ((units s).take i) ++ [.int .i64 x.1, .int .i64 x.2]) := take_snoc2 hx
        have hge : u7.ownBlock ≠ some g := fun e => by have := (World.ownsRow.lt hP g e).1; omega
        have HW : Hid (Below B2 w2 wr) := hW
        have lg := World.block_lt_of_cell? wr _ k1
        clear hc1 hc2 hx hg hW HC
        have hi0' : (0 : Int) ≤ (i : Int) := by omega
        have hi1' : (i : Int) < (L : Int) := by omega
        obtain ⟨p1, hp1⟩ : ∃ p1, (x.1 : Int) = p1 := ⟨_, rfl⟩
        obtain ⟨p2, hp2⟩ : ∃ p2, (x.2 : Int) = p2 := ⟨_, rfl⟩
        rw [hp1] at k1 HN
        rw [hp2] at k2 HN
        clear hp1 hp2
        go_wp2_with fail
        go_region_held3 (fun w' => w'.cell? ⟨g, i * 2, none⟩ = some (.int .i64 p1) ∧ w'.cell? ⟨g, i * 2 + 1, none⟩ = some (.int .i64 p2))
          (first
            | go_keep
            | (go_split_ands
               refine ⟨?_, ?_⟩
               · (rw [hgrow.cell_far _ (by simp; omega) (Ne.symm hge)]; assumption)
               · (rw [hgrow.cell_far _ (by simp; omega) (Ne.symm hge)]; assumption)))
          ((refine step_append_lies _ (by rfl) _ _ _ (by rfl) B2 3 i0 _ 1 8 Tryd.underlying25 hi0 hz0 hz1 hz2 rfl (by omega) u7 (2 * i) _ (by rfl) ((hP.alloc _).drew)
              ⟨wr.heap.size, 0, none⟩ 2 2 [.int .i64 p1, .int .i64 p2] (by rfl) (by rfl) (World.news_of_block (cs := #[.int .i64 p1, .int .i64 p2]) (t := 3) (fr := (0, 0)) (heap_alloc_new wr _)) (by simp [Value.oneCell'])
              (by omega) (by unfold maxLen; omega) (by omega) (by simp; omega) (wr.heap.size + 1) (by simp) ?_; intro gg cap' w3 hown1 hgrow hat hlt))
        go_wp2
        exact ⟨⟨i + 1, by go_num, by omega, by rw [HN.out, show 2 * (i + 1) = 2 * i + 2 by omega]; exact hown1, ((HW.out.alloc hz _).drew).trans ((Below.refl _ _).grown hgrow (by simp; omega) (fun b hb => (World.ownsRow.lt hP b hb).1))⟩, by simp [intOf]; omega⟩
end Go.Proofs
