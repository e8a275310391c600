/-
  The reference's Open, walked.
-/
import Derived.RangeFuncNested
import Derived.RangeFuncBound
import Derived.RangeFuncCalls
import Derived.RangeFuncLeaves
import Derived.Shelf.Abstract
import Derived.Shelf.RegionOpen
import Derived.WalkKit
import Derived.WalkSpells
import Derived.WalkLawsBesides
import Derived.OwnWalkIn
import Derived.TacticsInMore
import Derived.LoopNIn
import Derived.LoopIn
import Derived.BigQuiet
import Derived.RegionIn
import Derived.Deep.QuietTactic
import Derived.Lib.OthersKept
import Derived.Maps.AppendAt
import Derived.Lib.IndexBytes
import Derived.Lib.SmallJoins
import Derived.Deep.RegionWith
import Derived.ArgAppend
import Derived.Laws.CopyOwn
import Derived.Laws.MakeOwn
import Derived.Test.YtahifnjompmcbaaDoorTe
import Derived.Test.YtahifnjompmcbaaDoorTf
import Derived.Test.YtahifnjompmcbaaDoorTg
import Derived.Test.YtahifnjompmcbaaDoorTh
namespace Go.Proofs
open Go.RowKit Go.Shelf

set_option maxRecDepth 100000
attribute [local go_sem] Oper.semAt_some

theorem may_any (h : ByteArray) (w : World) (hz : 1 ≤ h.size ∧ h.size ≤ 3) : Calls Tryd.prog 38 #[.string h] w fun e w' => MayIs h e ∧ Below w.heap.size w w' := by
  by_cases c0 : bt h 0 < 194 ∨ 244 < bt h 0
  · exact may_no_0 h w hz c0
  · by_cases c2 : bt h 0 ≤ 223
    · by_cases s2 : 2 ≤ h.size
      · exact may_no_2 h w hz (by omega) c2 s2
      · exact may_2_1 h w (by omega) (by omega) c2
    · by_cases c3 : bt h 0 ≤ 239
      · by_cases s3 : 3 ≤ h.size
        · exact may_no_3 h w hz (by omega) c3 s3
        · by_cases s1 : h.size = 1
          · exact may_3_1 h w s1 (by omega) c3
          · exact may_3_2 h w (by omega) (by omega) c3
      · by_cases s1 : h.size = 1
        · exact may_4_1 h w s1 (by omega) (by omega)
        · by_cases s2 : h.size = 2
          · exact may_4_2 h w s2 (by omega) (by omega)
          · exact may_4_3 h w (by omega) (by omega) (by omega)
/-- the units from the end on, from one on -/
theorem rev_at (s : ByteArray) (j : Nat) (x : Nat × Nat) (h : (backU s)[j]? = some x) : j < (units s).length ∧ (units s)[(units s).length - 1 - j]? = some x := by
  rw [back_rev] at h
  have hlt : j < (units s).length := by simpa using (List.getElem?_eq_some_iff.1 h).1
  rw [List.getElem?_reverse hlt] at h
  exact ⟨hlt, h⟩
/-- where only strays stand behind, the next unit from the end on ends there -/
theorem back_at (s : ByteArray) : ∀ k e j, e ≤ k → e ≤ s.size → bord s e → (∀ i x, i < j → (backN s k e)[i]? = some x → 1114112 ≤ x.2) → ∀ x, (backN s k e)[j]? = some x → x.1 + uw s x.1 + j = e ∧ x.2 = uAt s x.1 ∧ bord s x.1 := by
  intro k
  induction k with
  | zero => intro e j _ _ _ _ x hx; simp [backN] at hx
  | succ k ih =>
    intro e j h1 h2 h3 h4 x hx
    by_cases h0 : e = 0
    · subst h0; simp [backN] at hx
    · obtain ⟨q, hq, hbq, hqe, hst⟩ := stepB_bord s e h3 (by omega) h2
      rw [backN_step s k e (by omega), hst] at hx h4
      cases j with
      | zero =>
        simp at hx
        subst hx
        exact ⟨by simpa using hqe, rfl, hbq⟩
      | succ j =>
        have hs0 := h4 0 (q, uAt s q) (by omega) (by simp)
        simp only at hs0
        have hw := wd_uAt s q
        have hul := uAt_lt s q
        have hw1 : uw s q = 1 := by
          unfold wd at hw
          split at hw
          · omega
          · split at hw
            · omega
            · have := uw_pos s q; omega
        have := ih q j (by omega) (by omega) hbq (fun i y hi hy => h4 (i + 1) y (by omega) (by simpa using hy)) x (by simpa using hx)
        exact ⟨by omega, this.2⟩
/-- openL from one unit on, behind strays that begin nothing -/
theorem open_drop (s : ByteArray) (j : Nat) (h : ∀ i x, i < j → (backU s)[i]? = some x → ((1114240 ≤ x.2 ∧ x.2 ≤ 1114367) ∧ s.size - x.1 ≤ 3) ∧ hitW (s.extract x.1 s.size) spell = none) (hj : j ≤ (backU s).length) : openU s = openL s ((backU s).drop j) := by
  unfold openU
  induction j with
  | zero => simp
  | succ j ih =>
    rw [ih (fun i x hi hx => h i x (by omega) hx) (by omega)]
    have hlt : j < (backU s).length := by omega
    rw [List.drop_eq_getElem_cons hlt]
    obtain ⟨h1, h2⟩ := h j _ (by omega) (List.getElem?_eq_getElem hlt)
    exact openL_miss h1 h2 _
theorem stray_unit (s : ByteArray) (q : Nat) (h : 1114112 ≤ uAt s q) : (1114240 ≤ uAt s q ∧ uAt s q ≤ 1114367) ∧ uw s q = 1 := by
  have hw := wd_uAt s q
  have hul := uAt_lt s q
  have hp := uw_pos s q
  unfold wd at hw
  split at hw
  · omega
  · split at hw
    · omega
    · omega
/-- the strays at the end that begin nothing -/
def Miss (s : ByteArray) (j : Nat) : Prop := ∀ i x, i < j → (backU s)[i]? = some x → ((1114240 ≤ x.2 ∧ x.2 ≤ 1114367) ∧ s.size - x.1 ≤ 3) ∧ hitW (s.extract x.1 s.size) spell = none
theorem miss_at {s : ByteArray} {j : Nat} (h : Miss s j) {x : Nat × Nat} (hx : (backU s)[j]? = some x) : x.1 + uw s x.1 + j = s.size ∧ x.2 = uAt s x.1 ∧ bord s x.1 :=
  back_at s s.size s.size j (Nat.le_refl _) (Nat.le_refl _) (bord_size s) (fun i y hi hy => by have := (h i y hi hy).1.1.1; omega) x hx
theorem back_len (s : ByteArray) : (backU s).length = (units s).length := by rw [back_rev]; simp
theorem open_end {s : ByteArray} {j : Nat} (h : Miss s j) (hj : 3 ≤ j ∨ s.size ≤ j ∨ (units s).length ≤ j) (hjl : j ≤ (units s).length) : openU s = (0, 0, 0) := by
  rw [open_drop s j h (by rw [back_len]; exact hjl)]
  have hul := units_len s
  by_cases hlt : j < (units s).length
  · have hlt' : j < (backU s).length := by rw [back_len]; exact hlt
    rw [List.drop_eq_getElem_cons hlt']
    obtain ⟨hx, -⟩ := miss_at h (List.getElem?_eq_getElem hlt')
    generalize (backU s)[j] = y at hx
    obtain ⟨p, u⟩ := y
    have hp := uw_pos s p
    simp only at hx
    exact openL_out (fun c => by omega) _
  · rw [List.drop_of_length_le (by rw [back_len]; omega)]
    rfl
theorem open_out {s : ByteArray} {j : Nat} (h : Miss s j) {x : Nat × Nat} (hx : (backU s)[j]? = some x) (hu : x.2 < 1114112) : openU s = (0, 0, 0) := by
  obtain ⟨hlt, e⟩ := List.getElem?_eq_some_iff.1 hx
  rw [open_drop s j h (by omega), List.drop_eq_getElem_cons hlt, e]
  exact openL_out (fun c => by omega) _
theorem open_found {s : ByteArray} {j : Nat} (h : Miss s j) {x : Nat × Nat} (hx : (backU s)[j]? = some x) (hu : 1114112 ≤ x.2) (hj : j < 3) : x.1 = s.size - (j + 1) ∧ j + 1 ≤ s.size ∧ (∀ lo hi, hitW (s.extract x.1 s.size) spell = some (lo, hi) → openU s = (((j + 1 : Nat) : Int), lo, hi)) ∧ (hitW (s.extract x.1 s.size) spell = none → Miss s (j + 1)) := by
  obtain ⟨h1, h2, h3⟩ := miss_at h hx
  obtain ⟨h4, h5⟩ := stray_unit s x.1 (by omega)
  rw [← h2] at h4
  have hc : (1114240 ≤ x.2 ∧ x.2 ≤ 1114367) ∧ s.size - x.1 ≤ 3 := ⟨h4, by omega⟩
  refine ⟨by omega, by omega, fun lo hi hh => ?_, fun hh i y hi hy => ?_⟩
  · obtain ⟨hlt, e⟩ := List.getElem?_eq_some_iff.1 hx
    rw [open_drop s j h (by omega), List.drop_eq_getElem_cons hlt, e]
    have := openL_hit (s := s) (p := x.1) (u := x.2) hc hh ((backU s).drop (j + 1))
    rw [show s.size - x.1 = j + 1 by omega] at this
    exact this
  · by_cases e : i = j
    · subst e
      rw [hx] at hy
      injection hy with hy
      subst hy
      exact ⟨hc, hh⟩
    · exact h i y (by omega) hy
set_option maxHeartbeats 4000000 in
theorem ropen_any (s : ByteArray) (w : World) (hs : s.size ≤ 4398046511104) : Calls Tryd.prog 20 #[.string s] w fun e w' => e = .returned (.tuple #[.int .i64 (openU s).1, .int .i64 (openU s).2.1, .int .i64 (openU s).2.2]) ∧ Below w.heap.size w w' := by
  obtain ⟨R, hR⟩ : ∃ R, openU s = R := ⟨_, rfl⟩
  rw [hR]
  have HR : Hid (openU s = R) := hR
  have hul := units_len s
  have hsi : (s.size : Int) ≤ 4398046511104 := by omega
  clear hR
  go_enter Tryd.func20, Tryd.ntmps20
  go_wp2_with fail
  refine (rcut_any s _ hs).mono ?_
  rintro e w1 ⟨v, rfl, hI, hb⟩
  obtain ⟨A, cap, rfl, hcell⟩ := hI.form
  obtain ⟨L, hL⟩ : ∃ L, (ints (units s)).length = L := ⟨_, rfl⟩
  rw [hL] at hcell
  rw [hL]
  have hLu : L = (units s).length := by rw [← hL, ints_length]
  have HLU : Hid (L = (units s).length) := hLu
  have hLs : L ≤ s.size := by omega
  have HC : Hid (∀ j, j < L → ∃ g o, A = some ⟨g, o, none⟩ ∧ w1.cell? ⟨g, o + j, none⟩ = some (.int .i64 ((ints (units s))[j]?.getD 0))) := hcell
  have HB : Hid (Below w.heap.size w w1) := hb
  clear hb hcell hI hL hLu hul
  go_wp2_with fail
  go_loopw [6] (fun vn wr => ∃ j : Nat, vn = .int .i64 ((j : Int) + 1) ∧ j ≤ 3 ∧ j ≤ L ∧ Hid (Miss s j) ∧ Below w1.heap.size w1 wr) (fun vn _ => 4 - (intOf vn).toNat)
  case atStart => exact ⟨0, rfl, by omega, by omega, fun i x hi _ => by omega, Below.refl _ _⟩
  case round =>
    obtain ⟨j, rfl, hj3, hjL, hM, hBr⟩ := hrel
    have HBR : Hid (Below w1.heap.size w1 wr) := hBr
    clear hBr
    by_cases hend : 3 ≤ j ∨ L ≤ j
    · as_aux_lemma =>
        have e : R = (0, 0, 0) := by rw [← HR.out]; exact open_end hM.out (by have := HLU.out; omega) (by have := HLU.out; omega)
        subst e
        have hz := HB.out.size
        by_cases h3 : 3 ≤ j
        · have d3 : decide ((j : Int) + 1 ≤ 3) = false := by rw [decide_eq_false_iff_not]; omega
          go_wp2
          go_ret3
          exact ⟨rfl, HB.out.trans (HBR.out.mono hz)⟩
        · have d3 : decide ((j : Int) + 1 ≤ 3) = true := by rw [decide_eq_true_iff]; omega
          have d5 : decide ((j : Int) + 1 ≤ (L : Int)) = false := by rw [decide_eq_false_iff_not]; omega
          by_cases h4 : j + 1 ≤ s.size
          · have d4 : decide ((j : Int) + 1 ≤ (s.size : Int)) = true := by rw [decide_eq_true_iff]; omega
            go_wp2
            go_ret3
            exact ⟨rfl, HB.out.trans (HBR.out.mono hz)⟩
          · have d4 : decide ((j : Int) + 1 ≤ (s.size : Int)) = false := by rw [decide_eq_false_iff_not]; omega
            go_wp2
            go_ret3
            exact ⟨rfl, HB.out.trans (HBR.out.mono hz)⟩
    · as_aux_lemma =>
        have d3 : decide ((j : Int) + 1 ≤ 3) = true := by rw [decide_eq_true_iff]; omega
        have d4 : decide ((j : Int) + 1 ≤ (s.size : Int)) = true := by rw [decide_eq_true_iff]; omega
        have d5 : decide ((j : Int) + 1 ≤ (L : Int)) = true := by rw [decide_eq_true_iff]; omega
        have hz := HB.out.size
        obtain ⟨x, hx⟩ : ∃ x, (backU s)[j]? = some x := ⟨_, List.getElem?_eq_getElem (by rw [back_len, ← HLU.out]; omega)⟩
        have hr := (rev_at s j x hx).2
        rw [← HLU.out] at hr
        obtain ⟨m, hm⟩ : ∃ m, L - 1 - j = m := ⟨_, rfl⟩
        rw [hm] at hr
        have hmi : (L : Int) - ((j : Int) + 1) = (m : Int) := by omega
        have hml : (m : Int) < (L : Int) := by omega
        obtain ⟨g, o, rfl, hc⟩ := HC.out m (by omega)
        rw [ints_get hr] at hc
        have hgl : g < w1.heap.size := by
          obtain ⟨ob, ho, _⟩ := cells_of_cell hc
          exact (Array.getElem?_eq_some_iff.1 ho).1
        have hcr := (HBR.out.cell (p := ⟨g, o + m, none⟩) hgl).trans hc
        have HX : Hid ((backU s)[j]? = some x) := hx
        obtain ⟨u, hu⟩ : ∃ u, x.2 = u := ⟨_, rfl⟩
        rw [hu] at hcr
        have HU : Hid (x.2 = u) := hu
        clear hc hx hr HC hu
        by_cases hus : u < 1114112
        · have e : R = (0, 0, 0) := by rw [← HR.out]; exact open_out hM.out HX.out (by rw [HU.out]; exact hus)
          subst e
          have du : decide ((u : Int) < 1114112) = true := by rw [decide_eq_true_iff]; omega
          go_wp2
          go_ret3
          exact ⟨rfl, HB.out.trans (HBR.out.mono hz)⟩
        · have du : decide ((u : Int) < 1114112) = false := by rw [decide_eq_false_iff_not]; omega
          have du' : decide (u < 1114112) = false := by rw [decide_eq_false_iff_not]; omega
          obtain ⟨f1, f2, f3, f4⟩ := open_found hM.out HX.out (by rw [HU.out]; omega) (by omega)
          obtain ⟨q, hq⟩ : ∃ q, s.size - (j + 1) = q := ⟨_, rfl⟩
          rw [f1, hq] at f3 f4
          have hqi : (s.size : Int) - ((j : Int) + 1) = (q : Int) := by omega
          have F3 : Hid (∀ lo hi, hitW (s.extract q s.size) spell = some (lo, hi) → openU s = (((j + 1 : Nat) : Int), lo, hi)) := f3
          have F4 : Hid (hitW (s.extract q s.size) spell = none → Miss s (j + 1)) := f4
          have hez := ext_size s q (by omega)
          have CM := may_any (s.extract q s.size) wr (by rw [hez]; omega)
          have HCM : Hid (Calls Tryd.prog 38 #[.string (s.extract q s.size)] wr fun e w' => MayIs (s.extract q s.size) e ∧ Below wr.heap.size wr w') := CM
          have hqs : (q : Int) ≤ (s.size : Int) := by omega
          clear f1 f3 f4 hez CM hus hq HX HU
          go_wp2_with fail
          refine HCM.out.mono ?_
          rintro e w3 ⟨⟨lo, hi, b, rfl, hb1, hb2⟩, hb3⟩
          have HB3 : Hid (Below w1.heap.size w1 w3) := HBR.out.trans (hb3.mono HBR.out.size)
          cases b with
          | true =>
            have e : R = (((j + 1 : Nat) : Int), lo, hi) := by rw [← HR.out]; exact F3.out lo hi (hb1 rfl)
            subst e
            clear hb1 hb2 hb3 hcr HCM
            go_wp2
            go_ret3
            exact ⟨by simp, HB.out.trans (HB3.out.mono hz)⟩
          | false =>
            have HM2 : Hid (Miss s (j + 1)) := F4.out (hb2 rfl)
            clear hb1 hb2 hb3 hcr HCM
            go_wp2
            exact ⟨⟨j + 1, by go_num, by omega, by omega, HM2, HB3.out⟩, by simp [intOf]; omega⟩
end Go.Proofs
