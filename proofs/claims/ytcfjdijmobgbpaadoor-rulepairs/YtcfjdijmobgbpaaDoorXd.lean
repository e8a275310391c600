/-
  RulePairs: a pair is one to one, keeps the order, and the pair back undoes it.
-/
import Derived.RangeFuncNested
import Derived.RangeFuncBound
import Derived.RangeFuncCalls
import Derived.RangeFuncLeaves
import Derived.Shelf.Abstract
import Derived.Shelf.RegionOpen
import Derived.WalkKit
import Derived.WalkSpells
import Derived.WalkLawsBesides
import Derived.OwnWalkIn
import Derived.TacticsInMore
import Derived.LoopNIn
import Derived.LoopIn
import Derived.BigQuiet
import Derived.RegionIn
import Derived.Deep.QuietTactic
import Derived.Deep.RegionWith
import Derived.Lib.OthersKept
import Derived.Maps.AppendAt
import Derived.Lib.SmallJoins
import Derived.Test.YtcfjdijmobgbpaaDoorXc
namespace Go.Proofs
open Go.RowKit Go.Shelf

set_option maxRecDepth 100000
attribute [local go_sem] Oper.semAt_some
theorem ir_one {W : World} {g : Nat} {a : Int} (h : W.cell? ⟨g, 0, none⟩ = some (.int .i64 a)) : IR W (.slice (some ⟨g, 0, none⟩) 1 1) [a] := by
  refine ⟨_, 1, rfl, Nat.le_refl _, .inr ⟨g, 0, rfl, fun j hj => ?_⟩⟩
  obtain rfl : j = 0 := by simpa using hj
  exact h
/-- the calls of Lays, Has and numbers in RulePairs -/
structure PD (w : World) (h : Nat) (fv tv : Value) (f t : List (Int × Int)) : Prop where
  yes : ∀ W a, Hid (PF w h fv tv f t W) → hasB f a = true → Calls Tryd.prog 21 #[.agg #[.bool false, .slice none 0 0, .slice (some ⟨h, 0, none⟩) 1 1, .slice none 0 0, .bool false, .slice (some ⟨h + 1, 0, none⟩) 1 1, .int .i64 1], .slice (some ⟨W.heap.size, 0, none⟩) 1 1] (W.alloc (.cells #[.int .i64 a] 3)) fun e w' => ∃ v2 g, e = .returned (.tuple #[.slice (some ⟨g, 0, none⟩) 1 1, v2]) ∧ w'.cell? ⟨g, 0, none⟩ = some (.int .i64 (partU f t a)) ∧ Hid (Below W.heap.size W w')
  no : ∀ W a, Hid (PF w h fv tv f t W) → hasB f a = false → Calls Tryd.prog 21 #[.agg #[.bool false, .slice none 0 0, .slice (some ⟨h, 0, none⟩) 1 1, .slice none 0 0, .bool false, .slice (some ⟨h + 1, 0, none⟩) 1 1, .int .i64 1], .slice (some ⟨W.heap.size, 0, none⟩) 1 1] (W.alloc (.cells #[.int .i64 a] 3)) fun e w' => ∃ v2, e = .returned (.tuple #[.slice none 0 0, v2]) ∧ Hid (Below W.heap.size W w')
  has : ∀ W a, Hid (PF w h fv tv f t W) → Calls Tryd.prog 22 #[fv, .int .i64 a] W fun e w' => e = .returned (.bool (hasB f a)) ∧ Hid (Below W.heap.size W w')
  back : ∀ W g c, Hid (PF w h fv tv f t W) → W.cell? ⟨g, 0, none⟩ = some (.int .i64 c) → hasB t c = true → Calls Tryd.prog 21 #[.agg #[.bool false, .slice none 0 0, .slice (some ⟨h + 1 + 1 + 1, 0, none⟩) 1 1, .slice none 0 0, .bool false, .slice (some ⟨h + 1 + 1 + 1 + 1, 0, none⟩) 1 1, .int .i64 1], .slice (some ⟨g, 0, none⟩) 1 1] W fun e w' => ∃ v2 g, e = .returned (.tuple #[.slice (some ⟨g, 0, none⟩) 1 1, v2]) ∧ w'.cell? ⟨g, 0, none⟩ = some (.int .i64 (partU t f c)) ∧ Hid (Below W.heap.size W w')
theorem pd_any (w : World) (h : Nat) (fv tv : Value) (f t : List (Int × Int)) (hp : Paired f t) : PD w h fv tv f t := by
  refine ⟨fun W a p ha => ?_, fun W a p ha => ?_, fun W a p => ?_, fun W g c p hc hb => ?_⟩
  · have p' := p.out.grown ((Grown.refl W).alloc (.cells #[.int .i64 a] 3))
    refine (lays_pair hp _ _ _ _ _ a _ p'.tab p'.r1 (ir_one (cell_new rfl rfl))).mono ?_
    rintro e w' ⟨v2, h1 | ⟨_, g, h1, h2⟩, hb⟩
    · rw [ha] at h1; cases h1.1
    · exact ⟨v2, g, h1, h2, ((Grown.refl W).alloc _).below.trans (hb.mono (by simp))⟩
  · have p' := p.out.grown ((Grown.refl W).alloc (.cells #[.int .i64 a] 3))
    refine (lays_pair hp _ _ _ _ _ a _ p'.tab p'.r1 (ir_one (cell_new rfl rfl))).mono ?_
    rintro e w' ⟨v2, h1 | ⟨h0, g, h1, h2⟩, hb⟩
    · exact ⟨v2, h1.2, ((Grown.refl W).alloc _).below.trans (hb.mono (by simp))⟩
    · rw [ha] at h0; cases h0
  · exact (has_any fv f a W p.out.tab p.out.rf).mono fun e w' ⟨h1, h2⟩ => ⟨h1, h2.below⟩
  · refine (lays_pair hp.symm _ _ _ _ _ c _ p.out.tab p.out.r2 (ir_one hc)).mono ?_
    rintro e w' ⟨v2, h1 | ⟨_, g, h1, h2⟩, hb'⟩
    · rw [hb] at h1; cases h1.1
    · exact ⟨v2, g, h1, h2, hb'⟩
theorem num_one (W : World) (g : Nat) (a : Int) (h : W.cell? ⟨g, 0, none⟩ = some (.int .i64 a)) : Calls Tryd.prog 26 #[.slice (some ⟨g, 0, none⟩) 1 1, .slice (some ⟨W.heap.size, 0, none⟩) 1 1] (W.alloc (.cells #[.int .i64 a] 3)) fun e w' => e = .returned (.bool true) ∧ Hid (Below W.heap.size W w') := by
  refine (numbers_any _ _ [a] [a] _ (ir_one (cell_up h _)) (ir_one (cell_new rfl rfl)) (by simp)).mono ?_
  rintro e w' ⟨rfl, hg⟩
  exact ⟨by simp, ((Grown.refl W).alloc _).below.trans (hg.below.mono (by simp))⟩
set_option maxHeartbeats 8000000 in
theorem pairs_yes (fa ta : Option Addr) (fn fc tn tc : Nat) (f t : List (Int × Int)) (a b : Int) (w : World) (hT : Tab w) (hf : Rs w (.slice fa fn fc) f) (ht : Rs w (.slice ta tn tc) t) (hp : Paired f t) :
    Calls Tryd.prog 6 #[.slice fa fn fc, .slice ta tn tc, .int .i64 a, .int .i64 b] w fun e w' => e = .returned (.bool true) ∧ Below w.heap.size w w' := by
  have HS : Hid (∀ w1, Below w.heap.size w w1 → Hid (PF w w1.heap.size (.slice fa fn fc) (.slice ta tn tc) f t (pW w1 (.slice fa fn fc) (.slice ta tn tc)))) := fun w1 hb => pf_start hb hT hf ht
  have HC : Hid (∀ h, PC w h (.slice fa fn fc) (.slice ta tn tc) f t) := fun h => pc_any w h _ _ f t
  have HD : Hid (∀ h, PD w h (.slice fa fn fc) (.slice ta tn tc) f t) := fun h => pd_any w h _ _ f t hp
  have HSh := shown_any w hT
  have HQ : Hid (chk (pairR f t) = 0) := (pair_chk f t).2 hp
  have HP : Hid (Paired f t) := hp
  obtain ⟨x, hx⟩ : ∃ x, lenU f = x := ⟨_, rfl⟩
  have HX : Hid (lenU f = x) := hx
  have HY : Hid (lenU t = x) := by rw [← hx]; exact hp.e.symm
  have h3 : 0 < x := by rw [← hx]; exact hp.p
  clear hT hf ht hp hx
  go_enter Tryd.func6, Tryd.ntmps6
  go_wp2_with fail
  refine HSh.mono ?_
  rintro e w1 ⟨rfl, hb1⟩
  have P0 := HS.out w1 hb1
  unfold pW at P0
  clear HSh
  go_wp2_with fail
  refine ((HC.out _).chk _ P0).mono ?_
  rw [HQ.out]
  rintro e w2 ⟨rfl, P2⟩
  clear P0
  go_wp2_with fail
  refine ((HC.out _).vf _ P2).mono ?_
  rw [HP.out.vf]
  rintro e w3 ⟨rfl, P3⟩
  clear P2
  go_wp2_with fail
  refine ((HC.out _).vt _ P3).mono ?_
  rw [HP.out.vt]
  rintro e w4 ⟨rfl, P4⟩
  clear P3
  go_wp2_with fail
  refine ((HC.out _).lf _ P4).mono ?_
  rw [HX.out]
  rintro e w5 ⟨rfl, P5⟩
  clear P4
  go_wp2_with fail
  refine ((HC.out _).lf _ P5).mono ?_
  rw [HX.out]
  rintro e w6 ⟨rfl, P6⟩
  clear P5
  go_wp2_with fail
  refine ((HC.out _).lt _ P6).mono ?_
  rw [HY.out]
  rintro e w7 ⟨rfl, P7⟩
  clear P6
  obtain ⟨c0, c1, c2, c3, c4, c5, c6⟩ := P7.out.b1
  go_wp2_with fail
  refine ((HC.out _).chk _ P7).mono ?_
  rw [HQ.out]
  rintro e w8 ⟨rfl, P8⟩
  clear P7 c0 c1 c2 c3 c4 c5 c6
  obtain ⟨c0, c1, c2, c3, c4, c5, c6⟩ := P8.out.b1
  clear HS HC HQ HX HY
  go_wp2_with fail
  clear c0 c1 c2 c3 c4 c5 c6
  by_cases ha : hasB f a = true
  · have hau : hasU f a := by simp only [hasB, Bool.and_eq_true, decide_eq_true_eq] at ha; exact ha.2
    have HBk : Hid (partU t f (partU f t a) = a) := part_back HP.out hau
    have hTb : hasB t (partU f t a) = true := by simp [hasB, HP.out.vt, (part_some HP.out hau).2]
    refine ((HD.out _).yes _ _ P8 ha).mono ?_
    rintro e w9 ⟨v2, g, rfl, d9, hb9⟩
    have P9 : Hid (PF w w1.heap.size (.slice fa fn fc) (.slice ta tn tc) f t w9) := P8.out.below hb9.out
    clear P8 hb9 
    obtain ⟨c0, c1, c2, c3, c4, c5, c6⟩ := P9.out.b1
    go_wp2_with fail
    clear c0 c1 c2 c3 c4 c5 c6
    by_cases hbb : hasB f b = true
    · have hbu : hasU f b := by simp only [hasB, Bool.and_eq_true, decide_eq_true_eq] at hbb; exact hbb.2
      have HI : Hid (partU f t a < partU f t b ↔ a < b) := part_iff HP.out hau hbu
      clear hau hbu
      refine ((HD.out _).yes _ _ P9 hbb).mono ?_
      rintro e w10 ⟨v3, g2, rfl, y10, hb10⟩
      have P10 : Hid (PF w w1.heap.size (.slice fa fn fc) (.slice ta tn tc) f t w10) := P9.out.below hb10.out
      have d10 := cell_below d9 hb10.out (Nat.le_refl _)
      clear P9 hb10 d9
      go_wp2_with fail
      refine ((HD.out _).has _ a P10).mono ?_
      rw [ha]
      rintro e w11 ⟨rfl, hb11⟩
      have P11 : Hid (PF w w1.heap.size (.slice fa fn fc) (.slice ta tn tc) f t w11) := P10.out.below hb11.out
      have d11 := cell_below d10 hb11.out (Nat.le_refl _)
      have y11 := cell_below y10 hb11.out (Nat.le_refl _)
      clear P10 hb11 d10 y10
      go_wp2_with fail
      refine ((HD.out _).has _ b P11).mono ?_
      rw [hbb]
      rintro e w12 ⟨rfl, hb12⟩
      have P12 : Hid (PF w w1.heap.size (.slice fa fn fc) (.slice ta tn tc) f t w12) := P11.out.below hb12.out
      have d12 := cell_below d11 hb12.out (Nat.le_refl _)
      have y12 := cell_below y11 hb12.out (Nat.le_refl _)
      clear P11 hb12 d11 y11
      generalize partU f t a = pa at *
      generalize partU f t b = pb at *
      by_cases hab : a < b
      · have hpq : pa < pb := HI.out.2 hab
        obtain ⟨b0, b1, b2, b3, b4, b5, b6⟩ := P12.out.b2
        have e0 := fun m => (((Grown.refl w12).drewN m).cellv b0)
        have e1 := fun m => (((Grown.refl w12).drewN m).cellv b1)
        have e2 := fun m => (((Grown.refl w12).drewN m).cellv b2)
        have e3 := fun m => (((Grown.refl w12).drewN m).cellv b3)
        have e4 := fun m => (((Grown.refl w12).drewN m).cellv b4)
        have e5 := fun m => (((Grown.refl w12).drewN m).cellv b5)
        have e6 := fun m => (((Grown.refl w12).drewN m).cellv b6)
        go_wp2
        go_quiet (fail)
        go_wp2_with fail
        refine ((HD.out _).back _ _ _ (P12.out.grown ((Grown.refl w12).drewN _)) (((Grown.refl w12).drewN _).cellv d12) hTb).mono ?_
        rw [HBk.out]
        rintro e w13 ⟨v4, g4, rfl, z13, hb13⟩
        go_wp2_with fail
        refine (num_one _ _ _ z13).mono ?_
        rintro e w14 ⟨rfl, hb14⟩
        go_wp2
        go_ret
        exact ⟨rfl, (P12.out.grown ((Grown.refl w12).drewN _)).bel.trans ((hb13.out.trans (hb14.out.mono hb13.out.size)).mono (P12.out.grown ((Grown.refl w12).drewN _)).bel.size)⟩
      · have hpq : ¬ pa < pb := fun e => hab (HI.out.1 e)
        have hd1 : decide (a < b) = false := by simpa using hab
        have hd2 : decide (pa < pb) = false := by simpa using hpq
        obtain ⟨b0, b1, b2, b3, b4, b5, b6⟩ := P12.out.b2
        have e0 := fun m => (((Grown.refl w12).drewN m).cellv b0)
        have e1 := fun m => (((Grown.refl w12).drewN m).cellv b1)
        have e2 := fun m => (((Grown.refl w12).drewN m).cellv b2)
        have e3 := fun m => (((Grown.refl w12).drewN m).cellv b3)
        have e4 := fun m => (((Grown.refl w12).drewN m).cellv b4)
        have e5 := fun m => (((Grown.refl w12).drewN m).cellv b5)
        have e6 := fun m => (((Grown.refl w12).drewN m).cellv b6)
        go_wp2
        go_quiet (fail)
        go_wp2_with fail
        refine ((HD.out _).back _ _ _ (P12.out.grown ((Grown.refl w12).drewN _)) (((Grown.refl w12).drewN _).cellv d12) hTb).mono ?_
        rw [HBk.out]
        rintro e w13 ⟨v4, g4, rfl, z13, hb13⟩
        go_wp2_with fail
        refine (num_one _ _ _ z13).mono ?_
        rintro e w14 ⟨rfl, hb14⟩
        go_wp2
        go_ret
        exact ⟨rfl, (P12.out.grown ((Grown.refl w12).drewN _)).bel.trans ((hb13.out.trans (hb14.out.mono hb13.out.size)).mono (P12.out.grown ((Grown.refl w12).drewN _)).bel.size)⟩
    · have hbn : hasB f b = false := by simpa using hbb
      refine ((HD.out _).no _ _ P9 hbn).mono ?_
      rintro e w10 ⟨v3, rfl, hb10⟩
      have P10 : Hid (PF w w1.heap.size (.slice fa fn fc) (.slice ta tn tc) f t w10) := P9.out.below hb10.out
      have d10 := cell_below d9 hb10.out (Nat.le_refl _)
      clear P9 hb10 d9
      go_wp2_with fail
      refine ((HD.out _).has _ a P10).mono ?_
      rw [ha]
      rintro e w11 ⟨rfl, hb11⟩
      have P11 : Hid (PF w w1.heap.size (.slice fa fn fc) (.slice ta tn tc) f t w11) := P10.out.below hb11.out
      have d11 := cell_below d10 hb11.out (Nat.le_refl _)
      clear P10 hb11 d10
      go_wp2_with fail
      refine ((HD.out _).has _ b P11).mono ?_
      rw [hbn]
      rintro e w12 ⟨rfl, hb12⟩
      have P12 : Hid (PF w w1.heap.size (.slice fa fn fc) (.slice ta tn tc) f t w12) := P11.out.below hb12.out
      have d12 := cell_below d11 hb12.out (Nat.le_refl _)
      clear P11 hb12 d11
      generalize partU f t a = pa at *
      obtain ⟨b0, b1, b2, b3, b4, b5, b6⟩ := P12.out.b2
      have e0 := fun m => (((Grown.refl w12).drewN m).cellv b0)
      have e1 := fun m => (((Grown.refl w12).drewN m).cellv b1)
      have e2 := fun m => (((Grown.refl w12).drewN m).cellv b2)
      have e3 := fun m => (((Grown.refl w12).drewN m).cellv b3)
      have e4 := fun m => (((Grown.refl w12).drewN m).cellv b4)
      have e5 := fun m => (((Grown.refl w12).drewN m).cellv b5)
      have e6 := fun m => (((Grown.refl w12).drewN m).cellv b6)
      go_wp2
      go_quiet (fail)
      go_wp2_with fail
      refine ((HD.out _).back _ _ _ (P12.out.grown ((Grown.refl w12).drewN _)) (((Grown.refl w12).drewN _).cellv d12) hTb).mono ?_
      rw [HBk.out]
      rintro e w13 ⟨v4, g4, rfl, z13, hb13⟩
      go_wp2_with fail
      refine (num_one _ _ _ z13).mono ?_
      rintro e w14 ⟨rfl, hb14⟩
      go_wp2
      go_ret
      exact ⟨rfl, (P12.out.grown ((Grown.refl w12).drewN _)).bel.trans ((hb13.out.trans (hb14.out.mono hb13.out.size)).mono (P12.out.grown ((Grown.refl w12).drewN _)).bel.size)⟩
  · have han : hasB f a = false := by simpa using ha
    refine ((HD.out _).no _ _ P8 han).mono ?_
    rintro e w9 ⟨v2, rfl, hb9⟩
    have P9 : Hid (PF w w1.heap.size (.slice fa fn fc) (.slice ta tn tc) f t w9) := P8.out.below hb9.out
    clear P8 hb9 
    obtain ⟨c0, c1, c2, c3, c4, c5, c6⟩ := P9.out.b1
    go_wp2_with fail
    clear c0 c1 c2 c3 c4 c5 c6
    by_cases hbb : hasB f b = true
    · refine ((HD.out _).yes _ _ P9 hbb).mono ?_
      rintro e w10 ⟨v3, g2, rfl, y10, hb10⟩
      have P10 : Hid (PF w w1.heap.size (.slice fa fn fc) (.slice ta tn tc) f t w10) := P9.out.below hb10.out
      clear P9 hb10 
      go_wp2_with fail
      refine ((HD.out _).has _ a P10).mono ?_
      rw [han]
      rintro e w11 ⟨rfl, hb11⟩
      have P11 : Hid (PF w w1.heap.size (.slice fa fn fc) (.slice ta tn tc) f t w11) := P10.out.below hb11.out
      have y11 := cell_below y10 hb11.out (Nat.le_refl _)
      clear P10 hb11 y10
      go_wp2_with fail
      refine ((HD.out _).has _ b P11).mono ?_
      rw [hbb]
      rintro e w12 ⟨rfl, hb12⟩
      have P12 : Hid (PF w w1.heap.size (.slice fa fn fc) (.slice ta tn tc) f t w12) := P11.out.below hb12.out
      have y12 := cell_below y11 hb12.out (Nat.le_refl _)
      clear P11 hb12 y11
      go_wp2
      go_quiet (fail)
      go_wp2
      go_ret
      exact ⟨rfl, (P12.out.grown ((Grown.refl w12).drewN _)).bel⟩
    · have hbn : hasB f b = false := by simpa using hbb
      refine ((HD.out _).no _ _ P9 hbn).mono ?_
      rintro e w10 ⟨v3, rfl, hb10⟩
      have P10 : Hid (PF w w1.heap.size (.slice fa fn fc) (.slice ta tn tc) f t w10) := P9.out.below hb10.out
      clear P9 hb10 
      go_wp2_with fail
      refine ((HD.out _).has _ a P10).mono ?_
      rw [han]
      rintro e w11 ⟨rfl, hb11⟩
      have P11 : Hid (PF w w1.heap.size (.slice fa fn fc) (.slice ta tn tc) f t w11) := P10.out.below hb11.out
      clear P10 hb11 
      go_wp2_with fail
      refine ((HD.out _).has _ b P11).mono ?_
      rw [hbn]
      rintro e w12 ⟨rfl, hb12⟩
      have P12 : Hid (PF w w1.heap.size (.slice fa fn fc) (.slice ta tn tc) f t w12) := P11.out.below hb12.out
      clear P11 hb12 
      go_wp2
      go_quiet (fail)
      go_wp2
      go_ret
      exact ⟨rfl, (P12.out.grown ((Grown.refl w12).drewN _)).bel⟩
theorem pairs_any (fa ta : Option Addr) (fn fc tn tc : Nat) (f t : List (Int × Int)) (a b : Int) (w : World) (hT : Tab w) (hf : Rs w (.slice fa fn fc) f) (ht : Rs w (.slice ta tn tc) t) :
    Calls Tryd.prog 6 #[.slice fa fn fc, .slice ta tn tc, .int .i64 a, .int .i64 b] w fun e w' => e = .returned (.bool true) ∧ Below w.heap.size w w' := by
  by_cases hp : Paired f t
  · exact pairs_yes fa ta fn fc tn tc f t a b w hT hf ht hp
  · exact pairs_no fa ta fn fc tn tc f t a b w hT hf ht hp
end Go.Proofs
