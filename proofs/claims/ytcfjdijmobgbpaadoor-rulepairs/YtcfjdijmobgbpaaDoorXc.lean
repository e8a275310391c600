/-
  RulePairs: what lies where, and the case of sets that can't be paired.
-/
import Derived.RangeFuncNested
import Derived.RangeFuncBound
import Derived.RangeFuncCalls
import Derived.RangeFuncLeaves
import Derived.Shelf.Abstract
import Derived.Shelf.RegionOpen
import Derived.WalkKit
import Derived.WalkSpells
import Derived.WalkLawsBesides
import Derived.OwnWalkIn
import Derived.TacticsInMore
import Derived.LoopNIn
import Derived.LoopIn
import Derived.BigQuiet
import Derived.RegionIn
import Derived.Deep.QuietTactic
import Derived.Deep.RegionWith
import Derived.Lib.OthersKept
import Derived.Maps.AppendAt
import Derived.Lib.SmallJoins
import Derived.Test.YtcfjdijmobgbpaaDoorXb
namespace Go.Proofs
open Go.RowKit Go.Shelf

set_option maxRecDepth 100000
attribute [local go_sem] Oper.semAt_some
/-- a rule that lies in a block -/
structure RB (W : World) (B : Nat) (kb rb : Nat) : Prop where
  c0 : W.cell? ⟨B, 0, none⟩ = some (.bool false)
  c1 : W.cell? ⟨B, 1, none⟩ = some (.slice none 0 0)
  c2 : W.cell? ⟨B, 2, none⟩ = some (.slice (some ⟨kb, 0, none⟩) 1 1)
  c3 : W.cell? ⟨B, 3, none⟩ = some (.slice none 0 0)
  c4 : W.cell? ⟨B, 4, none⟩ = some (.bool false)
  c5 : W.cell? ⟨B, 5, none⟩ = some (.slice (some ⟨rb, 0, none⟩) 1 1)
  c6 : W.cell? ⟨B, 6, none⟩ = some (.int .i64 1)
theorem RB.below {W W' : World} {B kb rb n : Nat} (h : RB W B kb rb) (hb : Below n W W') (hn : W.heap.size ≤ n) : RB W' B kb rb :=
  ⟨cell_below h.c0 hb hn, cell_below h.c1 hb hn, cell_below h.c2 hb hn, cell_below h.c3 hb hn, cell_below h.c4 hb hn, cell_below h.c5 hb hn, cell_below h.c6 hb hn⟩
/-- what lies where in the walk of RulePairs -/
structure PF (w : World) (h : Nat) (fv tv : Value) (f t : List (Int × Int)) (W : World) : Prop where
  bel : Below w.heap.size w W
  tab : Tab W
  rf : Rs W fv f
  rt : Rs W tv t
  b1 : RB W (h + 1 + 1) h (h + 1)
  b2 : RB W (h + 1 + 1 + 1 + 1 + 1) (h + 1 + 1 + 1) (h + 1 + 1 + 1 + 1)
  r1 : RR W (.slice none 0 0) (.slice (some ⟨h, 0, none⟩) 1 1) (.slice none 0 0) (.slice (some ⟨h + 1, 0, none⟩) 1 1) (pairR f t)
  r2 : RR W (.slice none 0 0) (.slice (some ⟨h + 1 + 1 + 1, 0, none⟩) 1 1) (.slice none 0 0) (.slice (some ⟨h + 1 + 1 + 1 + 1, 0, none⟩) 1 1) (pairR t f)
theorem PF.below {w : World} {h : Nat} {fv tv : Value} {f t : List (Int × Int)} {W W' : World} (p : PF w h fv tv f t W) (hb : Below W.heap.size W W') : PF w h fv tv f t W' :=
  ⟨p.bel.trans (hb.mono p.bel.size), p.tab.below hb p.tab.pos, p.rf.below hb (Nat.le_refl _), p.rt.below hb (Nat.le_refl _), p.b1.below hb (Nat.le_refl _), p.b2.below hb (Nat.le_refl _), p.r1.below hb (Nat.le_refl _), p.r2.below hb (Nat.le_refl _)⟩
theorem PF.grown {w : World} {h : Nat} {fv tv : Value} {f t : List (Int × Int)} {W W' : World} (p : PF w h fv tv f t W) (hb : Grown W W') : PF w h fv tv f t W' := p.below hb.below
/-- the world in which the two rules lie -/
def pW (w1 : World) (fv tv : Value) : World :=
  (((((w1.alloc (.cells #[fv] 51)).alloc (.cells #[.int .i64 3, .int .i64 0, .int .i64 0, tv] 53)).alloc (.cells #[.bool false, .slice none 0 0, .slice (some ⟨w1.heap.size, 0, none⟩) 1 1, .slice none 0 0, .bool false, .slice (some ⟨w1.heap.size + 1, 0, none⟩) 1 1, .int .i64 1] 25)).alloc (.cells #[tv] 51)).alloc (.cells #[.int .i64 3, .int .i64 0, .int .i64 0, fv] 53)).alloc
    (.cells #[.bool false, .slice none 0 0, .slice (some ⟨w1.heap.size + 1 + 1 + 1, 0, none⟩) 1 1, .slice none 0 0, .bool false, .slice (some ⟨w1.heap.size + 1 + 1 + 1 + 1, 0, none⟩) 1 1, .int .i64 1] 25)
theorem pf_start {w w1 : World} {fv tv : Value} {f t : List (Int × Int)} (hb : Below w.heap.size w w1) (hT : Tab w) (hf : Rs w fv f) (ht : Rs w tv t) : PF w w1.heap.size fv tv f t (pW w1 fv tv) := by
  have hg : Grown w1 (pW w1 fv tv) := (((((((Grown.refl _).alloc _).alloc _).alloc _).alloc _).alloc _).alloc _)
  have hf1 := (hf.below hb (Nat.le_refl _)).grown hg
  have ht1 := (ht.below hb (Nat.le_refl _)).grown hg
  refine ⟨hb.trans (hg.below.mono hb.size), (hT.below hb hT.pos).grown hg, hf1, ht1, ⟨?_, ?_, ?_, ?_, ?_, ?_, ?_⟩, ⟨?_, ?_, ?_, ?_, ?_, ?_, ?_⟩, rr_pair ?_ hf1 ?_ ?_ ?_ ?_ ht1, rr_pair ?_ ht1 ?_ ?_ ?_ ?_ hf1⟩
  all_goals (unfold pW; (repeat (first | (refine cell_new ?_ rfl; simp; done) | refine cell_up ?_ _)))
/-- the calls of RulePairs, wherever they come -/
structure PC (w : World) (h : Nat) (fv tv : Value) (f t : List (Int × Int)) : Prop where
  chk : ∀ W, Hid (PF w h fv tv f t W) → Calls Tryd.prog 14 #[.agg #[.bool false, .slice none 0 0, .slice (some ⟨h, 0, none⟩) 1 1, .slice none 0 0, .bool false, .slice (some ⟨h + 1, 0, none⟩) 1 1, .int .i64 1]] W fun e w' => e = .returned (.int .i64 (chk (pairR f t))) ∧ Hid (PF w h fv tv f t w')
  vf : ∀ W, Hid (PF w h fv tv f t W) → Calls Tryd.prog 24 #[fv] W fun e w' => e = .returned (.bool (validB f)) ∧ Hid (PF w h fv tv f t w')
  vt : ∀ W, Hid (PF w h fv tv f t W) → Calls Tryd.prog 24 #[tv] W fun e w' => e = .returned (.bool (validB t)) ∧ Hid (PF w h fv tv f t w')
  lf : ∀ W, Hid (PF w h fv tv f t W) → Calls Tryd.prog 25 #[fv] W fun e w' => e = .returned (.int .i64 (lenU f)) ∧ Hid (PF w h fv tv f t w')
  lt : ∀ W, Hid (PF w h fv tv f t W) → Calls Tryd.prog 25 #[tv] W fun e w' => e = .returned (.int .i64 (lenU t)) ∧ Hid (PF w h fv tv f t w')
theorem pc_any (w : World) (h : Nat) (fv tv : Value) (f t : List (Int × Int)) : PC w h fv tv f t := by
  refine ⟨fun W p => ?_, fun W p => ?_, fun W p => ?_, fun W p => ?_, fun W p => ?_⟩
  · exact (check_any (pairR f t) _ _ _ _ W p.out.tab p.out.r1).mono fun e w' ⟨h1, h2⟩ => ⟨h1, p.out.grown h2⟩
  · exact (valid_any fv f W p.out.tab p.out.rf).mono fun e w' ⟨h1, h2⟩ => ⟨h1, p.out.grown h2⟩
  · exact (valid_any tv t W p.out.tab p.out.rt).mono fun e w' ⟨h1, h2⟩ => ⟨h1, p.out.grown h2⟩
  · exact (len_any fv f W p.out.tab p.out.rf).mono fun e w' ⟨h1, h2⟩ => ⟨h1, p.out.grown h2⟩
  · exact (len_any tv t W p.out.tab p.out.rt).mono fun e w' ⟨h1, h2⟩ => ⟨h1, p.out.grown h2⟩
theorem lenU_nonneg (l : List (Int × Int)) : 0 ≤ lenU l := by
  by_cases h : okS l = true
  · have := lenU_ok h; omega
  · rw [lenU_no (by simpa using h)]; exact Int.le_refl _
set_option maxHeartbeats 8000000 in
theorem pairs_no (fa ta : Option Addr) (fn fc tn tc : Nat) (f t : List (Int × Int)) (a b : Int) (w : World) (hT : Tab w) (hf : Rs w (.slice fa fn fc) f) (ht : Rs w (.slice ta tn tc) t) (hn : ¬ Paired f t) :
    Calls Tryd.prog 6 #[.slice fa fn fc, .slice ta tn tc, .int .i64 a, .int .i64 b] w fun e w' => e = .returned (.bool true) ∧ Below w.heap.size w w' := by
  have HS : Hid (∀ w1, Below w.heap.size w w1 → Hid (PF w w1.heap.size (.slice fa fn fc) (.slice ta tn tc) f t (pW w1 (.slice fa fn fc) (.slice ta tn tc)))) := fun w1 hb => pf_start hb hT hf ht
  have HC : Hid (∀ h, PC w h (.slice fa fn fc) (.slice ta tn tc) f t) := fun h => pc_any w h _ _ f t
  have HSh := shown_any w hT
  have hq : chk (pairR f t) ≠ 0 := fun e => hn ((pair_chk f t).1 e)
  obtain ⟨q, hqq⟩ : ∃ q, chk (pairR f t) = q := ⟨_, rfl⟩
  have HQ : Hid (chk (pairR f t) = q) := hqq
  have hq0 : (q == 0) = false := by rw [← hqq]; simpa using hq
  have hq1 : (q != 0) = true := by rw [← hqq]; simpa using hq
  clear hT hf ht hq hqq
  by_cases h1 : validB f = true
  · by_cases h2 : validB t = true
    · by_cases h3 : 0 < lenU f
      · have h4 : lenU f ≠ lenU t := fun e => hn ⟨h1, h2, h3, e⟩
        obtain ⟨x, hx⟩ : ∃ x, lenU f = x := ⟨_, rfl⟩
        obtain ⟨y, hy⟩ : ∃ y, lenU t = y := ⟨_, rfl⟩
        have HX : Hid (lenU f = x) := hx
        have HY : Hid (lenU t = y) := hy
        have H1 : Hid (validB f = true) := h1
        have H2 : Hid (validB t = true) := h2
        rw [hx] at h3 h4
        rw [hy] at h4
        have h4' : (x == y) = false := by simpa using h4
        clear hx hy h1 h2 hn h4
        go_enter Tryd.func6, Tryd.ntmps6
        go_wp2_with fail
        refine HSh.mono ?_
        rintro e w1 ⟨rfl, hb1⟩
        have P0 := HS.out w1 hb1
        unfold pW at P0
        clear HSh
        go_wp2_with fail
        refine ((HC.out _).chk _ P0).mono ?_
        rw [HQ.out]
        rintro e w2 ⟨rfl, P2⟩
        clear P0
        go_wp2_with fail
        refine ((HC.out _).vf _ P2).mono ?_
        rw [H1.out]
        rintro e w3 ⟨rfl, P3⟩
        clear P2
        go_wp2_with fail
        refine ((HC.out _).vt _ P3).mono ?_
        rw [H2.out]
        rintro e w4 ⟨rfl, P4⟩
        clear P3
        go_wp2_with fail
        refine ((HC.out _).lf _ P4).mono ?_
        rw [HX.out]
        rintro e w5 ⟨rfl, P5⟩
        clear P4
        go_wp2_with fail
        refine ((HC.out _).lf _ P5).mono ?_
        rw [HX.out]
        rintro e w6 ⟨rfl, P6⟩
        clear P5
        go_wp2_with fail
        refine ((HC.out _).lt _ P6).mono ?_
        rw [HY.out]
        rintro e w7 ⟨rfl, P7⟩
        clear P6
        obtain ⟨c0, c1, c2, c3, c4, c5, c6⟩ := P7.out.b1
        go_wp2_with fail
        refine ((HC.out _).chk _ P7).mono ?_
        rw [HQ.out]
        rintro e w8 ⟨rfl, P8⟩
        go_wp2
        go_ret
        exact ⟨rfl, P8.out.bel⟩
      · have h3' : lenU f = 0 := by have := lenU_nonneg f; omega
        have HX : Hid (lenU f = 0) := h3'
        have H1 : Hid (validB f = true) := h1
        have H2 : Hid (validB t = true) := h2
        clear h1 h2 h3 h3' hn
        go_enter Tryd.func6, Tryd.ntmps6
        go_wp2_with fail
        refine HSh.mono ?_
        rintro e w1 ⟨rfl, hb1⟩
        have P0 := HS.out w1 hb1
        unfold pW at P0
        clear HSh
        go_wp2_with fail
        refine ((HC.out _).chk _ P0).mono ?_
        rw [HQ.out]
        rintro e w2 ⟨rfl, P2⟩
        clear P0
        go_wp2_with fail
        refine ((HC.out _).vf _ P2).mono ?_
        rw [H1.out]
        rintro e w3 ⟨rfl, P3⟩
        clear P2
        go_wp2_with fail
        refine ((HC.out _).vt _ P3).mono ?_
        rw [H2.out]
        rintro e w4 ⟨rfl, P4⟩
        clear P3
        go_wp2_with fail
        refine ((HC.out _).lf _ P4).mono ?_
        rw [HX.out]
        rintro e w5 ⟨rfl, P5⟩
        clear P4
        obtain ⟨c0, c1, c2, c3, c4, c5, c6⟩ := P5.out.b1
        go_wp2_with fail
        refine ((HC.out _).chk _ P5).mono ?_
        rw [HQ.out]
        rintro e w8 ⟨rfl, P8⟩
        go_wp2
        go_ret
        exact ⟨rfl, P8.out.bel⟩
    · have h2' : validB t = false := by simpa using h2
      have H1 : Hid (validB f = true) := h1
      have H2 : Hid (validB t = false) := h2'
      clear h1 h2 h2' hn
      go_enter Tryd.func6, Tryd.ntmps6
      go_wp2_with fail
      refine HSh.mono ?_
      rintro e w1 ⟨rfl, hb1⟩
      have P0 := HS.out w1 hb1
      unfold pW at P0
      clear HSh
      go_wp2_with fail
      refine ((HC.out _).chk _ P0).mono ?_
      rw [HQ.out]
      rintro e w2 ⟨rfl, P2⟩
      clear P0
      go_wp2_with fail
      refine ((HC.out _).vf _ P2).mono ?_
      rw [H1.out]
      rintro e w3 ⟨rfl, P3⟩
      clear P2
      go_wp2_with fail
      refine ((HC.out _).vt _ P3).mono ?_
      rw [H2.out]
      rintro e w4 ⟨rfl, P4⟩
      clear P3
      obtain ⟨c0, c1, c2, c3, c4, c5, c6⟩ := P4.out.b1
      go_wp2_with fail
      refine ((HC.out _).chk _ P4).mono ?_
      rw [HQ.out]
      rintro e w8 ⟨rfl, P8⟩
      go_wp2
      go_ret
      exact ⟨rfl, P8.out.bel⟩
  · have h1' : validB f = false := by simpa using h1
    have H1 : Hid (validB f = false) := h1'
    clear h1 h1' hn
    go_enter Tryd.func6, Tryd.ntmps6
    go_wp2_with fail
    refine HSh.mono ?_
    rintro e w1 ⟨rfl, hb1⟩
    have P0 := HS.out w1 hb1
    unfold pW at P0
    clear HSh
    go_wp2_with fail
    refine ((HC.out _).chk _ P0).mono ?_
    rw [HQ.out]
    rintro e w2 ⟨rfl, P2⟩
    clear P0
    go_wp2_with fail
    refine ((HC.out _).vf _ P2).mono ?_
    rw [H1.out]
    rintro e w3 ⟨rfl, P3⟩
    clear P2
    obtain ⟨c0, c1, c2, c3, c4, c5, c6⟩ := P3.out.b1
    go_wp2_with fail
    refine ((HC.out _).chk _ P3).mono ?_
    rw [HQ.out]
    rintro e w8 ⟨rfl, P8⟩
    go_wp2
    go_ret
    exact ⟨rfl, P8.out.bel⟩
end Go.Proofs
