/-
  Rules, compared: ours and the document's.
-/
import Derived.RangeFuncNested
import Derived.RangeFuncBound
import Derived.RangeFuncCalls
import Derived.RangeFuncLeaves
import Derived.Shelf.Abstract
import Derived.Shelf.RegionOpen
import Derived.WalkKit
import Derived.WalkSpells
import Derived.WalkLawsBesides
import Derived.OwnWalkIn
import Derived.TacticsInMore
import Derived.LoopNIn
import Derived.LoopIn
import Derived.BigQuiet
import Derived.RegionIn
import Derived.Deep.QuietTactic
import Derived.Deep.RegionWith
import Derived.Lib.OthersKept
import Derived.Maps.AppendAt
import Derived.Lib.SmallJoins
import Derived.Shelf.SlSortCmp.QuietGrown
import Derived.Test.YtcfjdijmobgbpaaDoorZb
import Derived.Test.YtcfjdijmobgbpaaDoorYa
namespace Go.Proofs
open Go.RowKit Go.Shelf

set_option maxRecDepth 100000
attribute [local go_sem] Oper.semAt_some
attribute [local go_sem ↓] Go.wp_at_zero Go.wp_at_succ
/-- two rules in two blocks -/
structure R2 (w : World) (a b : Rl) (aa ak ap ar ba bk bp br : Value) (W : World) : Prop where
  g : Grown w W
  ra : RR W aa ak ap ar a
  rb : RR W ba bk bp br b
  ca : RC W w.heap.size a.bg aa ak ap a.en ar a.cu
  cb : RC W (w.heap.size + 1) b.bg ba bk bp b.en br b.cu
theorem R2.grown {w : World} {a b : Rl} {aa ak ap ar ba bk bp br : Value} {W W' : World} (h : R2 w a b aa ak ap ar ba bk bp br W) (k : Grown W W') : R2 w a b aa ak ap ar ba bk bp br W' :=
  ⟨h.g.trans k, h.ra.grown k, h.rb.grown k, h.ca.below k.below (Nat.le_refl _), h.cb.below k.below (Nat.le_refl _)⟩
theorem r2_start {w : World} {a b : Rl} {aa ak ap ar ba bk bp br : Value} (ha : RR w aa ak ap ar a) (hb : RR w ba bk bp br b) :
    R2 w a b aa ak ap ar ba bk bp br ((w.alloc (.cells #[.bool a.bg, aa, ak, ap, .bool a.en, ar, .int .i64 a.cu] 25)).alloc (.cells #[.bool b.bg, ba, bk, bp, .bool b.en, br, .int .i64 b.cu] 25)) := by
  have hg := ((Grown.refl w).alloc (.cells #[.bool a.bg, aa, ak, ap, .bool a.en, ar, .int .i64 a.cu] 25)).alloc (.cells #[.bool b.bg, ba, bk, bp, .bool b.en, br, .int .i64 b.cu] 25)
  refine ⟨hg, ha.grown hg, hb.grown hg, (rc_new w _ _ _ _ _ _ _).below ((Grown.refl _).alloc _).below (Nat.le_refl _), ?_⟩
  have := rc_new (w.alloc (.cells #[.bool a.bg, aa, ak, ap, .bool a.en, ar, .int .i64 a.cu] 25)) b.bg ba bk bp b.en br b.cu
  simpa using this
theorem rl_ne {a b : Rl} (h : ¬ (a.bg = b.bg ∧ a.en = b.en ∧ a.cu = b.cu ∧ a.ante = b.ante ∧ a.key = b.key ∧ a.post = b.post ∧ a.res = b.res)) : decide (a = b) = false := by
  rw [decide_eq_false_iff_not]
  rintro rfl
  exact h ⟨rfl, rfl, rfl, rfl, rfl, rfl, rfl⟩
theorem rl_eq {a b : Rl} (h : a.bg = b.bg ∧ a.en = b.en ∧ a.cu = b.cu ∧ a.ante = b.ante ∧ a.key = b.key ∧ a.post = b.post ∧ a.res = b.res) : decide (a = b) = true := by
  rw [decide_eq_true_eq]
  cases a; cases b; simp_all
/-- how great a rule may be -/
structure Sz (r : Rl) : Prop where
  na : r.ante.length ≤ 1152921504606846976
  sa : ∀ l ∈ r.ante, l.length ≤ 1152921504606846976
  nk : r.key.length ≤ 1152921504606846976
  sk : ∀ l ∈ r.key, l.length ≤ 1152921504606846976
  np : r.post.length ≤ 1152921504606846976
  sp : ∀ l ∈ r.post, l.length ≤ 1152921504606846976
  nr : r.res.length ≤ 1152921504606846976
  sr : ∀ p ∈ r.res, p.tl.length ≤ 1152921504606846976
set_option maxHeartbeats 8000000 in
theorem same_any (a b : Rl) (aa ak ap ar ba bk bp br : Value) (w : World) (ha : RR w aa ak ap ar a) (hb : RR w ba bk bp br b) (hs : Sz a) :
    Calls Tryd.prog 27 #[.agg #[.bool a.bg, aa, ak, ap, .bool a.en, ar, .int .i64 a.cu], .agg #[.bool b.bg, ba, bk, bp, .bool b.en, br, .int .i64 b.cu]] w fun e w' => e = .returned (.bool (decide (a = b))) ∧ Grown w w' := by
  have P0 : Hid (R2 w a b aa ak ap ar ba bk bp br ((w.alloc (.cells #[.bool a.bg, aa, ak, ap, .bool a.en, ar, .int .i64 a.cu] 25)).alloc (.cells #[.bool b.bg, ba, bk, bp, .bool b.en, br, .int .i64 b.cu] 25))) := r2_start ha hb
  have C1 : Hid (∀ W, Hid (R2 w a b aa ak ap ar ba bk bp br W) → Calls Tryd.prog 51 #[aa, ba] W fun e w' => e = .returned (.bool (decide (a.ante = b.ante))) ∧ Hid (R2 w a b aa ak ap ar ba bk bp br w')) := fun W p => (same51_any aa ba _ _ W p.out.ra.a p.out.rb.a hs.na hs.sa).mono fun e w' ⟨h1, h2⟩ => ⟨h1, p.out.grown h2⟩
  have C2 : Hid (∀ W, Hid (R2 w a b aa ak ap ar ba bk bp br W) → Calls Tryd.prog 51 #[ak, bk] W fun e w' => e = .returned (.bool (decide (a.key = b.key))) ∧ Hid (R2 w a b aa ak ap ar ba bk bp br w')) := fun W p => (same51_any ak bk _ _ W p.out.ra.k p.out.rb.k hs.nk hs.sk).mono fun e w' ⟨h1, h2⟩ => ⟨h1, p.out.grown h2⟩
  have C3 : Hid (∀ W, Hid (R2 w a b aa ak ap ar ba bk bp br W) → Calls Tryd.prog 51 #[ap, bp] W fun e w' => e = .returned (.bool (decide (a.post = b.post))) ∧ Hid (R2 w a b aa ak ap ar ba bk bp br w')) := fun W p => (same51_any ap bp _ _ W p.out.ra.p p.out.rb.p hs.np hs.sp).mono fun e w' ⟨h1, h2⟩ => ⟨h1, p.out.grown h2⟩
  have C4 : Hid (∀ W, Hid (R2 w a b aa ak ap ar ba bk bp br W) → Calls Tryd.prog 52 #[ar, br, .func (.func 53) #[] #[]] W fun e w' => e = .returned (.bool (decide (a.res = b.res))) ∧ Hid (R2 w a b aa ak ap ar ba bk bp br w')) := fun W p => (eq52_any ar br _ _ W p.out.ra.r p.out.rb.r hs.nr hs.sr).mono fun e w' ⟨h1, h2⟩ => ⟨h1, p.out.grown h2⟩
  obtain ⟨aa1, aa2, aa3, rfl⟩ := ha.a.sl
  obtain ⟨ak1, ak2, ak3, rfl⟩ := ha.k.sl
  obtain ⟨ap1, ap2, ap3, rfl⟩ := ha.p.sl
  obtain ⟨ar1, ar2, ar3, rfl⟩ := ha.r.sl
  obtain ⟨ba1, ba2, ba3, rfl⟩ := hb.a.sl
  obtain ⟨bk1, bk2, bk3, rfl⟩ := hb.k.sl
  obtain ⟨bp1, bp2, bp3, rfl⟩ := hb.p.sl
  obtain ⟨br1, br2, br3, rfl⟩ := hb.r.sl
  obtain ⟨r, hr⟩ : ∃ r : Bool, decide (a = b) = r := ⟨_, rfl⟩
  have HR : Hid (decide (a = b) = r) := hr
  rw [hr]
  clear hr ha hb hs
  by_cases a0 : a.bg = b.bg
  · have A0 : Hid (a.bg = b.bg) := a0
    have e0 : (a.bg == b.bg) = true := by simp [a0]
    clear a0
    by_cases a1 : a.en = b.en
    · have A1 : Hid (a.en = b.en) := a1
      have e1 : (a.en == b.en) = true := by simp [a1]
      clear a1
      by_cases a2 : a.cu = b.cu
      · have A2 : Hid (a.cu = b.cu) := a2
        have e2 : (a.cu == b.cu) = true := by simp [a2]
        clear a2
        by_cases a3 : a.ante = b.ante
        · have A3 : Hid (a.ante = b.ante) := a3
          clear a3
          by_cases a4 : a.key = b.key
          · have A4 : Hid (a.key = b.key) := a4
            clear a4
            by_cases a5 : a.post = b.post
            · have A5 : Hid (a.post = b.post) := a5
              clear a5
              by_cases a6 : a.res = b.res
              · have A6 : Hid (a.res = b.res) := a6
                clear a6
                have hf : r = true := by rw [← HR.out]; exact rl_eq ⟨A0.out, A1.out, A2.out, A3.out, A4.out, A5.out, A6.out⟩
                subst hf
                clear HR
                go_enter Tryd.func27, Tryd.ntmps27
                go_wp2_with fail
                refine (C1.out _ P0).mono ?_
                rw [decide_eq_true A3.out]
                rintro e w1 ⟨rfl, P1⟩
                clear P0
                obtain ⟨x0, x1, x2, x3, x4, x5, x6⟩ := P1.out.ca
                obtain ⟨y0, y1, y2, y3, y4, y5, y6⟩ := P1.out.cb
                go_wp2_with fail
                refine (C2.out _ P1).mono ?_
                rw [decide_eq_true A4.out]
                rintro e w2 ⟨rfl, P2⟩
                clear x0 x1 x2 x3 x4 x5 x6 y0 y1 y2 y3 y4 y5 y6
                clear P1
                obtain ⟨x0, x1, x2, x3, x4, x5, x6⟩ := P2.out.ca
                obtain ⟨y0, y1, y2, y3, y4, y5, y6⟩ := P2.out.cb
                go_wp2_with fail
                refine (C3.out _ P2).mono ?_
                rw [decide_eq_true A5.out]
                rintro e w3 ⟨rfl, P3⟩
                clear x0 x1 x2 x3 x4 x5 x6 y0 y1 y2 y3 y4 y5 y6
                clear P2
                obtain ⟨x0, x1, x2, x3, x4, x5, x6⟩ := P3.out.ca
                obtain ⟨y0, y1, y2, y3, y4, y5, y6⟩ := P3.out.cb
                go_wp2_with fail
                refine (C4.out _ P3).mono ?_
                rw [decide_eq_true A6.out]
                rintro e w4 ⟨rfl, P4⟩
                clear x0 x1 x2 x3 x4 x5 x6 y0 y1 y2 y3 y4 y5 y6
                clear P3
                go_wp2
                go_ret
                exact ⟨rfl, P4.out.g⟩
              · have hf : r = false := by rw [← HR.out]; exact rl_ne (fun h => a6 h.2.2.2.2.2.2)
                subst hf
                clear HR
                go_enter Tryd.func27, Tryd.ntmps27
                go_wp2_with fail
                refine (C1.out _ P0).mono ?_
                rw [decide_eq_true A3.out]
                rintro e w1 ⟨rfl, P1⟩
                clear P0
                obtain ⟨x0, x1, x2, x3, x4, x5, x6⟩ := P1.out.ca
                obtain ⟨y0, y1, y2, y3, y4, y5, y6⟩ := P1.out.cb
                go_wp2_with fail
                refine (C2.out _ P1).mono ?_
                rw [decide_eq_true A4.out]
                rintro e w2 ⟨rfl, P2⟩
                clear x0 x1 x2 x3 x4 x5 x6 y0 y1 y2 y3 y4 y5 y6
                clear P1
                obtain ⟨x0, x1, x2, x3, x4, x5, x6⟩ := P2.out.ca
                obtain ⟨y0, y1, y2, y3, y4, y5, y6⟩ := P2.out.cb
                go_wp2_with fail
                refine (C3.out _ P2).mono ?_
                rw [decide_eq_true A5.out]
                rintro e w3 ⟨rfl, P3⟩
                clear x0 x1 x2 x3 x4 x5 x6 y0 y1 y2 y3 y4 y5 y6
                clear P2
                obtain ⟨x0, x1, x2, x3, x4, x5, x6⟩ := P3.out.ca
                obtain ⟨y0, y1, y2, y3, y4, y5, y6⟩ := P3.out.cb
                go_wp2_with fail
                refine (C4.out _ P3).mono ?_
                rw [decide_eq_false a6]
                rintro e w4 ⟨rfl, P4⟩
                clear x0 x1 x2 x3 x4 x5 x6 y0 y1 y2 y3 y4 y5 y6
                clear P3
                go_wp2
                go_ret
                exact ⟨rfl, P4.out.g⟩
            · have hf : r = false := by rw [← HR.out]; exact rl_ne (fun h => a5 h.2.2.2.2.2.1)
              subst hf
              clear HR
              go_enter Tryd.func27, Tryd.ntmps27
              go_wp2_with fail
              refine (C1.out _ P0).mono ?_
              rw [decide_eq_true A3.out]
              rintro e w1 ⟨rfl, P1⟩
              clear P0
              obtain ⟨x0, x1, x2, x3, x4, x5, x6⟩ := P1.out.ca
              obtain ⟨y0, y1, y2, y3, y4, y5, y6⟩ := P1.out.cb
              go_wp2_with fail
              refine (C2.out _ P1).mono ?_
              rw [decide_eq_true A4.out]
              rintro e w2 ⟨rfl, P2⟩
              clear x0 x1 x2 x3 x4 x5 x6 y0 y1 y2 y3 y4 y5 y6
              clear P1
              obtain ⟨x0, x1, x2, x3, x4, x5, x6⟩ := P2.out.ca
              obtain ⟨y0, y1, y2, y3, y4, y5, y6⟩ := P2.out.cb
              go_wp2_with fail
              refine (C3.out _ P2).mono ?_
              rw [decide_eq_false a5]
              rintro e w3 ⟨rfl, P3⟩
              clear x0 x1 x2 x3 x4 x5 x6 y0 y1 y2 y3 y4 y5 y6
              clear P2
              go_wp2
              go_ret
              exact ⟨rfl, P3.out.g⟩
          · have hf : r = false := by rw [← HR.out]; exact rl_ne (fun h => a4 h.2.2.2.2.1)
            subst hf
            clear HR
            go_enter Tryd.func27, Tryd.ntmps27
            go_wp2_with fail
            refine (C1.out _ P0).mono ?_
            rw [decide_eq_true A3.out]
            rintro e w1 ⟨rfl, P1⟩
            clear P0
            obtain ⟨x0, x1, x2, x3, x4, x5, x6⟩ := P1.out.ca
            obtain ⟨y0, y1, y2, y3, y4, y5, y6⟩ := P1.out.cb
            go_wp2_with fail
            refine (C2.out _ P1).mono ?_
            rw [decide_eq_false a4]
            rintro e w2 ⟨rfl, P2⟩
            clear x0 x1 x2 x3 x4 x5 x6 y0 y1 y2 y3 y4 y5 y6
            clear P1
            go_wp2
            go_ret
            exact ⟨rfl, P2.out.g⟩
        · have hf : r = false := by rw [← HR.out]; exact rl_ne (fun h => a3 h.2.2.2.1)
          subst hf
          clear HR
          go_enter Tryd.func27, Tryd.ntmps27
          go_wp2_with fail
          refine (C1.out _ P0).mono ?_
          rw [decide_eq_false a3]
          rintro e w1 ⟨rfl, P1⟩
          clear P0
          go_wp2
          go_ret
          exact ⟨rfl, P1.out.g⟩
      · have hf : r = false := by rw [← HR.out]; exact rl_ne (fun h => a2 h.2.2.1)
        subst hf
        have e2 : (a.cu == b.cu) = false := by simpa using a2
        clear HR
        go_enter Tryd.func27, Tryd.ntmps27
        go_wp2
        go_ret
        exact ⟨rfl, ((Grown.refl _).alloc _).alloc _⟩
    · have hf : r = false := by rw [← HR.out]; exact rl_ne (fun h => a1 h.2.1)
      subst hf
      have e1 : (a.en == b.en) = false := by simpa using a1
      clear HR
      go_enter Tryd.func27, Tryd.ntmps27
      go_wp2
      go_ret
      exact ⟨rfl, ((Grown.refl _).alloc _).alloc _⟩
  · have hf : r = false := by rw [← HR.out]; exact rl_ne (fun h => a0 h.1)
    subst hf
    have e0 : (a.bg == b.bg) = false := by simpa using a0
    clear HR
    go_enter Tryd.func27, Tryd.ntmps27
    go_wp2
    go_ret
    exact ⟨rfl, ((Grown.refl _).alloc _).alloc _⟩
end Go.Proofs
