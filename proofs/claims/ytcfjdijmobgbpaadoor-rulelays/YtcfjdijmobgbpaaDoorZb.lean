/-
  Pieces and rules, compared: ours.
-/
import Derived.RangeFuncNested
import Derived.RangeFuncBound
import Derived.RangeFuncCalls
import Derived.RangeFuncLeaves
import Derived.Shelf.Abstract
import Derived.Shelf.RegionOpen
import Derived.WalkKit
import Derived.WalkSpells
import Derived.WalkLawsBesides
import Derived.OwnWalkIn
import Derived.TacticsInMore
import Derived.LoopNIn
import Derived.LoopIn
import Derived.BigQuiet
import Derived.RegionIn
import Derived.Deep.QuietTactic
import Derived.Deep.RegionWith
import Derived.Lib.OthersKept
import Derived.Maps.AppendAt
import Derived.Lib.SmallJoins
import Derived.Shelf.SlSortCmp.QuietGrown
import Derived.Test.YtcfjdijmobgbpaaDoorZa
namespace Go.Proofs
open Go.RowKit Go.Shelf

set_option maxRecDepth 100000
attribute [local go_sem] Oper.semAt_some
attribute [local go_sem ↓] Go.wp_at_zero Go.wp_at_succ
instance : DecidableEq Pc := fun p q => decidable_of_iff (p.k = q.k ∧ p.u = q.u ∧ p.y = q.y ∧ p.tl = q.tl) (by cases p; cases q; simp)
instance : DecidableEq Rl := fun a b => decidable_of_iff (a.bg = b.bg ∧ a.en = b.en ∧ a.cu = b.cu ∧ a.ante = b.ante ∧ a.key = b.key ∧ a.post = b.post ∧ a.res = b.res) (by cases a; cases b; simp)
theorem pc_ne {p q : Pc} (h : ¬ (p.k = q.k ∧ p.u = q.u ∧ p.y = q.y ∧ p.tl = q.tl)) : decide (p = q) = false := by
  rw [decide_eq_false_iff_not]
  rintro rfl
  exact h ⟨rfl, rfl, rfl, rfl⟩
set_option maxHeartbeats 2000000 in
theorem samePiece_any (p q : Pc) (pv qv : Value) (w : World) (h1 : Rs w pv p.tl) (h2 : Rs w qv q.tl) (hn : p.tl.length ≤ 1152921504606846976) :
    Calls Tryd.prog 53 #[.agg #[.int .i64 p.k, .int .i64 p.u, .int .i64 p.y, pv], .agg #[.int .i64 q.k, .int .i64 q.u, .int .i64 q.y, qv]] w fun e w' => e = .returned (.bool (decide (p = q))) ∧ Grown w w' := by
  have HC : Hid (∀ W, Grown w W → Calls Tryd.prog 72 #[pv, qv] W fun e w' => e = .returned (.bool (decide (p.tl = q.tl))) ∧ Grown W w') := fun W hW => same72_any pv qv _ _ W (h1.grown hW) (h2.grown hW) hn
  obtain ⟨pa, pn, pc, rfl⟩ := h1.sl
  obtain ⟨qa, qn, qc, rfl⟩ := h2.sl
  clear h1 h2 hn
  obtain ⟨r, hr⟩ : ∃ r : Bool, decide (p = q) = r := ⟨_, rfl⟩
  have HR : Hid (decide (p = q) = r) := hr
  rw [hr]
  clear hr
  by_cases a1 : p.k = q.k
  · by_cases a2 : p.u = q.u
    · by_cases a3 : p.y = q.y
      · have HE : Hid (decide (p.tl = q.tl) = r) := by
          have key : decide (p.tl = q.tl) = decide (p = q) := by
            by_cases a4 : p.tl = q.tl
            · have : p = q := by cases p; cases q; simp_all
              rw [decide_eq_true this, decide_eq_true a4]
            · rw [pc_ne (fun h => a4 h.2.2.2), decide_eq_false a4]
          exact key.trans HR.out
        have HC2 : Hid (∀ W, Grown w W → Calls Tryd.prog 72 #[.slice pa pn pc, .slice qa qn qc] W fun e w' => e = .returned (.bool r) ∧ Grown W w') := fun W hW => by have := HC.out W hW; rw [HE.out] at this; exact this
        obtain ⟨pk, pu, py, ptl⟩ := p
        obtain ⟨qk, qu, qy, qtl⟩ := q
        simp only at a1 a2 a3 ⊢
        subst a1 a2 a3
        clear HR HE HC
        go_enter Tryd.func53, Tryd.ntmps53
        go_wp2_with fail
        refine (HC2.out _ (((Grown.refl _).alloc _).alloc _)).mono ?_
        rintro e w1 ⟨rfl, hb1⟩
        go_wp2
        go_ret
        exact ⟨rfl, (((Grown.refl _).alloc _).alloc _).trans hb1⟩
      · have hf : r = false := by rw [← HR.out]; exact pc_ne (fun h => a3 h.2.2.1)
        obtain ⟨pk, pu, py, ptl⟩ := p
        obtain ⟨qk, qu, qy, qtl⟩ := q
        simp only at a1 a2 a3 ⊢
        subst a1 a2 hf
        have e3 : (py == qy) = false := by simpa using a3
        clear HR HC
        go_enter Tryd.func53, Tryd.ntmps53
        go_wp2
        go_ret
        exact ⟨rfl, (((Grown.refl _).alloc _).alloc _)⟩
    · have hf : r = false := by rw [← HR.out]; exact pc_ne (fun h => a2 h.2.1)
      obtain ⟨pk, pu, py, ptl⟩ := p
      obtain ⟨qk, qu, qy, qtl⟩ := q
      simp only at a1 a2 ⊢
      subst a1 hf
      have e3 : (pu == qu) = false := by simpa using a2
      clear HR HC
      go_enter Tryd.func53, Tryd.ntmps53
      go_wp2
      go_ret
      exact ⟨rfl, (((Grown.refl _).alloc _).alloc _)⟩
  · have hf : r = false := by rw [← HR.out]; exact pc_ne (fun h => a1 h.1)
    obtain ⟨pk, pu, py, ptl⟩ := p
    obtain ⟨qk, qu, qy, qtl⟩ := q
    simp only at a1 ⊢
    subst hf
    have e3 : (pk == qk) = false := by simpa using a1
    clear HR HC
    go_enter Tryd.func53, Tryd.ntmps53
    go_wp2
    go_ret
    exact ⟨rfl, (((Grown.refl _).alloc _).alloc _)⟩
set_option maxHeartbeats 1000000 in
theorem eq52_lens (A B : Option Addr) (n c m d : Nat) (w : World) (h : n ≠ m) : Calls Tryd.prog 52 #[.slice A n c, .slice B m d, .func (.func 53) #[] #[]] w fun e w' => e = .returned (.bool false) ∧ Grown w w' := by
  have e1 : ((n : Int) != (m : Int)) = true := by rw [bne_iff_ne]; omega
  go_enter Tryd.func52, Tryd.ntmps52
  go_wp2
  go_ret
  exact ⟨rfl, Grown.refl _⟩
set_option maxHeartbeats 4000000 in
theorem eq52_walk (A B : Option Addr) (c d : Nat) (a b : List Pc) (w : World) (h1 : a = [] ∨ ∃ g o, A = some ⟨g, o, none⟩ ∧ PRd w g o a) (h2 : b = [] ∨ ∃ g o, B = some ⟨g, o, none⟩ ∧ PRd w g o b) (hl : b.length = a.length) (hn : a.length ≤ 1152921504606846976) (hs : ∀ p ∈ a, p.tl.length ≤ 1152921504606846976) :
    Calls Tryd.prog 52 #[.slice A a.length c, .slice B a.length d, .func (.func 53) #[] #[]] w fun e w' => e = .returned (.bool (decide (a = b))) ∧ Grown w w' := by
  obtain ⟨n, hnn⟩ : ∃ n, a.length = n := ⟨_, rfl⟩
  have HA : Hid (a.length = n) := hnn
  have HB : Hid (b.length = n) := by rw [hnn] at hl; exact hl
  have HSm : Hid (∀ p ∈ a, p.tl.length ≤ 1152921504606846976) := hs
  rw [hnn] at hn ⊢
  obtain ⟨r, hr⟩ : ∃ r : Bool, decide (a = b) = r := ⟨_, rfl⟩
  have HR : Hid (decide (a = b) = r) := hr
  have H1 : Hid (a = [] ∨ ∃ g o, A = some ⟨g, o, none⟩ ∧ PRd w g o a) := h1
  have H2 : Hid (b = [] ∨ ∃ g o, B = some ⟨g, o, none⟩ ∧ PRd w g o b) := h2
  rw [hr]
  clear hr hl h1 h2 hnn hs
  go_enter Tryd.func52, Tryd.ntmps52
  go_wp2
  go_loopw [17] (fun vi wr => ∃ k : Nat, vi = .int .i64 k ∧ k ≤ n ∧ Hid (a.take k = b.take k) ∧ Grown w wr) (fun vi _ => n - (intOf vi).toNat)
  case atStart => exact ⟨0, rfl, by omega, rfl, Grown.refl _⟩
  case round =>
    obtain ⟨k, rfl, hk, hT, hG⟩ := hrel
    by_cases hlt : k < n
    · as_aux_lemma =>
        have hlt' : (k : Int) < (n : Int) := by omega
        have hpos : (0 : Int) ≤ (k : Int) := by omega
        have hka : k < a.length := by rw [HA.out]; exact hlt
        have hkb : k < b.length := by rw [HB.out]; exact hlt
        obtain ⟨g1, o1, hA1, hr1⟩ := H1.out.resolve_left (fun e => by rw [e] at hka; simp at hka)
        obtain ⟨g2, o2, hB1, hr2⟩ := H2.out.resolve_left (fun e => by rw [e] at hkb; simp at hkb)
        subst hA1
        subst hB1
        obtain ⟨s1, p0, p1, p2, p3, x1⟩ := (hr1 k hka).below hG.below (Nat.le_refl _)
        obtain ⟨s2, q0, q1, q2, q3, x2⟩ := (hr2 k hkb).below hG.below (Nat.le_refl _)
        have HC : Hid (∀ W, Grown wr W → Calls Tryd.prog 53 #[.agg #[.int .i64 a[k].k, .int .i64 a[k].u, .int .i64 a[k].y, s1], .agg #[.int .i64 b[k].k, .int .i64 b[k].u, .int .i64 b[k].y, s2]] W fun e w' => e = .returned (.bool (decide (a[k] = b[k]))) ∧ Grown W w') := fun W hW => samePiece_any a[k] b[k] s1 s2 W (x1.grown hW) (x2.grown hW) (HSm.out _ (List.getElem_mem hka))
        obtain ⟨sa, sn, sc, rfl⟩ := x1.sl
        obtain ⟨ta, tn, tc, rfl⟩ := x2.sl
        have q0' := fun o => cell_up q0 o
        have q1' := fun o => cell_up q1 o
        have q2' := fun o => cell_up q2 o
        have q3' := fun o => cell_up q3 o
        clear x1 x2 hr1 hr2 q0 q1 q2 q3
        have hI : Hid (a[k] = b[k] → a.take (k + 1) = b.take (k + 1)) := fun he => by rw [List.take_succ_eq_append_getElem hka, List.take_succ_eq_append_getElem hkb, hT.out, he]
        have hI2 : Hid (a[k] ≠ b[k] → r = false) := fun he => by
          rw [← HR.out, decide_eq_false_iff_not]
          intro e
          subst e
          exact he rfl
        by_cases he : a[k] = b[k]
        · have hT' : Hid (a.take (k + 1) = b.take (k + 1)) := hI.out he
          rw [decide_eq_true he] at HC
          generalize a[k].k = z1 at *
          generalize a[k].u = z2 at *
          generalize a[k].y = z3 at *
          generalize b[k].k = z4 at *
          generalize b[k].u = z5 at *
          generalize b[k].y = z6 at *
          clear hT he hI hI2
          go_wp2_with (go_at_call 53; refine (HC.out _ (((Grown.refl _).alloc _).alloc _)).mono ?_; rintro e w' ⟨rfl, hb⟩)
          exact ⟨⟨k + 1, by go_num, by omega, hT', (((hG.alloc _).alloc _).trans hb)⟩, by simp [intOf]; omega⟩
        · have HF : Hid (r = false) := hI2.out he
          rw [decide_eq_false he] at HC
          generalize a[k].k = z1 at *
          generalize a[k].u = z2 at *
          generalize a[k].y = z3 at *
          generalize b[k].k = z4 at *
          generalize b[k].u = z5 at *
          generalize b[k].y = z6 at *
          clear hT he hI hI2
          go_wp2_with (go_at_call 53; refine (HC.out _ (((Grown.refl _).alloc _).alloc _)).mono ?_; rintro e w' ⟨rfl, hb⟩)
          go_ret
          have hrf := HF.out
          exact ⟨by first | rfl | (rw [hrf]; rfl), (((hG.alloc _).alloc _).trans hb)⟩
    · as_aux_lemma =>
        have hge : ¬ (k : Int) < (n : Int) := by omega
        have hrt : r = true := by
          rw [← HR.out, decide_eq_true_eq]
          have := hT.out
          rwa [List.take_of_length_le (by rw [HA.out]; omega), List.take_of_length_le (by rw [HB.out]; omega)] at this
        have HF : Hid (r = true) := hrt
        clear hT hrt
        go_wp2
        go_ret
        have hrf := HF.out
        exact ⟨by first | rfl | (rw [hrf]; rfl), hG⟩
theorem eq52_any (v1 v2 : Value) (a b : List Pc) (w : World) (h1 : PR w v1 a) (h2 : PR w v2 b) (hn : a.length ≤ 1152921504606846976) (hs : ∀ p ∈ a, p.tl.length ≤ 1152921504606846976) : Calls Tryd.prog 52 #[v1, v2, .func (.func 53) #[] #[]] w fun e w' => e = .returned (.bool (decide (a = b))) ∧ Grown w w' := by
  obtain ⟨A, c, rfl, _, h1⟩ := h1
  obtain ⟨B, d, rfl, _, h2⟩ := h2
  by_cases hl : b.length = a.length
  · rw [hl]; exact eq52_walk A B c d a b w h1 h2 hl hn hs
  · rw [decide_eq_false (fun e => hl (by rw [e]))]
    exact eq52_lens A B a.length c b.length d w (fun e => hl e.symm)
end Go.Proofs
