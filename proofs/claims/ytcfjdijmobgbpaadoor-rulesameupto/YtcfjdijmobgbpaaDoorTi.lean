/-
  RuleSame: every answer of Same, of any two rules, and of one and its copy.
-/
import Derived.RangeFuncNested
import Derived.RangeFuncBound
import Derived.RangeFuncCalls
import Derived.RangeFuncLeaves
import Derived.Shelf.Abstract
import Derived.Shelf.RegionOpen
import Derived.WalkKit
import Derived.WalkSpells
import Derived.WalkLawsBesides
import Derived.OwnWalkIn
import Derived.TacticsInMore
import Derived.LoopNIn
import Derived.LoopIn
import Derived.BigQuiet
import Derived.RegionIn
import Derived.Deep.QuietTactic
import Derived.Deep.RegionWith
import Derived.Lib.OthersKept
import Derived.Maps.AppendAt
import Derived.Lib.SmallJoins
import Derived.Shelf.SlSortCmp.QuietGrown
import Derived.Test.YtcfjdijmobgbpaaDoorTh
namespace Go.Proofs
open Go.RowKit Go.Shelf

set_option maxRecDepth 100000
attribute [local go_sem] Oper.semAt_some
attribute [local go_sem ↓] Go.wp_at_zero Go.wp_at_succ
/-- what lies where in the walk of RuleSame -/
structure S7 (w : World) (x y : RI) (W : World) : Prop where
  bel : Below w.heap.size w W
  tab : Tab W
  ix : x.In W
  iy : y.In W
  cx : RC W w.heap.size x.r.bg x.av x.kv x.pv x.r.en x.rv x.r.cu
  cy : RC W (w.heap.size + 1) y.r.bg y.av y.kv y.pv y.r.en y.rv y.r.cu
theorem S7.below {w : World} {x y : RI} {W W' : World} (h : S7 w x y W) (hb : Below W.heap.size W W') : S7 w x y W' :=
  ⟨h.bel.trans (hb.mono h.bel.size), h.tab.below hb h.tab.pos, h.ix.below hb (Nat.le_refl _), h.iy.below hb (Nat.le_refl _), h.cx.below hb (Nat.le_refl _), h.cy.below hb (Nat.le_refl _)⟩
theorem s7_start {w : World} {x y : RI} (hT : Tab w) (hx : x.In w) (hy : y.In w) : S7 w x y ((w.alloc (.cells #[.bool x.r.bg, x.av, x.kv, x.pv, .bool x.r.en, x.rv, .int .i64 x.r.cu] 25)).alloc (.cells #[.bool y.r.bg, y.av, y.kv, y.pv, .bool y.r.en, y.rv, .int .i64 y.r.cu] 25)) := by
  have hg := ((Grown.refl w).alloc (.cells #[.bool x.r.bg, x.av, x.kv, x.pv, .bool x.r.en, x.rv, .int .i64 x.r.cu] 25)).alloc (.cells #[.bool y.r.bg, y.av, y.kv, y.pv, .bool y.r.en, y.rv, .int .i64 y.r.cu] 25)
  refine ⟨hg.below, hT.grown hg, hx.below hg.below (Nat.le_refl _), hy.below hg.below (Nat.le_refl _), (rc_new w _ _ _ _ _ _ _).below ((Grown.refl _).alloc _).below (Nat.le_refl _), ?_⟩
  have := rc_new (w.alloc (.cells #[.bool x.r.bg, x.av, x.kv, x.pv, .bool x.r.en, x.rv, .int .i64 x.r.cu] 25)) y.r.bg y.av y.kv y.pv y.r.en y.rv y.r.cu
  simpa using this
/-- what the operations leave that lend the two rules -/
def I7 (x y : RI) (n : Nat) : Nat → (Nat → Value) → World → Prop
  | 0, vs, _ => vs 0 = lval x.r x.av x.kv x.pv x.rv
  | 1, vs, w => ∃ a k p q, vs 1 = lval x.r a k p q ∧ x.Lent w n a k p q
  | 2, vs, _ => vs 2 = lval y.r y.av y.kv y.pv y.rv
  | 3, vs, w => ∃ a k p q, vs 3 = lval y.r a k p q ∧ y.Lent w n a k p q
  | 4, vs, w => ∃ B, vs 4 = .pointer (some ⟨B, 0, none⟩) ∧ n ≤ B ∧ w.heap[B]? = some (.cells zeroC 25 (0, 0))
  | 5, vs, w => ∃ B, vs 5 = .pointer (some ⟨B, 0, none⟩) ∧ n ≤ B ∧ w.heap[B]? = some (.cells zeroC 25 (0, 0))
  | _, _, _ => True
theorem I7.ext {x y : RI} {n : Nat} (i : Nat) (vs : Nat → Value) (w w' : World) (h : I7 x y n i vs w) (he : Ext w w') : I7 x y n i vs w' := by
  have hk : ∀ g o, w.heap[g]? = some o → w'.heap[g]? = some o := fun g o ho => (he.block g (Array.getElem?_eq_some_iff.1 ho).1).trans ho
  match i, h with
  | 0, h => exact h
  | 1, ⟨a, k, p, q, h1, h2⟩ => exact ⟨a, k, p, q, h1, h2.below he (Nat.le_refl _)⟩
  | 2, h => exact h
  | 3, ⟨a, k, p, q, h1, h2⟩ => exact ⟨a, k, p, q, h1, h2.below he (Nat.le_refl _)⟩
  | 4, ⟨B, h1, h2, h3⟩ => exact ⟨B, h1, h2, hk B _ h3⟩
  | 5, ⟨B, h1, h2, h3⟩ => exact ⟨B, h1, h2, hk B _ h3⟩
  | _ + 6, _ => trivial
theorem I7.val {x y : RI} {n : Nat} (i : Nat) (vs us : Nat → Value) (w : World) (hj : us i = vs i) (h : I7 x y n i vs w) : I7 x y n i us w := by
  match i, hj, h with
  | 0, hj, h => exact hj.trans h
  | 1, hj, ⟨a, k, p, q, h1, h2⟩ => exact ⟨a, k, p, q, hj.trans h1, h2⟩
  | 2, hj, h => exact hj.trans h
  | 3, hj, ⟨a, k, p, q, h1, h2⟩ => exact ⟨a, k, p, q, hj.trans h1, h2⟩
  | 4, hj, ⟨B, h1, h2, h3⟩ => exact ⟨B, hj.trans h1, h2, h3⟩
  | 5, hj, ⟨B, h1, h2, h3⟩ => exact ⟨B, hj.trans h1, h2, h3⟩
  | _ + 6, _, _ => trivial
/-- both rules are lent; the second one's block may hold nothing yet -/
def L7 (x y : RI) (w0 : World) (full : Bool) (vs : Nat → Value) (w : World) : Prop :=
  ∃ B5 B6 a k p q b l m r, vs 4 = .pointer (some ⟨B5, 0, none⟩) ∧ vs 5 = .pointer (some ⟨B6, 0, none⟩) ∧ vs 1 = lval x.r a k p q ∧ vs 3 = lval y.r b l m r ∧ B5 ≠ B6 ∧ w0.heap.size ≤ B5 ∧ w0.heap.size ≤ B6 ∧ x.Lent w w0.heap.size a k p q ∧ y.Lent w w0.heap.size b l m r ∧ w.heap[B5]? = some (.cells (rcA x.r a k p q) 25 (0, 0)) ∧ w.heap[B6]? = some (.cells (if full then rcA y.r b l m r else zeroC) 25 (0, 0)) ∧ Below w0.heap.size w0 w
theorem L7.val {x y : RI} {w0 : World} {full : Bool} (vs us : Nat → Value) (w : World) (hj : ∀ i, i < 6 → us i = vs i) (h : L7 x y w0 full vs w) : L7 x y w0 full us w := by
  obtain ⟨B5, B6, a, k, p, q, b, l, m, r, h1, h2, h3, h4, h5⟩ := h
  exact ⟨B5, B6, a, k, p, q, b, l, m, r, (hj 4 (by omega)).trans h1, (hj 5 (by omega)).trans h2, (hj 1 (by omega)).trans h3, (hj 3 (by omega)).trans h4, h5⟩
theorem abc_zero : decide (abcR = zeroR) = false := by decide +kernel
theorem abc_sz : Sz abcR := by
  refine ⟨by decide, ?_, by decide, ?_, by decide, ?_, by decide, ?_⟩
  · intro l hl; cases hl
  · intro l hl
    simp only [abcR, List.mem_cons, List.not_mem_nil, or_false] at hl
    rcases hl with rfl | rfl <;> decide
  · intro l hl; cases hl
  · intro l hl
    simp only [abcR, List.mem_cons, List.not_mem_nil, or_false] at hl
    rcases hl with rfl | rfl | rfl <;> decide
theorem wanted_of {ops : Array Oper} {o : Oper} {a : Act} {j : Nat} {b : Bool} {oj : Oper} {d : Tmp} (hg : o.guard = some (j, b)) (hj : ops[j]? = some oj) (hd : oj.dst = some d) (hv : a.tmps.getD d undef = .bool b) : Region.wanted o (yielded ops a.tmps) = true := by
  have ht : a.tmps[d]? = some (.bool b) := by
    rw [Array.getD_eq_getD_getElem?] at hv
    cases h : a.tmps[d]? with
    | none => rw [h] at hv; cases hv
    | some u => rw [h] at hv; simpa using hv
  simp [Region.wanted, yielded, hg, hj, hd, ht]
theorem eql4 (e : Bool) (W : World) : (binOp .eql 4 (.bool e) (.bool e)).run Tryd.prog W = .ok (.bool true) W := by cases e <;> kernel_rfl
/-- what the operations of RuleSame's last row leave -/
def I8 (x y : RI) (n : Nat) (OA OB : Value) : Nat → Value → World → Prop
  | 0, v, _ | 9, v, _ | 17, v, _ | 23, v, _ => v = OA
  | 1, v, _ | 8, v, _ | 28, v, _ => v = OB
  | 2, v, _ | 5, v, _ => v = .bool (decide (x.r = y.r))
  | 10, v, _ | 13, v, _ => v = .bool (decide (y.r = x.r))
  | 3, v, _ | 12, v, _ | 18, v, _ | 24, v, _ => v = lval x.r x.av x.kv x.pv x.rv
  | 4, v, _ | 11, v, _ | 29, v, _ => v = lval y.r y.av y.kv y.pv y.rv
  | 19, v, w => ∃ a k p q, v = lval x.r a k p q ∧ x.Lent w n a k p q
  | 6, v, _ | 7, v, _ | 14, v, _ | 15, v, _ | 16, v, _ | 20, v, _ | 21, v, _ | 22, v, _ | 25, v, _ | 26, v, _ | 27, v, _ | 30, v, _ | 31, v, _ | 32, v, _ => v = .bool true
  | _, _, _ => True
theorem I8.ext {x y : RI} {n : Nat} {OA OB : Value} (i : Nat) (v : Value) (w w' : World) (h : I8 x y n OA OB i v w) (he : Ext w w') : I8 x y n OA OB i v w' := by
  by_cases e : i = 19
  · subst e
    obtain ⟨a, k, p, q, h1, h2⟩ := h
    exact ⟨a, k, p, q, h1, h2.below he (Nat.le_refl _)⟩
  · unfold I8 at h ⊢
    split at h <;> first | exact h | exact absurd rfl e | trivial
theorem sz_of {r : Rl} (h : Sm r) : Sz r := ⟨by have := h.na; omega, fun l hl => by have := h.sa l hl; omega, by have := h.nk; omega, fun l hl => by have := h.sk l hl; omega, by have := h.np; omega, fun l hl => by have := h.sp l hl; omega, by have := h.nr; omega, fun l hl => by have := h.sr l hl; omega⟩
/-- the cells of a block that holds a rule -/
theorem rc_blk {W : World} {B : Nat} {r : Rl} {a k p q : Value} (h : W.heap[B]? = some (.cells (rcA r a k p q) 25 (0, 0))) : RC W B r.bg a k p r.en q r.cu := by
  constructor <;> (simp only [World.cell?, h]; rfl)
set_option maxHeartbeats 8000000 in
theorem sameLaw_any (x y : RI) (w : World) (hT : Tab w) (hx : x.In w) (hy : y.In w) (sx : Sm x.r) (sy : Sm y.r) :
    Calls Tryd.prog 7 #[.agg #[.bool x.r.bg, x.av, x.kv, x.pv, .bool x.r.en, x.rv, .int .i64 x.r.cu], .agg #[.bool y.r.bg, y.av, y.kv, y.pv, .bool y.r.en, y.rv, .int .i64 y.r.cu]] w fun e w' => e = .returned (.bool true) ∧ Below w.heap.size w w' := by
  have P0 : Hid (S7 w x y ((w.alloc (.cells #[.bool x.r.bg, x.av, x.kv, x.pv, .bool x.r.en, x.rv, .int .i64 x.r.cu] 25)).alloc (.cells #[.bool y.r.bg, y.av, y.kv, y.pv, .bool y.r.en, y.rv, .int .i64 y.r.cu] 25))) := s7_start hT hx hy
  have HSh : Hid (∀ W, Hid (S7 w x y W) → Calls Tryd.prog 9 #[] W fun e w' => e = .returned (.bool true) ∧ Hid (S7 w x y w')) := fun W p => (shown_any W p.out.tab).mono fun e w' ⟨h1, h2⟩ => ⟨h1, p.out.below h2⟩
  have SX : Hid (Sm x.r) := sx
  have SY : Hid (Sm y.r) := sy
  clear hT hx hy sx sy
  go_enter Tryd.func7, Tryd.ntmps7
  go_wp2_with fail
  refine (HSh.out _ P0).mono ?_
  rintro e w1 ⟨rfl, P1⟩
  clear P0 HSh
  go_wp2_with fail
  refine (abc_any _).mono ?_
  rintro e w2 ⟨ka, kn, kc, ra, rn, rc, rfl, hR, hg⟩
  have P2 : Hid (S7 w x y w2) := P1.out.below hg.below
  have HC : Hid (Calls Tryd.prog 27 #[.agg #[.bool false, .slice none 0 0, .slice ka kn kc, .slice none 0 0, .bool false, .slice ra rn rc, .int .i64 1], .agg #[.bool false, .slice none 0 0, .slice none 0 0, .slice none 0 0, .bool false, .slice none 0 0, .int .i64 0]] w2 fun e w' => e = .returned (.bool false) ∧ Hid (S7 w x y w')) := by
    have h := same_any abcR zeroR _ _ _ _ (.slice none 0 0) (.slice none 0 0) (.slice none 0 0) (.slice none 0 0) w2 hR ⟨sr_nil _, sr_nil _, sr_nil _, pr_nil _⟩ abc_sz
    rw [abc_zero] at h
    exact h.mono fun e w' ⟨h1, h2⟩ => ⟨h1, P2.out.below h2.below⟩
  clear hR hg P1
  go_wp2_with fail
  refine HC.out.mono ?_
  rintro e w3 ⟨rfl, P3⟩
  clear HC P2
  go_wp2_with fail
  rename_i Kx hx
  refine wp_region_two 6 rfl rfl rfl (by kernel_rfl) (by kernel_rfl) (by kernel_rfl) (by kernel_rfl) (by kernel_rfl) (by kernel_rfl) (I7 x y w3.heap.size) (fun i => i == 4 || i == 5) (fun i vs wa wb h he => I7.ext i vs wa wb h he) (fun i o vs us wz _ hj h => I7.val i vs us wz (hj i (.inl rfl)) h) (L7 x y w3 false) (L7 x y w3 true) (fun vs us w hj h => L7.val vs us w hj h) (fun vs us w hj h => L7.val vs us w hj h) ⟨?_, ?_, ?_, ?_, ?_, ?_, trivial⟩ ?_ ?_ ?_
  · as_aux_lemma =>
      clear hx
      intro a wx vs hE hd hval hfr K hK
      have d : a.tmps.getD 2 undef = .pointer (some ⟨w.heap.size, 0, none⟩) := hfr 2 (by kernel_rfl)
      obtain ⟨c0, c1, c2, c3, c4, c5, c6⟩ := P3.out.cx.below hE (Nat.le_refl _)
      have hK1 := hK (lval x.r x.av x.kv x.pv x.rv) wx (Below.refl _ _) rfl (fun h => by cases h)
      unfold lval at hK1
      simp only [Array.getD_eq_getD_getElem?] at d
      clear hval hfr hd hE hK
      go_simp
      exact hK1
  · as_aux_lemma =>
      clear hx
      intro a wx vs hE hd hval hfr K hK
      have d : a.tmps.getD 14 undef = lval x.r x.av x.kv x.pv x.rv := (hval 0 _ 14 (by kernel_rfl) (by rfl) rfl).trans (hd 0 (by kernel_rfl))
      have hC := lentRule_any x.r x.av x.kv x.pv x.rv x.sa x.sk x.sp x.tv wx (P3.out.ix.below hE (Nat.le_refl _)) SX.out
      unfold lval at d
      simp only [Array.getD_eq_getD_getElem?] at d
      have hsz := hE.size
      clear hval hfr hd
      go_simp
      refine hC.mono ?_
      rintro e w' ⟨o1, o2, o3, o4, rfl, hL, hb⟩
      exact hK _ _ hb ⟨o1, o2, o3, o4, rfl, hL.le hsz⟩ (fun h => by cases h)
  · as_aux_lemma =>
      clear hx
      intro a wx vs hE hd hval hfr K hK
      have d : a.tmps.getD 3 undef = .pointer (some ⟨w.heap.size + 1, 0, none⟩) := hfr 3 (by kernel_rfl)
      obtain ⟨c0, c1, c2, c3, c4, c5, c6⟩ := P3.out.cy.below hE (Nat.le_refl _)
      have hK1 := hK (lval y.r y.av y.kv y.pv y.rv) wx (Below.refl _ _) rfl (fun h => by cases h)
      unfold lval at hK1
      simp only [Array.getD_eq_getD_getElem?] at d
      clear hval hfr hd hE hK
      go_simp
      exact hK1
  · as_aux_lemma =>
      clear hx
      intro a wx vs hE hd hval hfr K hK
      have d : a.tmps.getD 16 undef = lval y.r y.av y.kv y.pv y.rv := (hval 2 _ 16 (by kernel_rfl) (by rfl) rfl).trans (hd 2 (by kernel_rfl))
      have hC := lentRule_any y.r y.av y.kv y.pv y.rv y.sa y.sk y.sp y.tv wx (P3.out.iy.below hE (Nat.le_refl _)) SY.out
      unfold lval at d
      simp only [Array.getD_eq_getD_getElem?] at d
      have hsz := hE.size
      clear hval hfr hd
      go_simp
      refine hC.mono ?_
      rintro e w' ⟨o1, o2, o3, o4, rfl, hL, hb⟩
      exact hK _ _ hb ⟨o1, o2, o3, o4, rfl, hL.le hsz⟩ (fun h => by cases h)
  · as_aux_lemma =>
      clear hx
      intro a wx vs hE hd hval hfr K hK
      have hK1 := hK (.pointer (some ⟨wx.heap.size, 0, none⟩)) (wx.alloc (.cells zeroC 25)) ((Below.refl _ wx).alloc (Nat.le_refl _) _) ⟨wx.heap.size, rfl, hE.size, heap_alloc_new wx _⟩ (fun _ => ⟨Nat.le_refl _, by rw [World.size_alloc]; exact Nat.lt_succ_self _⟩)
      unfold zeroC at hK1
      clear hval hfr hd hE hK
      go_simp
      exact hK1
  · as_aux_lemma =>
      clear hx
      intro a wx vs hE hd hval hfr K hK
      have hK1 := hK (.pointer (some ⟨wx.heap.size, 0, none⟩)) (wx.alloc (.cells zeroC 25)) ((Below.refl _ wx).alloc (Nat.le_refl _) _) ⟨wx.heap.size, rfl, hE.size, heap_alloc_new wx _⟩ (fun _ => ⟨Nat.le_refl _, by rw [World.size_alloc]; exact Nat.lt_succ_self _⟩)
      unfold zeroC at hK1
      clear hval hfr hd hE hK
      go_simp
      exact hK1
  · as_aux_lemma =>
      clear hx
      intro a wx vs hE hI hap hval hfr K hK
      obtain ⟨B5, b1, b2, b3⟩ := hI 4 (by decide)
      obtain ⟨B6, e1, e2, e3⟩ := hI 5 (by decide)
      obtain ⟨a', k, p, q, f1, f2⟩ := hI 1 (by decide)
      obtain ⟨b, l, m, r, g1, g2⟩ := hI 3 (by decide)
      have hne : B5 ≠ B6 := by
        have := hap 4 5 (by decide) (by decide) (by decide) rfl rfl
        rw [b1, e1] at this
        exact this
      have d1 := (hval 4 _ 5 (by decide) (by rfl) rfl).trans b1
      have d2 := (hval 1 _ 15 (by decide) (by rfl) rfl).trans f1
      obtain ⟨a1, a2, a3, rfl⟩ := f2.a.sl
      obtain ⟨k1, k2, k3, rfl⟩ := f2.k.sl
      obtain ⟨p1, p2, p3, rfl⟩ := f2.p.sl
      obtain ⟨q1, q2, q3, rfl⟩ := f2.r.sl
      refine step_store7 rfl rfl 5 15 rfl B5 x.r a1 k1 p1 q1 a2 a3 k2 k3 p2 p3 q2 q3 d1 d2 b3 (fun v => hK v _ ?_)
      have ht := set7_turns wx B5 x.r (.slice a1 a2 a3) (.slice k1 k2 k3) (.slice p1 p2 p3) (.slice q1 q2 q3)
      exact ⟨B5, B6, _, _, _, _, b, l, m, r, b1, e1, f1, g1, hne, b2, e2, f2.turn b3 rfl ht, g2.turn b3 rfl ht, set7_heap b3 _ _ _ _ _, (ht B6 (fun e => hne e.symm)).trans e3, set7_below hE b2 _ _ _ _ _⟩
  · as_aux_lemma =>
      clear hx
      intro a wx vs hL hval hfr K hK
      obtain ⟨B5, B6, a', k, p, q, b, l, m, r, b1, e1, f1, g1, hne, h5, h6, hX, hY, k5, k6, hB⟩ := hL
      have d1 := (hval 5 _ 6 (by decide) (by rfl) rfl).trans e1
      have d2 := (hval 3 _ 17 (by decide) (by rfl) rfl).trans g1
      obtain ⟨a1, a2, a3, rfl⟩ := hY.a.sl
      obtain ⟨k1, k2, k3, rfl⟩ := hY.k.sl
      obtain ⟨p1, p2, p3, rfl⟩ := hY.p.sl
      obtain ⟨q1, q2, q3, rfl⟩ := hY.r.sl
      refine step_store7 rfl rfl 6 17 rfl B6 y.r a1 k1 p1 q1 a2 a3 k2 k3 p2 p3 q2 q3 d1 d2 k6 (fun v => hK v _ ?_)
      have ht := set7_turns wx B6 y.r (.slice a1 a2 a3) (.slice k1 k2 k3) (.slice p1 p2 p3) (.slice q1 q2 q3)
      exact ⟨B5, B6, a', k, p, q, _, _, _, _, b1, e1, f1, g1, hne, h5, h6, hX.turn k6 rfl ht, hY.turn k6 rfl ht, (ht B5 hne).trans k5, set7_heap k6 _ _ _ _ _, set7_below hB h6 _ _ _ _ _⟩
  · intro vs wz hL
    obtain ⟨B5, B6, a, k, p, q, b, l, m, r, b1, e1, f1, g1, hne, h5, h6, hX, hY, k5, k6, hB⟩ := hL
    rw [putL_eq]
    simp only [putsL, List.set_cons_zero, List.set_cons_succ]
    rw [b1, e1]
    refine hx _ _ ?_
    clear hx
    have PZ : Hid (S7 w x y wz) := P3.out.below hB
    have HX5 : Hid (x.Lent wz w3.heap.size a k p q) := hX
    have HY6 : Hid (y.Lent wz w3.heap.size b l m r) := hY
    have K5 : Hid (wz.heap[B5]? = some (.cells (rcA x.r a k p q) 25 (0, 0))) := k5
    have K6 : Hid (wz.heap[B6]? = some (.cells (rcA y.r b l m r) 25 (0, 0))) := k6
    have HSz : Hid (w3.heap.size ≤ wz.heap.size) := hB.size
    clear b1 e1 f1 g1 hne h5 h6 hX hY k5 k6 hB P3
    go_wp2_with fail
    rename_i Kx hx
    refine wp_region_grows (by kernel_rfl) (by kernel_rfl) (by kernel_rfl) (by kernel_rfl) (I8 x y w3.heap.size (lval x.r a k p q) (lval y.r b l m r)) (fun i v wa wb h he => I8.ext i v wa wb h he) ⟨?_, ?_, ?_, ?_, ?_, ?_, ?_, ?_, ?_, ?_, ?_, ?_, ?_, ?_, ?_, ?_, ?_, ?_, ?_, ?_, ?_, ?_, ?_, ?_, ?_, ?_, ?_, ?_, ?_, ?_, ?_, ?_, ?_, trivial⟩ ?_
    · as_aux_lemma =>
        clear hx
        intro A wx hE hd hfr K hK
        have d : A.tmps.getD 5 undef = .pointer (some ⟨B5, 0, none⟩) := hfr 5 (by kernel_rfl)
        obtain ⟨c0, c1, c2, c3, c4, c5, c6⟩ := rc_blk ((hE.block _ (Array.getElem?_eq_some_iff.1 K5.out).1).trans K5.out)
        have hK1 := hK (lval x.r a k p q) wx (Below.refl _ _) rfl
        unfold lval at hK1
        simp only [Array.getD_eq_getD_getElem?] at d
        clear hfr hd hE hK
        go_simp
        exact hK1
    · as_aux_lemma =>
        clear hx
        intro A wx hE hd hfr K hK
        have d : A.tmps.getD 6 undef = .pointer (some ⟨B6, 0, none⟩) := hfr 6 (by kernel_rfl)
        obtain ⟨c0, c1, c2, c3, c4, c5, c6⟩ := rc_blk ((hE.block _ (Array.getElem?_eq_some_iff.1 K6.out).1).trans K6.out)
        have hK1 := hK (lval y.r b l m r) wx (Below.refl _ _) rfl
        unfold lval at hK1
        simp only [Array.getD_eq_getD_getElem?] at d
        clear hfr hd hE hK
        go_simp
        exact hK1
    · as_aux_lemma =>
        clear hx
        intro A wx hE hd hfr K hK
        have d1 : A.tmps.getD 18 undef = lval x.r a k p q := hd 0 (by kernel_rfl) _ _ (by rfl) rfl
        have d2 : A.tmps.getD 19 undef = lval y.r b l m r := hd 1 (by kernel_rfl) _ _ (by rfl) rfl
        have hC := same_any x.r y.r _ _ _ _ _ _ _ _ wx ((HX5.out.below hE (Nat.le_refl _)).rr PZ.out.ix) ((HY6.out.below hE (Nat.le_refl _)).rr PZ.out.iy) (sz_of SX.out)
        unfold lval at d1 d2
        simp only [Array.getD_eq_getD_getElem?] at d1 d2
        clear hfr hd
        go_simp
        refine hC.mono ?_
        rintro e w' ⟨rfl, hg⟩
        exact hK _ _ hg.below rfl
    · as_aux_lemma =>
        clear hx
        intro A wx hE hd hfr K hK
        have d : A.tmps.getD 2 undef = .pointer (some ⟨w.heap.size, 0, none⟩) := hfr 2 (by kernel_rfl)
        obtain ⟨c0, c1, c2, c3, c4, c5, c6⟩ := PZ.out.cx.below hE (Nat.le_refl _)
        have hK1 := hK (lval x.r x.av x.kv x.pv x.rv) wx (Below.refl _ _) rfl
        unfold lval at hK1
        simp only [Array.getD_eq_getD_getElem?] at d
        clear hfr hd hE hK
        go_simp
        exact hK1
    · as_aux_lemma =>
        clear hx
        intro A wx hE hd hfr K hK
        have d : A.tmps.getD 3 undef = .pointer (some ⟨w.heap.size + 1, 0, none⟩) := hfr 3 (by kernel_rfl)
        obtain ⟨c0, c1, c2, c3, c4, c5, c6⟩ := PZ.out.cy.below hE (Nat.le_refl _)
        have hK1 := hK (lval y.r y.av y.kv y.pv y.rv) wx (Below.refl _ _) rfl
        unfold lval at hK1
        simp only [Array.getD_eq_getD_getElem?] at d
        clear hfr hd hE hK
        go_simp
        exact hK1
    · as_aux_lemma =>
        clear hx
        intro A wx hE hd hfr K hK
        have d1 : A.tmps.getD 21 undef = lval x.r x.av x.kv x.pv x.rv := hd 3 (by kernel_rfl) _ _ (by rfl) rfl
        have d2 : A.tmps.getD 22 undef = lval y.r y.av y.kv y.pv y.rv := hd 4 (by kernel_rfl) _ _ (by rfl) rfl
        have hC := rsame_any x.r y.r _ _ _ _ _ _ _ _ wx ((PZ.out.ix.below hE (Nat.le_refl _)).rr) ((PZ.out.iy.below hE (Nat.le_refl _)).rr) (sz_of SX.out)
        unfold lval at d1 d2
        simp only [Array.getD_eq_getD_getElem?] at d1 d2
        clear hfr hd
        go_simp
        refine hC.mono ?_
        rintro e w' ⟨rfl, hg⟩
        exact hK _ _ hg.below rfl
    · as_aux_lemma =>
        clear hx
        intro A wx hE hd hfr K hK
        have d1 : A.tmps.getD 20 undef = .bool (decide (x.r = y.r)) := hd 2 (by kernel_rfl) _ _ (by rfl) rfl
        have d2 : A.tmps.getD 23 undef = .bool (decide (x.r = y.r)) := hd 5 (by kernel_rfl) _ _ (by rfl) rfl
        have hq := eql4 (decide (x.r = y.r)) wx
        have hK1 := hK (.bool true) wx (Below.refl _ _) rfl
        simp only [Array.getD_eq_getD_getElem?] at d1 d2
        clear hfr hd hE hK
        generalize decide (x.r = y.r) = bb at *
        go_simp
        exact hK1
    · as_aux_lemma =>
        clear hx
        intro A wx hE hd hfr K hK
        have d0 : A.tmps.getD 24 undef = .bool true := hd 6 (by kernel_rfl) _ _ (by rfl) rfl
        clear hfr hd
        exact step_value (v := .bool true) (w' := wx) rfl (fun _ _ h => by cases h) (rho [(24, .bool true)]) (rho_of (by intro z hz; simp only [List.mem_cons, List.not_mem_nil, or_false] at hz; rcases hz with rfl <;> first | exact d0) (by kernel_rfl)) (by kernel_rfl) (hK _ _ (Below.refl _ _) rfl)
    · as_aux_lemma =>
        clear hx
        intro A wx hE hd hfr K hK
        have d : A.tmps.getD 6 undef = .pointer (some ⟨B6, 0, none⟩) := hfr 6 (by kernel_rfl)
        obtain ⟨c0, c1, c2, c3, c4, c5, c6⟩ := rc_blk ((hE.block _ (Array.getElem?_eq_some_iff.1 K6.out).1).trans K6.out)
        have hK1 := hK (lval y.r b l m r) wx (Below.refl _ _) rfl
        have hgd : A.tmps.getD 25 undef = .bool true := hd 7 (by kernel_rfl) _ _ (by rfl) rfl
        rw [if_pos (wanted_of rfl (by rfl) rfl hgd)]
        unfold lval at hK1
        simp only [Array.getD_eq_getD_getElem?] at d
        clear hfr hd hE hK
        go_simp
        exact hK1
    · as_aux_lemma =>
        clear hx
        intro A wx hE hd hfr K hK
        have d : A.tmps.getD 5 undef = .pointer (some ⟨B5, 0, none⟩) := hfr 5 (by kernel_rfl)
        obtain ⟨c0, c1, c2, c3, c4, c5, c6⟩ := rc_blk ((hE.block _ (Array.getElem?_eq_some_iff.1 K5.out).1).trans K5.out)
        have hK1 := hK (lval x.r a k p q) wx (Below.refl _ _) rfl
        have hgd : A.tmps.getD 25 undef = .bool true := hd 7 (by kernel_rfl) _ _ (by rfl) rfl
        rw [if_pos (wanted_of rfl (by rfl) rfl hgd)]
        unfold lval at hK1
        simp only [Array.getD_eq_getD_getElem?] at d
        clear hfr hd hE hK
        go_simp
        exact hK1
    · as_aux_lemma =>
        clear hx
        intro A wx hE hd hfr K hK
        have d1 : A.tmps.getD 26 undef = lval y.r b l m r := hd 8 (by kernel_rfl) _ _ (by rfl) rfl
        have d2 : A.tmps.getD 27 undef = lval x.r a k p q := hd 9 (by kernel_rfl) _ _ (by rfl) rfl
        have hC := same_any y.r x.r _ _ _ _ _ _ _ _ wx ((HY6.out.below hE (Nat.le_refl _)).rr PZ.out.iy) ((HX5.out.below hE (Nat.le_refl _)).rr PZ.out.ix) (sz_of SY.out)
        have hgd : A.tmps.getD 25 undef = .bool true := hd 7 (by kernel_rfl) _ _ (by rfl) rfl
        rw [if_pos (wanted_of rfl (by rfl) rfl hgd)]
        unfold lval at d1 d2
        simp only [Array.getD_eq_getD_getElem?] at d1 d2
        clear hfr hd
        go_simp
        refine hC.mono ?_
        rintro e w' ⟨rfl, hg⟩
        exact hK _ _ hg.below rfl
    · as_aux_lemma =>
        clear hx
        intro A wx hE hd hfr K hK
        have d : A.tmps.getD 3 undef = .pointer (some ⟨w.heap.size + 1, 0, none⟩) := hfr 3 (by kernel_rfl)
        obtain ⟨c0, c1, c2, c3, c4, c5, c6⟩ := PZ.out.cy.below hE (Nat.le_refl _)
        have hK1 := hK (lval y.r y.av y.kv y.pv y.rv) wx (Below.refl _ _) rfl
        have hgd : A.tmps.getD 25 undef = .bool true := hd 7 (by kernel_rfl) _ _ (by rfl) rfl
        rw [if_pos (wanted_of rfl (by rfl) rfl hgd)]
        unfold lval at hK1
        simp only [Array.getD_eq_getD_getElem?] at d
        clear hfr hd hE hK
        go_simp
        exact hK1
    · as_aux_lemma =>
        clear hx
        intro A wx hE hd hfr K hK
        have d : A.tmps.getD 2 undef = .pointer (some ⟨w.heap.size, 0, none⟩) := hfr 2 (by kernel_rfl)
        obtain ⟨c0, c1, c2, c3, c4, c5, c6⟩ := PZ.out.cx.below hE (Nat.le_refl _)
        have hK1 := hK (lval x.r x.av x.kv x.pv x.rv) wx (Below.refl _ _) rfl
        have hgd : A.tmps.getD 25 undef = .bool true := hd 7 (by kernel_rfl) _ _ (by rfl) rfl
        rw [if_pos (wanted_of rfl (by rfl) rfl hgd)]
        unfold lval at hK1
        simp only [Array.getD_eq_getD_getElem?] at d
        clear hfr hd hE hK
        go_simp
        exact hK1
    · as_aux_lemma =>
        clear hx
        intro A wx hE hd hfr K hK
        have d1 : A.tmps.getD 29 undef = lval y.r y.av y.kv y.pv y.rv := hd 11 (by kernel_rfl) _ _ (by rfl) rfl
        have d2 : A.tmps.getD 30 undef = lval x.r x.av x.kv x.pv x.rv := hd 12 (by kernel_rfl) _ _ (by rfl) rfl
        have hC := rsame_any y.r x.r _ _ _ _ _ _ _ _ wx ((PZ.out.iy.below hE (Nat.le_refl _)).rr) ((PZ.out.ix.below hE (Nat.le_refl _)).rr) (sz_of SY.out)
        have hgd : A.tmps.getD 25 undef = .bool true := hd 7 (by kernel_rfl) _ _ (by rfl) rfl
        rw [if_pos (wanted_of rfl (by rfl) rfl hgd)]
        unfold lval at d1 d2
        simp only [Array.getD_eq_getD_getElem?] at d1 d2
        clear hfr hd
        go_simp
        refine hC.mono ?_
        rintro e w' ⟨rfl, hg⟩
        exact hK _ _ hg.below rfl
    · as_aux_lemma =>
        clear hx
        intro A wx hE hd hfr K hK
        have d1 : A.tmps.getD 28 undef = .bool (decide (y.r = x.r)) := hd 10 (by kernel_rfl) _ _ (by rfl) rfl
        have d2 : A.tmps.getD 31 undef = .bool (decide (y.r = x.r)) := hd 13 (by kernel_rfl) _ _ (by rfl) rfl
        have hq := eql4 (decide (y.r = x.r)) wx
        have hK1 := hK (.bool true) wx (Below.refl _ _) rfl
        have hgd : A.tmps.getD 25 undef = .bool true := hd 7 (by kernel_rfl) _ _ (by rfl) rfl
        rw [if_pos (wanted_of rfl (by rfl) rfl hgd)]
        simp only [Array.getD_eq_getD_getElem?] at d1 d2
        clear hfr hd hE hK
        generalize decide (y.r = x.r) = bb at *
        go_simp
        exact hK1
    · as_aux_lemma =>
        clear hx
        intro A wx hE hd hfr K hK
        have d0 : A.tmps.getD 25 undef = .bool true := hd 7 (by kernel_rfl) _ _ (by rfl) rfl
        have d1 : A.tmps.getD 32 undef = .bool true := hd 14 (by kernel_rfl) _ _ (by rfl) rfl
        clear hfr hd
        exact step_value (v := .bool true) (w' := wx) rfl (fun _ _ h => by cases h) (rho [(25, .bool true), (32, .bool true)]) (rho_of (by intro z hz; simp only [List.mem_cons, List.not_mem_nil, or_false] at hz; rcases hz with rfl | rfl <;> first | exact d0 | exact d1) (by kernel_rfl)) (by kernel_rfl) (hK _ _ (Below.refl _ _) rfl)
    · as_aux_lemma =>
        clear hx
        intro A wx hE hd hfr K hK
        have d0 : A.tmps.getD 33 undef = .bool true := hd 15 (by kernel_rfl) _ _ (by rfl) rfl
        clear hfr hd
        exact step_value (v := .bool true) (w' := wx) rfl (fun _ _ h => by cases h) (rho [(33, .bool true)]) (rho_of (by intro z hz; simp only [List.mem_cons, List.not_mem_nil, or_false] at hz; rcases hz with rfl <;> first | exact d0) (by kernel_rfl)) (by kernel_rfl) (hK _ _ (Below.refl _ _) rfl)
    · as_aux_lemma =>
        clear hx
        intro A wx hE hd hfr K hK
        have d : A.tmps.getD 5 undef = .pointer (some ⟨B5, 0, none⟩) := hfr 5 (by kernel_rfl)
        obtain ⟨c0, c1, c2, c3, c4, c5, c6⟩ := rc_blk ((hE.block _ (Array.getElem?_eq_some_iff.1 K5.out).1).trans K5.out)
        have hK1 := hK (lval x.r a k p q) wx (Below.refl _ _) rfl
        have hgd : A.tmps.getD 34 undef = .bool true := hd 16 (by kernel_rfl) _ _ (by rfl) rfl
        rw [if_pos (wanted_of rfl (by rfl) rfl hgd)]
        unfold lval at hK1
        simp only [Array.getD_eq_getD_getElem?] at d
        clear hfr hd hE hK
        go_simp
        exact hK1
    · as_aux_lemma =>
        clear hx
        intro A wx hE hd hfr K hK
        have d : A.tmps.getD 2 undef = .pointer (some ⟨w.heap.size, 0, none⟩) := hfr 2 (by kernel_rfl)
        obtain ⟨c0, c1, c2, c3, c4, c5, c6⟩ := PZ.out.cx.below hE (Nat.le_refl _)
        have hK1 := hK (lval x.r x.av x.kv x.pv x.rv) wx (Below.refl _ _) rfl
        have hgd : A.tmps.getD 34 undef = .bool true := hd 16 (by kernel_rfl) _ _ (by rfl) rfl
        rw [if_pos (wanted_of rfl (by rfl) rfl hgd)]
        unfold lval at hK1
        simp only [Array.getD_eq_getD_getElem?] at d
        clear hfr hd hE hK
        go_simp
        exact hK1
    · as_aux_lemma =>
        clear hx
        intro A wx hE hd hfr K hK
        have d : A.tmps.getD 36 undef = lval x.r x.av x.kv x.pv x.rv := hd 18 (by kernel_rfl) _ _ (by rfl) rfl
        have hC := lentRule_any x.r x.av x.kv x.pv x.rv x.sa x.sk x.sp x.tv wx (PZ.out.ix.below hE (Nat.le_refl _)) SX.out
        have hsz : w3.heap.size ≤ wx.heap.size := Nat.le_trans HSz.out hE.size
        have hgd : A.tmps.getD 34 undef = .bool true := hd 16 (by kernel_rfl) _ _ (by rfl) rfl
        rw [if_pos (wanted_of rfl (by rfl) rfl hgd)]
        unfold lval at d
        simp only [Array.getD_eq_getD_getElem?] at d
        clear hfr hd
        go_simp
        refine hC.mono ?_
        rintro e w' ⟨o1, o2, o3, o4, rfl, hL, hb⟩
        exact hK _ _ hb ⟨o1, o2, o3, o4, rfl, hL.le hsz⟩
    · as_aux_lemma =>
        clear hx
        intro A wx hE hd hfr K hK
        have d1 : A.tmps.getD 35 undef = lval x.r a k p q := hd 17 (by kernel_rfl) _ _ (by rfl) rfl
        obtain ⟨o1, o2, o3, o4, d2, hL⟩ := hd 19 (by kernel_rfl) _ 37 (by rfl) rfl
        have hC := same_any x.r x.r _ _ _ _ _ _ _ _ wx ((HX5.out.below hE (Nat.le_refl _)).rr PZ.out.ix) (hL.rr PZ.out.ix) (sz_of SX.out)
        rw [show decide (x.r = x.r) = true by simp] at hC
        have hgd : A.tmps.getD 34 undef = .bool true := hd 16 (by kernel_rfl) _ _ (by rfl) rfl
        rw [if_pos (wanted_of rfl (by rfl) rfl hgd)]
        unfold lval at d1 d2
        simp only [Array.getD_eq_getD_getElem?] at d1 d2
        clear hfr hd
        go_simp
        refine hC.mono ?_
        rintro e w' ⟨rfl, hg⟩
        exact hK _ _ hg.below rfl
    · as_aux_lemma =>
        clear hx
        intro A wx hE hd hfr K hK
        have d0 : A.tmps.getD 34 undef = .bool true := hd 16 (by kernel_rfl) _ _ (by rfl) rfl
        have d1 : A.tmps.getD 38 undef = .bool true := hd 20 (by kernel_rfl) _ _ (by rfl) rfl
        clear hfr hd
        exact step_value (v := .bool true) (w' := wx) rfl (fun _ _ h => by cases h) (rho [(34, .bool true), (38, .bool true)]) (rho_of (by intro z hz; simp only [List.mem_cons, List.not_mem_nil, or_false] at hz; rcases hz with rfl | rfl <;> first | exact d0 | exact d1) (by kernel_rfl)) (by kernel_rfl) (hK _ _ (Below.refl _ _) rfl)
    · as_aux_lemma =>
        clear hx
        intro A wx hE hd hfr K hK
        have d0 : A.tmps.getD 39 undef = .bool true := hd 21 (by kernel_rfl) _ _ (by rfl) rfl
        clear hfr hd
        exact step_value (v := .bool true) (w' := wx) rfl (fun _ _ h => by cases h) (rho [(39, .bool true)]) (rho_of (by intro z hz; simp only [List.mem_cons, List.not_mem_nil, or_false] at hz; rcases hz with rfl <;> first | exact d0) (by kernel_rfl)) (by kernel_rfl) (hK _ _ (Below.refl _ _) rfl)
    · as_aux_lemma =>
        clear hx
        intro A wx hE hd hfr K hK
        have d : A.tmps.getD 5 undef = .pointer (some ⟨B5, 0, none⟩) := hfr 5 (by kernel_rfl)
        obtain ⟨c0, c1, c2, c3, c4, c5, c6⟩ := rc_blk ((hE.block _ (Array.getElem?_eq_some_iff.1 K5.out).1).trans K5.out)
        have hK1 := hK (lval x.r a k p q) wx (Below.refl _ _) rfl
        have hgd : A.tmps.getD 40 undef = .bool true := hd 22 (by kernel_rfl) _ _ (by rfl) rfl
        rw [if_pos (wanted_of rfl (by rfl) rfl hgd)]
        unfold lval at hK1
        simp only [Array.getD_eq_getD_getElem?] at d
        clear hfr hd hE hK
        go_simp
        exact hK1
    · as_aux_lemma =>
        clear hx
        intro A wx hE hd hfr K hK
        have d : A.tmps.getD 2 undef = .pointer (some ⟨w.heap.size, 0, none⟩) := hfr 2 (by kernel_rfl)
        obtain ⟨c0, c1, c2, c3, c4, c5, c6⟩ := PZ.out.cx.below hE (Nat.le_refl _)
        have hK1 := hK (lval x.r x.av x.kv x.pv x.rv) wx (Below.refl _ _) rfl
        have hgd : A.tmps.getD 40 undef = .bool true := hd 22 (by kernel_rfl) _ _ (by rfl) rfl
        rw [if_pos (wanted_of rfl (by rfl) rfl hgd)]
        unfold lval at hK1
        simp only [Array.getD_eq_getD_getElem?] at d
        clear hfr hd hE hK
        go_simp
        exact hK1
    · as_aux_lemma =>
        clear hx
        intro A wx hE hd hfr K hK
        have d1 : A.tmps.getD 41 undef = lval x.r a k p q := hd 23 (by kernel_rfl) _ _ (by rfl) rfl
        have d2 : A.tmps.getD 42 undef = lval x.r x.av x.kv x.pv x.rv := hd 24 (by kernel_rfl) _ _ (by rfl) rfl
        have hC := stillRule_any x.r w3.heap.size _ _ _ _ x.av x.kv x.pv x.rv x.sa x.sk x.sp x.tv wx (HX5.out.below hE (Nat.le_refl _)) (PZ.out.ix.below hE (Nat.le_refl _)) SX.out
        have hgd : A.tmps.getD 40 undef = .bool true := hd 22 (by kernel_rfl) _ _ (by rfl) rfl
        rw [if_pos (wanted_of rfl (by rfl) rfl hgd)]
        unfold lval at d1 d2
        simp only [Array.getD_eq_getD_getElem?] at d1 d2
        clear hfr hd
        go_simp
        refine hC.mono ?_
        rintro e w' ⟨rfl, hg⟩
        exact hK _ _ hg.below rfl
    · as_aux_lemma =>
        clear hx
        intro A wx hE hd hfr K hK
        have d0 : A.tmps.getD 40 undef = .bool true := hd 22 (by kernel_rfl) _ _ (by rfl) rfl
        have d1 : A.tmps.getD 43 undef = .bool true := hd 25 (by kernel_rfl) _ _ (by rfl) rfl
        clear hfr hd
        exact step_value (v := .bool true) (w' := wx) rfl (fun _ _ h => by cases h) (rho [(40, .bool true), (43, .bool true)]) (rho_of (by intro z hz; simp only [List.mem_cons, List.not_mem_nil, or_false] at hz; rcases hz with rfl | rfl <;> first | exact d0 | exact d1) (by kernel_rfl)) (by kernel_rfl) (hK _ _ (Below.refl _ _) rfl)
    · as_aux_lemma =>
        clear hx
        intro A wx hE hd hfr K hK
        have d0 : A.tmps.getD 44 undef = .bool true := hd 26 (by kernel_rfl) _ _ (by rfl) rfl
        clear hfr hd
        exact step_value (v := .bool true) (w' := wx) rfl (fun _ _ h => by cases h) (rho [(44, .bool true)]) (rho_of (by intro z hz; simp only [List.mem_cons, List.not_mem_nil, or_false] at hz; rcases hz with rfl <;> first | exact d0) (by kernel_rfl)) (by kernel_rfl) (hK _ _ (Below.refl _ _) rfl)
    · as_aux_lemma =>
        clear hx
        intro A wx hE hd hfr K hK
        have d : A.tmps.getD 6 undef = .pointer (some ⟨B6, 0, none⟩) := hfr 6 (by kernel_rfl)
        obtain ⟨c0, c1, c2, c3, c4, c5, c6⟩ := rc_blk ((hE.block _ (Array.getElem?_eq_some_iff.1 K6.out).1).trans K6.out)
        have hK1 := hK (lval y.r b l m r) wx (Below.refl _ _) rfl
        have hgd : A.tmps.getD 45 undef = .bool true := hd 27 (by kernel_rfl) _ _ (by rfl) rfl
        rw [if_pos (wanted_of rfl (by rfl) rfl hgd)]
        unfold lval at hK1
        simp only [Array.getD_eq_getD_getElem?] at d
        clear hfr hd hE hK
        go_simp
        exact hK1
    · as_aux_lemma =>
        clear hx
        intro A wx hE hd hfr K hK
        have d : A.tmps.getD 3 undef = .pointer (some ⟨w.heap.size + 1, 0, none⟩) := hfr 3 (by kernel_rfl)
        obtain ⟨c0, c1, c2, c3, c4, c5, c6⟩ := PZ.out.cy.below hE (Nat.le_refl _)
        have hK1 := hK (lval y.r y.av y.kv y.pv y.rv) wx (Below.refl _ _) rfl
        have hgd : A.tmps.getD 45 undef = .bool true := hd 27 (by kernel_rfl) _ _ (by rfl) rfl
        rw [if_pos (wanted_of rfl (by rfl) rfl hgd)]
        unfold lval at hK1
        simp only [Array.getD_eq_getD_getElem?] at d
        clear hfr hd hE hK
        go_simp
        exact hK1
    · as_aux_lemma =>
        clear hx
        intro A wx hE hd hfr K hK
        have d1 : A.tmps.getD 46 undef = lval y.r b l m r := hd 28 (by kernel_rfl) _ _ (by rfl) rfl
        have d2 : A.tmps.getD 47 undef = lval y.r y.av y.kv y.pv y.rv := hd 29 (by kernel_rfl) _ _ (by rfl) rfl
        have hC := stillRule_any y.r w3.heap.size _ _ _ _ y.av y.kv y.pv y.rv y.sa y.sk y.sp y.tv wx (HY6.out.below hE (Nat.le_refl _)) (PZ.out.iy.below hE (Nat.le_refl _)) SY.out
        have hgd : A.tmps.getD 45 undef = .bool true := hd 27 (by kernel_rfl) _ _ (by rfl) rfl
        rw [if_pos (wanted_of rfl (by rfl) rfl hgd)]
        unfold lval at d1 d2
        simp only [Array.getD_eq_getD_getElem?] at d1 d2
        clear hfr hd
        go_simp
        refine hC.mono ?_
        rintro e w' ⟨rfl, hg⟩
        exact hK _ _ hg.below rfl
    · as_aux_lemma =>
        clear hx
        intro A wx hE hd hfr K hK
        have d0 : A.tmps.getD 45 undef = .bool true := hd 27 (by kernel_rfl) _ _ (by rfl) rfl
        have d1 : A.tmps.getD 48 undef = .bool true := hd 30 (by kernel_rfl) _ _ (by rfl) rfl
        clear hfr hd
        exact step_value (v := .bool true) (w' := wx) rfl (fun _ _ h => by cases h) (rho [(45, .bool true), (48, .bool true)]) (rho_of (by intro z hz; simp only [List.mem_cons, List.not_mem_nil, or_false] at hz; rcases hz with rfl | rfl <;> first | exact d0 | exact d1) (by kernel_rfl)) (by kernel_rfl) (hK _ _ (Below.refl _ _) rfl)
    · as_aux_lemma =>
        clear hx
        intro A wx hE hd hfr K hK
        have d0 : A.tmps.getD 49 undef = .bool true := hd 31 (by kernel_rfl) _ _ (by rfl) rfl
        clear hfr hd
        exact step_value (v := .bool true) (w' := wx) rfl (fun _ _ h => by cases h) (rho [(49, .bool true)]) (rho_of (by intro z hz; simp only [List.mem_cons, List.not_mem_nil, or_false] at hz; rcases hz with rfl <;> first | exact d0) (by kernel_rfl)) (by kernel_rfl) (hK _ _ (Below.refl _ _) rfl)
    · intro us wq hE hI
      have h32 : us 32 = .bool true := hI 32 (by decide)
      rw [putL_eq]
      simp only [putsL, List.set_cons_zero, List.set_cons_succ]
      rw [h32]
      refine hx _ _ ?_
      clear hx hI
      go_wp2
      go_ret
      exact ⟨rfl, PZ.out.bel.trans (hE.mono PZ.out.bel.size)⟩
end Go.Proofs
