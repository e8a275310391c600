/-
  RuleChecks: its law.
-/
import Derived.RangeFuncNested
import Derived.RangeFuncBound
import Derived.RangeFuncCalls
import Derived.RangeFuncLeaves
import Derived.Shelf.Abstract
import Derived.Shelf.RegionOpen
import Derived.WalkKit
import Derived.WalkSpells
import Derived.WalkLawsBesides
import Derived.OwnWalkIn
import Derived.TacticsInMore
import Derived.LoopNIn
import Derived.LoopIn
import Derived.BigQuiet
import Derived.RegionIn
import Derived.Deep.QuietTactic
import Derived.Deep.RegionWith
import Derived.Lib.OthersKept
import Derived.Maps.AppendAt
import Derived.Lib.SmallJoins
import Derived.Shelf.SlSortCmp.QuietGrown
import Derived.Deep.AppendLies
import Derived.Test.YtcfjdijmobgbpaaDoorQj
import Derived.Test.YtcfjdijmobgbpaaDoorTh
import Derived.Test.YtcfjdijmobgbpaaDoorGg
import Derived.Test.YtcfjdijmobgbpaaDoorXa
import Derived.Test.YtcfjdijmobgbpaaDoorQb
namespace Go.Proofs
open Go.RowKit Go.Shelf

set_option maxRecDepth 100000
attribute [local go_sem] Oper.semAt_some
attribute [local go_sem ↓] Go.wp_at_zero Go.wp_at_succ

theorem Hid.mk' {p : Prop} (h : p) : Hid p := h
/-- what lies where in the walk of RuleChecks -/
structure S9 (w : World) (x : RI) (pv : Value) (xs : List RV) (W : World) : Prop where
  bel : Below w.heap.size w W
  tab : Tab W
  ix : x.In W
  ip : PsV W pv xs
  cx : RC W w.heap.size x.r.bg x.av x.kv x.pv x.r.en x.rv x.r.cu
  cp : W.heap[w.heap.size + 1]? = some (.cells #[pv] 28 (0, 0))
theorem S9.below {w : World} {x : RI} {pv : Value} {xs : List RV} {W W' : World} (h : S9 w x pv xs W) (hb : Below W.heap.size W W') : S9 w x pv xs W' :=
  ⟨h.bel.trans (hb.mono h.bel.size), h.tab.below hb h.tab.pos, h.ix.below hb (Nat.le_refl _), h.ip.below hb (Nat.le_refl _), h.cx.below hb (Nat.le_refl _), (hb.block _ (Array.getElem?_eq_some_iff.1 h.cp).1).trans h.cp⟩
theorem S9.grown {w : World} {x : RI} {pv : Value} {xs : List RV} {W W' : World} (h : S9 w x pv xs W) (hg : Grown W W') : S9 w x pv xs W' := h.below hg.below
theorem s9_start {w : World} {x : RI} {pv : Value} {xs : List RV} (hT : Tab w) (hx : x.In w) (hp : PsV w pv xs) : S9 w x pv xs ((w.alloc (.cells #[.bool x.r.bg, x.av, x.kv, x.pv, .bool x.r.en, x.rv, .int .i64 x.r.cu] 25)).alloc (.cells #[pv] 28)) := by
  have hg := ((Grown.refl w).alloc (.cells #[.bool x.r.bg, x.av, x.kv, x.pv, .bool x.r.en, x.rv, .int .i64 x.r.cu] 25)).alloc (.cells #[pv] 28)
  refine ⟨hg.below, hT.grown hg, hx.below hg.below (Nat.le_refl _), hp.grown hg, (rc_new w _ _ _ _ _ _ _).below ((Grown.refl _).alloc _).below (Nat.le_refl _), ?_⟩
  have := heap_alloc_new (w.alloc (.cells #[.bool x.r.bg, x.av, x.kv, x.pv, .bool x.r.en, x.rv, .int .i64 x.r.cu] 25)) (.cells #[pv] 28)
  rwa [show (w.alloc (.cells #[.bool x.r.bg, x.av, x.kv, x.pv, .bool x.r.en, x.rv, .int .i64 x.r.cu] 25)).heap.size = w.heap.size + 1 from Array.size_push _] at this
def I9 (x : RI) (pv : Value) (xs : List RV) (n : Nat) : Nat → (Nat → Value) → World → Prop
  | 0, vs, _ => vs 0 = lval x.r x.av x.kv x.pv x.rv
  | 1, vs, w => ∃ a k p q, vs 1 = lval x.r a k p q ∧ x.Lent w n a k p q
  | 2, vs, _ => vs 2 = .agg #[pv]
  | 3, vs, w => ∃ ov, vs 3 = .agg #[ov] ∧ LPs w n ov pv xs
  | 4, vs, w => ∃ B, vs 4 = .pointer (some ⟨B, 0, none⟩) ∧ n ≤ B ∧ w.heap[B]? = some (.cells zeroC 25 (0, 0))
  | 5, vs, w => ∃ B, vs 5 = .pointer (some ⟨B, 0, none⟩) ∧ n ≤ B ∧ w.heap[B]? = some (.cells #[.slice none 0 0] 28 (0, 0))
  | _, _, _ => True
theorem I9.ext {x : RI} {pv : Value} {xs : List RV} {n : Nat} (i : Nat) (vs : Nat → Value) (w w' : World) (h : I9 x pv xs n i vs w) (he : Ext w w') : I9 x pv xs n i vs w' := by
  have hk : ∀ g o, w.heap[g]? = some o → w'.heap[g]? = some o := fun g o ho => (he.block g (Array.getElem?_eq_some_iff.1 ho).1).trans ho
  match i, h with
  | 0, h => exact h
  | 1, ⟨a, k, p, q, h1, h2⟩ => exact ⟨a, k, p, q, h1, h2.below he (Nat.le_refl _)⟩
  | 2, h => exact h
  | 3, ⟨ov, h1, h2⟩ => exact ⟨ov, h1, h2.below he (Nat.le_refl _)⟩
  | 4, ⟨B, h1, h2, h3⟩ => exact ⟨B, h1, h2, hk B _ h3⟩
  | 5, ⟨B, h1, h2, h3⟩ => exact ⟨B, h1, h2, hk B _ h3⟩
  | _ + 6, _ => trivial
theorem I9.val {x : RI} {pv : Value} {xs : List RV} {n : Nat} (i : Nat) (vs us : Nat → Value) (w : World) (hj : us i = vs i) (h : I9 x pv xs n i vs w) : I9 x pv xs n i us w := by
  match i, hj, h with
  | 0, hj, h => exact hj.trans h
  | 1, hj, ⟨a, k, p, q, h1, h2⟩ => exact ⟨a, k, p, q, hj.trans h1, h2⟩
  | 2, hj, h => exact hj.trans h
  | 3, hj, ⟨ov, h1, h2⟩ => exact ⟨ov, hj.trans h1, h2⟩
  | 4, hj, ⟨B, h1, h2, h3⟩ => exact ⟨B, hj.trans h1, h2, h3⟩
  | 5, hj, ⟨B, h1, h2, h3⟩ => exact ⟨B, hj.trans h1, h2, h3⟩
  | _ + 6, _, _ => trivial
def L9 (x : RI) (pv : Value) (xs : List RV) (w0 : World) (full : Bool) (vs : Nat → Value) (w : World) : Prop :=
  ∃ B5 B6 a k p q ov, vs 4 = .pointer (some ⟨B5, 0, none⟩) ∧ vs 5 = .pointer (some ⟨B6, 0, none⟩) ∧ vs 1 = lval x.r a k p q ∧ vs 3 = .agg #[ov] ∧ B5 ≠ B6 ∧ w0.heap.size ≤ B5 ∧ w0.heap.size ≤ B6 ∧ x.Lent w w0.heap.size a k p q ∧ LPs w w0.heap.size ov pv xs ∧ w.heap[B5]? = some (.cells (rcA x.r a k p q) 25 (0, 0)) ∧ w.heap[B6]? = some (.cells #[if full then ov else .slice none 0 0] 28 (0, 0)) ∧ Below w0.heap.size w0 w
theorem L9.val {x : RI} {pv : Value} {xs : List RV} {w0 : World} {full : Bool} (vs us : Nat → Value) (w : World) (hj : ∀ i, i < 6 → us i = vs i) (h : L9 x pv xs w0 full vs w) : L9 x pv xs w0 full us w := by
  obtain ⟨B5, B6, a, k, p, q, ov, h1, h2, h3, h4, h5⟩ := h
  exact ⟨B5, B6, a, k, p, q, ov, (hj 4 (by omega)).trans h1, (hj 5 (by omega)).trans h2, (hj 1 (by omega)).trans h3, (hj 3 (by omega)).trans h4, h5⟩
theorem rc_blk {W : World} {B : Nat} {r : Rl} {a k p q : Value} (h : W.heap[B]? = some (.cells (rcA r a k p q) 25 (0, 0))) : RC W B r.bg a k p r.en q r.cu := by
  constructor <;> (simp only [World.cell?, h]; rfl)
set_option maxHeartbeats 8000000 in
theorem checksLaw_any (x : RI) (pv : Value) (xs : List RV) (w : World) (hT : Tab w) (hx : x.In w) (hp : PsV w pv xs) (sx : Sm x.r) (hn : xs.length ≤ 1048576) (sp : ∀ y ∈ xs, Sm y.r) :
    Calls Tryd.prog 3 #[.agg #[.bool x.r.bg, x.av, x.kv, x.pv, .bool x.r.en, x.rv, .int .i64 x.r.cu], .agg #[pv]] w fun e w' => e = .returned (.bool true) ∧ Below w.heap.size w w' := by
  have P0 : Hid (S9 w x pv xs ((w.alloc (.cells #[.bool x.r.bg, x.av, x.kv, x.pv, .bool x.r.en, x.rv, .int .i64 x.r.cu] 25)).alloc (.cells #[pv] 28))) := s9_start hT hx hp
  have HSh : Hid (∀ W, Hid (S9 w x pv xs W) → Calls Tryd.prog 9 #[] W fun e w' => e = .returned (.bool true) ∧ Hid (S9 w x pv xs w')) := fun W p => (shown_any W p.out.tab).mono fun e w' ⟨h1, h2⟩ => ⟨h1, p.out.below h2⟩
  have SX : Hid (Sm x.r) := sx
  have SP : Hid (xs.length ≤ 1048576 ∧ ∀ y ∈ xs, Sm y.r) := ⟨hn, sp⟩
  obtain ⟨pa, pn, pc, hpv⟩ : ∃ a n c, pv = .slice a n c := by obtain ⟨a, c, e, _⟩ := hp.cell; exact ⟨a, _, c, e⟩
  subst hpv
  clear hT hx hp sx hn sp
  go_enter Tryd.func3, Tryd.ntmps3
  go_wp2_with fail
  refine (HSh.out _ P0).mono ?_
  rintro e w3 ⟨rfl, P3⟩
  clear P0 HSh
  go_wp2_with fail
  rename_i Kx hx
  refine wp_region_two 6 rfl rfl rfl (by kernel_rfl) (by kernel_rfl) (by kernel_rfl) (by kernel_rfl) (by kernel_rfl) (by kernel_rfl) (I9 x (.slice pa pn pc) xs w3.heap.size) (fun i => i == 4 || i == 5) (fun i vs wa wb h he => I9.ext i vs wa wb h he) (fun i o vs us wz _ hj h => I9.val i vs us wz (hj i (.inl rfl)) h) (L9 x (.slice pa pn pc) xs w3 false) (L9 x (.slice pa pn pc) xs w3 true) (fun vs us w hj h => L9.val vs us w hj h) (fun vs us w hj h => L9.val vs us w hj h) ⟨?_, ?_, ?_, ?_, ?_, ?_, trivial⟩ ?_ ?_ ?_
  · as_aux_lemma =>
      clear hx
      intro a wx vs hE hd hval hfr K hK
      have d : a.tmps.getD 2 undef = .pointer (some ⟨w.heap.size, 0, none⟩) := hfr 2 (by kernel_rfl)
      obtain ⟨c0, c1, c2, c3, c4, c5, c6⟩ := P3.out.cx.below hE (Nat.le_refl _)
      have hK1 := hK (lval x.r x.av x.kv x.pv x.rv) wx (Below.refl _ _) rfl (fun h => by cases h)
      unfold lval at hK1
      simp only [Array.getD_eq_getD_getElem?] at d
      clear hval hfr hd hE hK
      go_simp
      exact hK1
  · as_aux_lemma =>
      clear hx
      intro a wx vs hE hd hval hfr K hK
      have d : a.tmps.getD 13 undef = lval x.r x.av x.kv x.pv x.rv := (hval 0 _ 13 (by kernel_rfl) (by rfl) rfl).trans (hd 0 (by kernel_rfl))
      have hC := lentRule_any x.r x.av x.kv x.pv x.rv x.sa x.sk x.sp x.tv wx (P3.out.ix.below hE (Nat.le_refl _)) SX.out
      unfold lval at d
      simp only [Array.getD_eq_getD_getElem?] at d
      have hsz := hE.size
      clear hval hfr hd
      go_simp
      refine hC.mono ?_
      rintro e w' ⟨o1, o2, o3, o4, rfl, hL, hb⟩
      exact hK _ _ hb ⟨o1, o2, o3, o4, rfl, hL.le hsz⟩ (fun h => by cases h)
  · as_aux_lemma =>
      clear hx
      intro a wx vs hE hd hval hfr K hK
      have d : a.tmps.getD 3 undef = .pointer (some ⟨w.heap.size + 1, 0, none⟩) := hfr 3 (by kernel_rfl)
      have c0 : wx.cell? ⟨w.heap.size + 1, 0, none⟩ = some (.slice pa pn pc) := by
        have := (hE.block _ (Array.getElem?_eq_some_iff.1 P3.out.cp).1).trans P3.out.cp
        simp only [World.cell?, this]
        rfl
      have hK1 := hK (.agg #[.slice pa pn pc]) wx (Below.refl _ _) rfl (fun h => by cases h)
      simp only [Array.getD_eq_getD_getElem?] at d
      clear hval hfr hd hE hK
      go_simp
      exact hK1
  · as_aux_lemma =>
      clear hx
      intro a wx vs hE hd hval hfr K hK
      have d : a.tmps.getD 15 undef = .agg #[.slice pa pn pc] := (hval 2 _ 15 (by kernel_rfl) (by rfl) rfl).trans (hd 2 (by kernel_rfl))
      have hC := lentPass_any (.slice pa pn pc) xs wx (P3.out.ip.below hE (Nat.le_refl _)) SP.out.1 SP.out.2
      simp only [Array.getD_eq_getD_getElem?] at d
      have hsz := hE.size
      clear hval hfr hd
      go_simp
      refine hC.mono ?_
      rintro e w' ⟨ov, rfl, hL, hb⟩
      exact hK _ _ hb ⟨ov, rfl, hL.le hsz⟩ (fun h => by cases h)
  · as_aux_lemma =>
      clear hx
      intro a wx vs hE hd hval hfr K hK
      have hK1 := hK (.pointer (some ⟨wx.heap.size, 0, none⟩)) (wx.alloc (.cells zeroC 25)) ((Below.refl _ wx).alloc (Nat.le_refl _) _) ⟨wx.heap.size, rfl, hE.size, heap_alloc_new wx _⟩ (fun _ => ⟨Nat.le_refl _, by rw [World.size_alloc]; exact Nat.lt_succ_self _⟩)
      unfold zeroC at hK1
      clear hval hfr hd hE hK
      go_simp
      exact hK1
  · as_aux_lemma =>
      clear hx
      intro a wx vs hE hd hval hfr K hK
      have hK1 := hK (.pointer (some ⟨wx.heap.size, 0, none⟩)) (wx.alloc (.cells #[.slice none 0 0] 28)) ((Below.refl _ wx).alloc (Nat.le_refl _) _) ⟨wx.heap.size, rfl, hE.size, heap_alloc_new wx _⟩ (fun _ => ⟨Nat.le_refl _, by rw [World.size_alloc]; exact Nat.lt_succ_self _⟩)
      clear hval hfr hd hE hK
      go_simp
      exact hK1
  · as_aux_lemma =>
      clear hx
      intro a wx vs hE hI hap hval hfr K hK
      obtain ⟨B5, b1, b2, b3⟩ := hI 4 (by decide)
      obtain ⟨B6, e1, e2, e3⟩ := hI 5 (by decide)
      obtain ⟨a', k, p, q, f1, f2⟩ := hI 1 (by decide)
      obtain ⟨ov, g1, g2⟩ := hI 3 (by decide)
      have hne : B5 ≠ B6 := by
        have := hap 4 5 (by decide) (by decide) (by decide) rfl rfl
        rw [b1, e1] at this
        exact this
      have d1 := (hval 4 _ 5 (by decide) (by rfl) rfl).trans b1
      have d2 := (hval 1 _ 14 (by decide) (by rfl) rfl).trans f1
      obtain ⟨a1, a2, a3, rfl⟩ := f2.a.sl
      obtain ⟨k1, k2, k3, rfl⟩ := f2.k.sl
      obtain ⟨p1, p2, p3, rfl⟩ := f2.p.sl
      obtain ⟨q1, q2, q3, rfl⟩ := f2.r.sl
      refine step_store7 rfl rfl 5 14 rfl B5 x.r a1 k1 p1 q1 a2 a3 k2 k3 p2 p3 q2 q3 d1 d2 b3 (fun v => hK v _ ?_)
      have ht := set7_turns wx B5 x.r (.slice a1 a2 a3) (.slice k1 k2 k3) (.slice p1 p2 p3) (.slice q1 q2 q3)
      exact ⟨B5, B6, _, _, _, _, ov, b1, e1, f1, g1, hne, b2, e2, f2.turn b3 rfl ht, g2.turn b3 ht, set7_heap b3 _ _ _ _ _, (ht B6 (fun e => hne e.symm)).trans e3, set7_below hE b2 _ _ _ _ _⟩
  · as_aux_lemma =>
      clear hx
      intro a wx vs hL hval hfr K hK
      obtain ⟨B5, B6, a', k, p, q, ov, b1, e1, f1, g1, hne, h5, h6, hX, hY, k5, k6, hB⟩ := hL
      have d1 := (hval 5 _ 6 (by decide) (by rfl) rfl).trans e1
      have d2 := (hval 3 _ 16 (by decide) (by rfl) rfl).trans g1
      obtain ⟨o1, o2, o3, rfl⟩ := hY.sl
      have c0 : wx.cell? ⟨B6, 0, none⟩ = some (.slice none 0 0) := by simp only [World.cell?, k6]; rfl
      have f0 : wx.frozen? ⟨B6, 0, none⟩ = false := by simp [World.frozen?, k6]
      have ht := but_set wx B6 (.slice o1 o2 o3)
      have hE : L9 x (.slice pa pn pc) xs w3 true vs (wx.setCell ⟨B6, 0, none⟩ (.slice o1 o2 o3)) :=
        ⟨B5, B6, a', k, p, q, _, b1, e1, f1, g1, hne, h5, h6, ⟨hX.a.but28 ht ⟨_, _, k6⟩ (by rw [c0]; intro e; cases e), hX.k.but28 ht ⟨_, _, k6⟩ (by rw [c0]; intro e; cases e), hX.p.but28 ht ⟨_, _, k6⟩ (by rw [c0]; intro e; cases e), hX.r.but28 ht ⟨_, _, k6⟩⟩, hY.but28 ht ⟨_, _, k6⟩ (by rw [c0]; intro e; cases e), ht B5 hne _ k5, by rw [cells_setS k6]; rfl, hB.setCell h6 _⟩
      have hK1 := fun v => hK v _ hE
      simp only [Array.getD_eq_getD_getElem?] at d1 d2
      clear hval hfr hX hY ht hE hK k5 k6 hB
      go_simp
      exact hK1 undef
  · intro vs wz hL
    obtain ⟨B5, B6, a, k, p, q, ov, b1, e1, f1, g1, hne, h5, h6, hX, hY, k5, k6, hB⟩ := hL
    rw [putL_eq]
    simp only [putsL, List.set_cons_zero, List.set_cons_succ, Nat.zero_add, Nat.reduceAdd]
    rw [b1, e1]
    clear b1 e1 f1 g1
    generalize vs 0 = x0
    generalize vs 1 = x1
    generalize vs 2 = x2
    generalize vs 3 = x3
    refine hx _ _ ?_
    clear hx
    have PZ : Hid (S9 w x (.slice pa pn pc) xs wz) := P3.out.below hB
    have HX5 : Hid (x.Lent wz w3.heap.size a k p q) := hX
    have HY6 : Hid (LPs wz w3.heap.size ov (.slice pa pn pc) xs) := hY
    have K5 : Hid (wz.heap[B5]? = some (.cells (rcA x.r a k p q) 25 (0, 0))) := k5
    have K6 : Hid (wz.heap[B6]? = some (.cells #[ov] 28 (0, 0))) := k6
    clear hne h5 h6 hX hY k5 k6 hB P3
    obtain ⟨o1, o2, o3, rfl⟩ := HY6.out.sl
    obtain ⟨a1, a2, a3, rfl⟩ := HX5.out.a.sl
    obtain ⟨k1, k2, k3, rfl⟩ := HX5.out.k.sl
    obtain ⟨p1, p2, p3, rfl⟩ := HX5.out.p.sl
    obtain ⟨q1, q2, q3, rfl⟩ := HX5.out.r.sl
    have hR0 := RRv.rr PZ.out.ix
    obtain ⟨xa1, xa2, xa3, y1⟩ := hR0.a.sl
    obtain ⟨xk1, xk2, xk3, y2⟩ := hR0.k.sl
    obtain ⟨xp1, xp2, xp3, y3⟩ := hR0.p.sl
    obtain ⟨xr1, xr2, xr3, y4⟩ := hR0.r.sl
    have HA : Hid (∀ W, Grown wz W → Calls Tryd.prog 12 #[.agg #[.slice o1 o2 o3]] W fun e w' => e = .returned (.tuple #[.int .i64 (allE (xs.map RV.r)).1, .int .i64 (allE (xs.map RV.r)).2]) ∧ Grown W w') := fun W hg => all_any _ _ W (PZ.out.tab.grown hg) ((HY6.out.psr PZ.out.ip).grown hg)
    have HRA : Hid (∀ W, Grown wz W → Calls Tryd.prog 13 #[.agg #[.slice pa pn pc]] W fun e w' => e = .returned (.tuple #[.int .i64 (allE (xs.map RV.r)).1, .int .i64 (allE (xs.map RV.r)).2]) ∧ Grown W w') := fun W hg => rall_any _ _ W (PZ.out.ip.psr.grown hg)
    have HCk : Hid (∀ W, Grown wz W → Calls Tryd.prog 14 #[.agg #[.bool x.r.bg, .slice a1 a2 a3, .slice k1 k2 k3, .slice p1 p2 p3, .bool x.r.en, .slice q1 q2 q3, .int .i64 x.r.cu]] W fun e w' => e = .returned (.int .i64 (chk x.r)) ∧ Grown W w') := fun W hg => check_any x.r _ _ _ _ W (PZ.out.tab.grown hg) ((HX5.out.rr PZ.out.ix).grown hg)
    have HRC : Hid (∀ W, Grown wz W → Calls Tryd.prog 15 #[.agg #[.bool x.r.bg, .slice xa1 xa2 xa3, .slice xk1 xk2 xk3, .slice xp1 xp2 xp3, .bool x.r.en, .slice xr1 xr2 xr3, .int .i64 x.r.cu]] W fun e w' => e = .returned (.int .i64 (chk x.r)) ∧ Grown W w') := fun W hg => rcheck_any x.r _ _ _ _ W (by rw [← y1, ← y2, ← y3, ← y4]; exact hR0.grown hg)
    have HSR : Hid (∀ W, Grown wz W → Calls Tryd.prog 16 #[.agg #[.bool x.r.bg, .slice a1 a2 a3, .slice k1 k2 k3, .slice p1 p2 p3, .bool x.r.en, .slice q1 q2 q3, .int .i64 x.r.cu], .agg #[.bool x.r.bg, .slice xa1 xa2 xa3, .slice xk1 xk2 xk3, .slice xp1 xp2 xp3, .bool x.r.en, .slice xr1 xr2 xr3, .int .i64 x.r.cu]] W fun e w' => e = .returned (.bool true) ∧ Grown W w') := fun W hg => by
      rw [← y1, ← y2, ← y3, ← y4]
      exact stillRule_any x.r w3.heap.size _ _ _ _ _ _ _ _ x.sa x.sk x.sp x.tv W (HX5.out.below hg.below (Nat.le_refl _)) (PZ.out.ix.below hg.below (Nat.le_refl _)) SX.out
    have HSP : Hid (∀ W, Grown wz W → Calls Tryd.prog 17 #[.agg #[.slice o1 o2 o3], .agg #[.slice pa pn pc]] W fun e w' => e = .returned (.bool true) ∧ Grown W w') := fun W hg => stillPass_any _ _ w3.heap.size xs W (HY6.out.below hg.below (Nat.le_refl _)) (PZ.out.ip.grown hg) SP.out.1 SP.out.2
    have HCL : Hid (∀ W, Grown wz W → (W.cell? ⟨B6, 0, none⟩ = some (.slice o1 o2 o3) ∧ W.cell? ⟨w.heap.size + 1, 0, none⟩ = some (.slice pa pn pc)) ∧ RC W B5 x.r.bg (.slice a1 a2 a3) (.slice k1 k2 k3) (.slice p1 p2 p3) x.r.en (.slice q1 q2 q3) x.r.cu ∧ RC W w.heap.size x.r.bg (.slice xa1 xa2 xa3) (.slice xk1 xk2 xk3) (.slice xp1 xp2 xp3) x.r.en (.slice xr1 xr2 xr3) x.r.cu) := fun W hg => by
      refine ⟨⟨hg.cellv (by simp only [World.cell?, K6.out]; rfl), hg.cellv (by simp only [World.cell?, PZ.out.cp]; rfl)⟩, (rc_blk K5.out).below hg.below (Nat.le_refl _), ?_⟩
      rw [← y1, ← y2, ← y3, ← y4]
      exact PZ.out.cx.below hg.below (Nat.le_refl _)
    have HBL : Hid (Below w.heap.size w wz) := PZ.out.bel
    clear hR0 y1 y2 y3 y4 PZ HX5 HY6 K5 K6 SX SP
    generalize (allE (xs.map RV.r)).1 = E1 at HA HRA
    generalize (allE (xs.map RV.r)).2 = E2 at HA HRA
    generalize chk x.r = ch at HCk HRC
    generalize x.r.bg = xb at HCk HRC HSR HCL
    generalize x.r.en = xe at HCk HRC HSR HCL
    generalize x.r.cu = xc at HCk HRC HSR HCL
    have e1 : (E1 != E1) = false := by simp
    have e2 : (E2 != E2) = false := by simp
    have e3 : (ch != ch) = false := by simp
    go_wp2_with fail
    go_loopw [17] (fun vi wr => ∃ k : Nat, vi = .int .i64 k ∧ k ≤ 2 ∧ Grown wz wr) (fun vi _ => 2 - (intOf vi).toNat)
    case atStart => exact ⟨0, rfl, by omega, Grown.refl _⟩
    case round =>
      obtain ⟨kk, rfl, hk, hG⟩ := hrel
      have hk0 : (0 : Int) ≤ (kk : Int) := by omega
      by_cases hlt : kk < 2
      · have hlt' : (kk : Int) < 2 := by omega
        have c6 := (HCL.out _ hG).1.1
        go_wp2_with fail
        refine (HA.out _ hG).mono ?_
        rintro e w5 ⟨rfl, hg5⟩
        have hG5 := hG.trans hg5
        clear c6 hg5
        have c3 := (HCL.out _ hG5).1.2
        go_wp2_with fail
        refine (HRA.out _ hG5).mono ?_
        rintro e w6 ⟨rfl, hg6⟩
        have hG6 := hG5.trans hg6
        clear c3 hg6 hG5
        have hq := fun q os => (HCL.out _ (hG6.quiet q os)).2
        have m0 := fun q os => (hq q os).1.c0
        have m1 := fun q os => (hq q os).1.c1
        have m2 := fun q os => (hq q os).1.c2
        have m3 := fun q os => (hq q os).1.c3
        have m4 := fun q os => (hq q os).1.c4
        have m5 := fun q os => (hq q os).1.c5
        have m6 := fun q os => (hq q os).1.c6
        have n0 := fun q os => (hq q os).2.c0
        have n1 := fun q os => (hq q os).2.c1
        have n2 := fun q os => (hq q os).2.c2
        have n3 := fun q os => (hq q os).2.c3
        have n4 := fun q os => (hq q os).2.c4
        have n5 := fun q os => (hq q os).2.c5
        have n6 := fun q os => (hq q os).2.c6
        have HD1 := Hid.mk' (fun q os => HCk.out _ (hG6.quiet q os))
        have HD2 := Hid.mk' (fun q os => HRC.out _ (hG6.quiet q os))
        clear hq
        as_aux_lemma =>
          go_wp2
          refine wp_region_quiet_grown mixed (by kernel_rfl) ?_
          repeat (go_big_quiet_step (first | (go_at_call 14; exact grown_of (HD1.out _ _)) | (go_at_call 15; exact grown_of (HD2.out _ _))))
          refine wpQuiet_nil ?_
          intro _ hw'
          obtain ⟨⟨nq, osq⟩, hw''⟩ := hw'
          subst hw''
          go_wp2
          exact ⟨⟨kk + 1, by go_num, by omega, hG6.quiet _ _⟩, by simp [intOf]; omega⟩
      · have hge : ¬ (kk : Int) < 2 := by omega
        obtain ⟨⟨c6, c3⟩, ⟨m0, m1, m2, m3, m4, m5, m6⟩, ⟨n0, n1, n2, n3, n4, n5, n6⟩⟩ := HCL.out _ hG
        go_wp2_with fail
        refine (HSR.out _ hG).mono ?_
        rintro e w5 ⟨rfl, hg5⟩
        have hG5 := hG.trans hg5
        clear c6 c3 m0 m1 m2 m3 m4 m5 m6 n0 n1 n2 n3 n4 n5 n6 hg5
        obtain ⟨⟨c6, c3⟩, _, _⟩ := HCL.out _ hG5
        go_wp2_with fail
        refine (HSP.out _ hG5).mono ?_
        rintro e w6 ⟨rfl, hg6⟩
        have hG6 := hG5.trans hg6
        clear c6 c3 hg6
        go_wp2
        go_ret
        exact ⟨rfl, HBL.out.trans (hG6.below.mono HBL.out.size)⟩
end Go.Proofs
