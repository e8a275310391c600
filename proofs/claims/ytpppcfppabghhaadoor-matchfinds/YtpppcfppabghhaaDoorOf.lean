/-
  MatchFinds: what lies where while all is lent.
-/
import Derived.RangeFuncNested
import Derived.RangeFuncBound
import Derived.RangeFuncCalls
import Derived.RangeFuncLeaves
import Derived.Shelf.Abstract
import Derived.Shelf.RegionOpen
import Derived.WalkKit
import Derived.WalkSpells
import Derived.WalkLawsBesides
import Derived.OwnWalkIn
import Derived.TacticsInMore
import Derived.LoopNIn
import Derived.LoopIn
import Derived.BigQuiet
import Derived.RegionIn
import Derived.Deep.QuietTactic
import Derived.Deep.RegionWith
import Derived.Lib.OthersKept
import Derived.Maps.AppendAt
import Derived.Lib.SmallJoins
import Derived.Shelf.SlSortCmp.QuietGrown
import Derived.Test.YtpppcfppabghhaaDoorOx
import Derived.Test.YtpppcfppabghhaaDoorQx
namespace Go.Proofs
open Go.RowKit Go.Shelf

set_option maxRecDepth 100000
attribute [local go_sem] Oper.semAt_some
attribute [local go_sem ↓] Go.wp_at_zero Go.wp_at_succ

/-- what lies where in the walk of MatchFinds -/
structure G9 (w : World) (pv : Value) (xs : List RV) (x : RI) (dv lv : Value) (d l : List Int) (W : World) : Prop where
  bel : Below w.heap.size w W
  tab : Tab W
  ip : PsV W pv xs
  ix : x.In W
  id : IR W dv d
  il : IR W lv l
  cp : W.heap[w.heap.size]? = some (.cells #[pv] 24 (0, 0))
  cx : RC W (w.heap.size + 1) x.r.bg x.av x.kv x.pv x.r.en x.rv x.r.cu
theorem G9.below {w : World} {pv : Value} {xs : List RV} {x : RI} {dv lv : Value} {d l : List Int} {W W' : World} {n : Nat} (h : G9 w pv xs x dv lv d l W) (hb : Below n W W') (hn : W.heap.size ≤ n) : G9 w pv xs x dv lv d l W' :=
  ⟨h.bel.trans (hb.mono (Nat.le_trans h.bel.size hn)), h.tab.below hb (Nat.lt_of_lt_of_le h.tab.pos hn), h.ip.below hb hn, h.ix.below hb hn, h.id.below hb hn, h.il.below hb hn, (hb.block _ (Nat.lt_of_lt_of_le (Array.getElem?_eq_some_iff.1 h.cp).1 hn)).trans h.cp, h.cx.below hb hn⟩
section
variable {pv : Value} {xs : List RV} {x : RI} {dv lv : Value} {d l : List Int} {n : Nat} {w0 : World}
def F3 (pv : Value) (xs : List RV) (x : RI) (dv lv : Value) (d l : List Int) (n : Nat) : Nat → (Nat → Value) → World → Prop
  | 0, vs, _ => vs 0 = .agg #[pv]
  | 1, vs, w => ∃ ov, vs 1 = .agg #[ov] ∧ LPs w n ov pv xs
  | 2, vs, _ => vs 2 = lval x.r x.av x.kv x.pv x.rv
  | 3, vs, w => ∃ a k p q, vs 3 = lval x.r a k p q ∧ x.Lent w n a k p q
  | 4, vs, _ => vs 4 = dv
  | 5, vs, w => LIn w n (vs 5) dv d
  | 6, vs, _ => vs 6 = lv
  | 7, vs, w => LIn w n (vs 7) lv l ∧ ((vs 7).ownBlock = none ∨ (vs 7).ownBlock ≠ (vs 5).ownBlock)
  | 8, vs, w => ∃ B, vs 8 = .pointer (some ⟨B, 0, none⟩) ∧ n ≤ B ∧ w.heap[B]? = some (.cells #[.slice none 0 0] 24 (0, 0))
  | 9, vs, w => ∃ B, vs 9 = .pointer (some ⟨B, 0, none⟩) ∧ n ≤ B ∧ w.heap[B]? = some (.cells zeroC 28 (0, 0))
  | _, _, _ => True
theorem F3.ext (i : Nat) (vs : Nat → Value) (w w' : World) (h : F3 pv xs x dv lv d l n i vs w) (he : Ext w w') : F3 pv xs x dv lv d l n i vs w' := by
  have hk : ∀ g o, w.heap[g]? = some o → w'.heap[g]? = some o := fun g o ho => (he.block g (Array.getElem?_eq_some_iff.1 ho).1).trans ho
  match i, h with
  | 0, h => exact h
  | 1, ⟨ov, h1, h2⟩ => exact ⟨ov, h1, h2.below he (Nat.le_refl _)⟩
  | 2, h => exact h
  | 3, ⟨a, k, p, q, h1, h2⟩ => exact ⟨a, k, p, q, h1, h2.below he (Nat.le_refl _)⟩
  | 4, h => exact h
  | 5, h => exact LIn.below h he (Nat.le_refl _)
  | 6, h => exact h
  | 7, ⟨h1, h2⟩ => exact ⟨h1.below he (Nat.le_refl _), h2⟩
  | 8, ⟨B, h1, h2, h3⟩ => exact ⟨B, h1, h2, hk B _ h3⟩
  | 9, ⟨B, h1, h2, h3⟩ => exact ⟨B, h1, h2, hk B _ h3⟩
  | _ + 10, _ => trivial
theorem F3.val (i : Nat) (vs us : Nat → Value) (w : World) (hj : us i = vs i) (h5 : i = 7 → us 5 = vs 5) (h : F3 pv xs x dv lv d l n i vs w) : F3 pv xs x dv lv d l n i us w := by
  match i, hj, h5, h with
  | 0, hj, _, h => exact hj.trans h
  | 1, hj, _, ⟨ov, h1, h2⟩ => exact ⟨ov, hj.trans h1, h2⟩
  | 2, hj, _, h => exact hj.trans h
  | 3, hj, _, ⟨a, k, p, q, h1, h2⟩ => exact ⟨a, k, p, q, hj.trans h1, h2⟩
  | 4, hj, _, h => exact hj.trans h
  | 5, hj, _, h => show LIn w n (us 5) dv d; rw [hj]; exact h
  | 6, hj, _, h => exact hj.trans h
  | 7, hj, h5, ⟨h1, h2⟩ => show LIn w n (us 7) lv l ∧ _; rw [hj, h5 rfl]; exact ⟨h1, h2⟩
  | 8, hj, _, ⟨B, h1, h2, h3⟩ => exact ⟨B, hj.trans h1, h2, h3⟩
  | 9, hj, _, ⟨B, h1, h2, h3⟩ => exact ⟨B, hj.trans h1, h2, h3⟩
  | _ + 10, _, _, _ => trivial
/-- all is lent; the rule may not be stored yet -/
structure L3 (pv : Value) (xs : List RV) (x : RI) (dv lv : Value) (d l : List Int) (n : Nat) (w0 : World) (full : Bool) (vs : Nat → Value) (W : World) (B8 B9 : Nat) (ov a k p q : Value) : Prop where
  e8 : vs 8 = .pointer (some ⟨B8, 0, none⟩)
  e9 : vs 9 = .pointer (some ⟨B9, 0, none⟩)
  e1 : vs 1 = .agg #[ov]
  e3 : vs 3 = lval x.r a k p q
  n8 : n ≤ B8
  n9 : n ≤ B9
  ps : LPs W n ov pv xs
  ru : x.Lent W n a k p q
  id : LIn W n (vs 5) dv d
  il : LIn W n (vs 7) lv l
  ap : (vs 7).ownBlock = none ∨ (vs 7).ownBlock ≠ (vs 5).ownBlock
  b8 : W.heap[B8]? = some (.cells #[ov] 24 (0, 0))
  b9 : W.heap[B9]? = some (.cells (if full then rcA x.r a k p q else zeroC) 28 (0, 0))
  bl : Below n w0 W
/-- what was done ahead of an operation -/
def Dp (i : Nat) (p : Nat → Bool) : Prop := (i = 7 → p 5 = true ∧ p 6 = true) ∧ (i = 5 → p 3 = true ∧ p 4 = true) ∧ (i = 3 → p 1 = true ∧ p 2 = true)
theorem Dp.or {i k : Nat} {p : Nat → Bool} (h : Dp i p) : Dp i (fun j => p j || j == k) := ⟨fun e => ⟨by simp [(h.1 e).1], by simp [(h.1 e).2]⟩, fun e => ⟨by simp [(h.2.1 e).1], by simp [(h.2.1 e).2]⟩, fun e => ⟨by simp [(h.2.2 e).1], by simp [(h.2.2 e).2]⟩⟩
theorem dp_none {i : Nat} {p : Nat → Bool} (h7 : i ≠ 7) (h5 : i ≠ 5) (h3 : i ≠ 3) : Dp i p := ⟨fun e => absurd e h7, fun e => absurd e h5, fun e => absurd e h3⟩
def J3 (pv : Value) (xs : List RV) (x : RI) (dv lv : Value) (d l : List Int) (n : Nat) (w0 : World) (p : Nat → Bool) (vs : Nat → Value) (W : World) : Prop :=
  (p 10 = false ∧ p 11 = false ∧ p 12 = false ∧ p 13 = false ∧ Ext w0 W ∧ ∀ i, i < 10 → p i = true → F3 pv xs x dv lv d l n i vs W ∧ Dp i p) ∨
  (p 10 = true ∧ (∀ i, i < 10 → p i = true) ∧ (∃ B8 B9 ov a k q r, L3 pv xs x dv lv d l n w0 (p 11) vs W B8 B9 ov a k q r) ∧ (p 12 = true → p 11 = true ∧ vs 12 = vs 5) ∧ (p 13 = true → p 12 = true ∧ vs 13 = vs 7))
theorem J3.start : J3 pv xs x dv lv d l n w0 (fun _ => false) (fun _ => undef) w0.drew := .inl ⟨rfl, rfl, rfl, rfl, (Below.refl _ _).drew, fun _ _ h => by cases h⟩
theorem J3.ext {p : Nat → Bool} {vs : Nat → Value} {W : World} (h : J3 pv xs x dv lv d l n w0 p vs W) {i : Nat} (hi : i < 10) (hp : p i = false) : Ext w0 W ∧ ∀ j, j < 10 → p j = true → F3 pv xs x dv lv d l n j vs W := by
  rcases h with ⟨_, _, _, _, h1, h2⟩ | ⟨_, h, _⟩
  · exact ⟨h1, fun j a b => (h2 j a b).1⟩
  · have := h i hi; rw [hp] at this; cases this
theorem J3.put {p : Nat → Bool} {vs : Nat → Value} {W W' : World} {v : Value} (i : Nat) (h : J3 pv xs x dv lv d l n w0 p vs W) (hi : i < 10) (hp : p i = false) (hE : Ext W W') (hD : Dp i p) (hF : F3 pv xs x dv lv d l n i (fun j => if j = i then v else vs j) W') :
    J3 pv xs x dv lv d l n w0 (fun j => p j || j == i) (fun j => if j = i then v else vs j) W' := by
  rcases h with ⟨a1, a2, a3, a4, h1, h2⟩ | ⟨_, h, _⟩
  · refine .inl ⟨by simp [a1]; omega, by simp [a2]; omega, by simp [a3]; omega, by simp [a4]; omega, h1.trans hE, fun j hj hpj => ?_⟩
    by_cases e : j = i
    · subst e
      exact ⟨hF, hD.or⟩
    · have hpj' : p j = true := by simpa [e] using hpj
      obtain ⟨b1, b2⟩ := h2 j hj hpj'
      refine ⟨F3.val j vs _ W' (by simp [e]) (fun e7 => ?_) (F3.ext j vs W W' b1 hE), b2.or⟩
      have h5 : i ≠ 5 := fun e5 => by subst e5; rw [(b2.1 e7).1] at hp; cases hp
      simp [Ne.symm h5]
  · have := h i hi; rw [hp] at this; cases this
theorem J3.s10 {p : Nat → Bool} {vs : Nat → Value} {W : World} (hn : n ≤ w0.heap.size) (h : J3 pv xs x dv lv d l n w0 p vs W) (q0 : p 0 = true) (q7 : p 7 = true) (q8 : p 8 = true) (q9 : p 9 = true) (hp : p 10 = false) : (∀ i, i < 10 → p i = true) ∧ ∃ B8 ov, vs 8 = .pointer (some ⟨B8, 0, none⟩) ∧ vs 1 = .agg #[ov] ∧ IsSl ov ∧ W.heap[B8]? = some (.cells #[.slice none 0 0] 24 (0, 0)) ∧ ∀ v, J3 pv xs x dv lv d l n w0 (fun j => p j || j == 10) (fun j => if j = 10 then v else vs j) (W.setCell ⟨B8, 0, none⟩ ov) := by
  rcases h with ⟨_, a2, a3, a4, h1, h2⟩ | ⟨h, _⟩
  · have g7' := (h2 7 (by omega) q7).2.1 rfl
    have g5' := (h2 5 (by omega) g7'.1).2.2.1 rfl
    have g3' := (h2 3 (by omega) g5'.1).2.2.2 rfl
    have hall : ∀ i, i < 10 → p i = true := fun i hi => by
      have : i = 0 ∨ i = 1 ∨ i = 2 ∨ i = 3 ∨ i = 4 ∨ i = 5 ∨ i = 6 ∨ i = 7 ∨ i = 8 ∨ i = 9 := by omega
      rcases this with rfl | rfl | rfl | rfl | rfl | rfl | rfl | rfl | rfl | rfl
      · exact q0
      · exact g3'.1
      · exact g3'.2
      · exact g5'.1
      · exact g5'.2
      · exact g7'.1
      · exact g7'.2
      · exact q7
      · exact q8
      · exact q9
    refine ⟨hall, ?_⟩
    obtain ⟨ov, e1, f1⟩ := (h2 1 (by omega) (hall 1 (by omega))).1
    obtain ⟨a, k, q, r, e3, f3⟩ := (h2 3 (by omega) (hall 3 (by omega))).1
    have f5 : LIn W n (vs 5) dv d := (h2 5 (by omega) (hall 5 (by omega))).1
    obtain ⟨f7, g7⟩ : LIn W n (vs 7) lv l ∧ _ := (h2 7 (by omega) (hall 7 (by omega))).1
    obtain ⟨B8, e8, n8, f8⟩ := (h2 8 (by omega) (hall 8 (by omega))).1
    obtain ⟨B9, e9, n9, f9⟩ := (h2 9 (by omega) (hall 9 (by omega))).1
    refine ⟨B8, ov, e8, e1, f1.sl, f8, fun v => .inr ⟨by simp, fun i hi => by simp [hall i hi], ⟨B8, B9, ov, a, k, q, r, ?_⟩, fun a => by simp [a3] at a, fun a => by simp [a4] at a⟩⟩
    have ht := but_set W B8 ov
    have hc : W.cell? ⟨B8, 0, none⟩ ≠ some (.int .i64 (-8)) := by rw [cell_of f8]; intro e; cases e
    have hne : B8 ≠ B9 := fun e => by subst e; rw [f8] at f9; cases f9
    have hO : ButO (some B8) W (W.setCell ⟨B8, 0, none⟩ ov) := fun b hb o ho => ht b (fun e => hb (by rw [e])) o ho
    have h3 : ∀ {u v : Value} {q : List Int}, LIn W n u v q → u.ownBlock = none ∨ u.ownBlock ≠ some B8 := fun {u v q} hl => by
      right
      intro e
      obtain ⟨_, cur, hc⟩ := hl.blk B8 e
      rw [f8] at hc
      cases hc
    have hb11 : (p 11 || 11 == 10) = false := by simp [a2]
    refine ⟨by simpa using e8, by simpa using e9, by simpa using e1, by simpa using e3, n8, n9, f1.but28 ht ⟨_, _, f8⟩ hc, ⟨f3.a.but28 ht ⟨_, _, f8⟩ hc, f3.k.but28 ht ⟨_, _, f8⟩ hc, f3.p.but28 ht ⟨_, _, f8⟩ hc, f3.r.but28 ht ⟨_, _, f8⟩⟩, by simpa using f5.but hO (h3 f5), by simpa using f7.but hO (h3 f7), by simpa using g7, by rw [cells_setS f8]; rfl, ?_, (h1.mono hn).setCell n8 _⟩
    simp only [hb11]
    exact ht B9 (fun e => hne e.symm) _ f9
  · rw [hp] at h; cases h
theorem J3.s11 {p : Nat → Bool} {vs : Nat → Value} {W : World} (h : J3 pv xs x dv lv d l n w0 p vs W) (h10 : p 10 = true) (hp : p 11 = false) : ∃ B9 a k q r, vs 9 = .pointer (some ⟨B9, 0, none⟩) ∧ vs 3 = lval x.r a k q r ∧ (IsSl a ∧ IsSl k ∧ IsSl q ∧ IsSl r) ∧ W.heap[B9]? = some (.cells zeroC 28 (0, 0)) ∧ ∀ v, J3 pv xs x dv lv d l n w0 (fun j => p j || j == 11) (fun j => if j = 11 then v else vs j) (set7 W B9 x.r a k q r) := by
  rcases h with ⟨h, _⟩ | ⟨_, hall, ⟨B8, B9, ov, a, k, q, r, hL⟩, h12, h13⟩
  · rw [h10] at h; cases h
  · have hb9 : W.heap[B9]? = some (.cells zeroC 28 (0, 0)) := by have := hL.b9; rw [hp] at this; exact this
    have p12 : p 12 = false := by
      cases e : p 12 with
      | false => rfl
      | true => have := (h12 e).1; rw [hp] at this; cases this
    have p13 : p 13 = false := by
      cases e : p 13 with
      | false => rfl
      | true => have := (h13 e).1; rw [p12] at this; cases this
    refine ⟨B9, a, k, q, r, hL.e9, hL.e3, ⟨hL.ru.a.sl, hL.ru.k.sl, hL.ru.p.sl, hL.ru.r.sl⟩, hb9, fun v => .inr ⟨by simp [h10], fun i hi => by simp [hall i hi], ⟨B8, B9, ov, a, k, q, r, ?_⟩, fun a => by simp [p12] at a, fun a => by simp [p13] at a⟩⟩
    have ht := set7_turns W B9 x.r a k q r
    have hne : B8 ≠ B9 := fun e => by have := hL.b8; subst e; rw [hb9] at this; cases this
    have hO : ButO (some B9) W (set7 W B9 x.r a k q r) := fun b hb o ho => (ht b (fun e => hb (by rw [e]))).trans ho
    have h3 : ∀ {u v : Value} {q : List Int}, LIn W n u v q → u.ownBlock = none ∨ u.ownBlock ≠ some B9 := fun {u v q} hl => by
      right
      intro e
      obtain ⟨_, cur, hc⟩ := hl.blk B9 e
      rw [hb9] at hc
      cases hc
    have hb11 : (p 11 || 11 == 11) = true := by simp
    refine ⟨by simpa using hL.e8, by simpa using hL.e9, by simpa using hL.e1, by simpa using hL.e3, hL.n8, hL.n9, hL.ps.turn hb9 ht, hL.ru.turn hb9 rfl ht, by simpa using hL.id.but hO (h3 hL.id), by simpa using hL.il.but hO (h3 hL.il), by simpa using hL.ap, (ht B8 hne).trans hL.b8, ?_, set7_below hL.bl hL.n9 _ _ _ _ _⟩
    simp only [hb11, if_true]
    exact set7_heap hb9 _ _ _ _ _
theorem L3.val {full : Bool} {vs us : Nat → Value} {W : World} {B8 B9 : Nat} {ov a k p q : Value} (h : L3 pv xs x dv lv d l n w0 full vs W B8 B9 ov a k p q) (hj : ∀ i, i < 10 → us i = vs i) : L3 pv xs x dv lv d l n w0 full us W B8 B9 ov a k p q := by
  have h5 := hj 5 (by omega)
  have h7 := hj 7 (by omega)
  refine ⟨(hj 8 (by omega)).trans h.e8, (hj 9 (by omega)).trans h.e9, (hj 1 (by omega)).trans h.e1, (hj 3 (by omega)).trans h.e3, h.n8, h.n9, h.ps, h.ru, by rw [h5]; exact h.id, by rw [h7]; exact h.il, by rw [h5, h7]; exact h.ap, h.b8, h.b9, h.bl⟩
theorem J3.s12 {p : Nat → Bool} {vs : Nat → Value} {W : World} (h : J3 pv xs x dv lv d l n w0 p vs W) (h11 : p 11 = true) (hp : p 12 = false) : J3 pv xs x dv lv d l n w0 (fun j => p j || j == 12) (fun j => if j = 12 then vs 5 else vs j) W := by
  rcases h with ⟨_, h, _⟩ | ⟨h10, hall, ⟨B8, B9, ov, a, k, q, r, hL⟩, h12, h13⟩
  · rw [h11] at h; cases h
  · have p13 : p 13 = false := by
      cases e : p 13 with
      | false => rfl
      | true => have := (h13 e).1; rw [hp] at this; cases this
    refine .inr ⟨by simp [h10], fun i hi => by simp [hall i hi], ⟨B8, B9, ov, a, k, q, r, ?_⟩, fun _ => ⟨by simp [h11], by simp⟩, fun a => by simp [p13] at a⟩
    have := hL.val (us := fun j => if j = 12 then vs 5 else vs j) (fun i hi => by simp; omega)
    simpa using this
theorem J3.s13 {p : Nat → Bool} {vs : Nat → Value} {W : World} (h : J3 pv xs x dv lv d l n w0 p vs W) (hp12 : p 12 = true) : J3 pv xs x dv lv d l n w0 (fun j => p j || j == 13) (fun j => if j = 13 then vs 7 else vs j) W := by
  rcases h with ⟨_, _, h, _⟩ | ⟨h10, hall, ⟨B8, B9, ov, a, k, q, r, hL⟩, h12, h13⟩
  · rw [hp12] at h; cases h
  · refine .inr ⟨by simp [h10], fun i hi => by simp [hall i hi], ⟨B8, B9, ov, a, k, q, r, ?_⟩, fun _ => ?_, fun _ => ⟨by simp [hp12], by simp⟩⟩
    · have := hL.val (us := fun j => if j = 13 then vs 7 else vs j) (fun i hi => by simp; omega)
      simpa using this
    · have := h12 hp12
      exact ⟨by simp [this.1], by simpa using this.2⟩
end
end Go.Proofs
