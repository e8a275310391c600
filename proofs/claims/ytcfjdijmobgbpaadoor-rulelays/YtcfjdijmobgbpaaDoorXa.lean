/-
  The examples of the document.
-/
import Derived.RangeFuncNested
import Derived.RangeFuncBound
import Derived.RangeFuncCalls
import Derived.RangeFuncLeaves
import Derived.Shelf.Abstract
import Derived.Shelf.RegionOpen
import Derived.WalkKit
import Derived.WalkSpells
import Derived.WalkLawsBesides
import Derived.OwnWalkIn
import Derived.TacticsInMore
import Derived.LoopNIn
import Derived.LoopIn
import Derived.BigQuiet
import Derived.RegionIn
import Derived.Deep.QuietTactic
import Derived.Deep.RegionWith
import Derived.Lib.OthersKept
import Derived.Maps.AppendAt
import Derived.Lib.SmallJoins
import Derived.Test.YtcfjdijmobgbpaaDoorWf
namespace Go.Proofs
open Go.RowKit Go.Shelf

set_option maxRecDepth 100000
attribute [local go_sem] Oper.semAt_some
def abcR : Rl := ⟨false, false, 1, [], [[(97, 99)], [(48, 57)]], [], [⟨1, 120, 0, []⟩, ⟨2, 0, 1, []⟩, ⟨3, 0, 0, [(120, 122)]⟩]⟩
theorem cell_new {W : World} {cs : Array Value} {t : TypeId} {b j : Nat} {v : Value} (hb : b = W.heap.size) (hv : cs[j]? = some v) : (W.alloc (.cells cs t)).cell? ⟨b, j, none⟩ = some v := by
  subst hb
  simp only [World.cell?, heap_alloc_new]
  exact hv
theorem rs_one {W : World} {g : Nat} {a b : Int} (h0 : W.cell? ⟨g, 0, none⟩ = some (.int .i64 a)) (h1 : W.cell? ⟨g, 1, none⟩ = some (.int .i64 b)) : Rs W (.slice (some ⟨g, 0, none⟩) 1 1) [(a, b)] := by
  refine ⟨_, 1, rfl, Nat.le_refl _, .inr ⟨g, 0, rfl, fun j hj => ?_⟩⟩
  obtain rfl : j = 0 := by simpa using hj
  exact ⟨h0, h1⟩
theorem rs_nil (W : World) : Rs W (.slice none 0 0) [] := ⟨none, 0, rfl, Nat.le_refl _, .inl rfl⟩
theorem sr_nil (W : World) : SR W (.slice none 0 0) [] := ⟨none, 0, rfl, Nat.le_refl _, .inl rfl⟩
theorem pr_nil (W : World) : PR W (.slice none 0 0) [] := ⟨none, 0, rfl, Nat.le_refl _, .inl rfl⟩
/-- a call that leaves with a rule that lies in a block -/
theorem ret_rl {fn : Func} {p : Tmp} {W : World} {B : Nat} {tmps : Array Value} {bg en : Bool} {av kv pv rv : Value} {cu : Int} {Q : Ending → World → Prop} (hr : fn.results = #[.cell p 25]) (hp : tmps.getD p undef = .pointer (some ⟨B, 0, none⟩))
    (c0 : W.cell? ⟨B, 0, none⟩ = some (.bool bg)) (c1 : W.cell? ⟨B, 1, none⟩ = some av) (c2 : W.cell? ⟨B, 2, none⟩ = some kv) (c3 : W.cell? ⟨B, 3, none⟩ = some pv) (c4 : W.cell? ⟨B, 4, none⟩ = some (.bool en)) (c5 : W.cell? ⟨B, 5, none⟩ = some rv) (c6 : W.cell? ⟨B, 6, none⟩ = some (.int .i64 cu))
    (K : Q (.returned (.agg #[.bool bg, av, kv, pv, .bool en, rv, .int .i64 cu])) W) : bodyPost Tryd.prog fn Q Exit.ret { tmps := tmps, defers := [] } W := by
  refine bodyPost_ret (v := .agg #[.bool bg, av, kv, pv, .bool en, rv, .int .i64 cu]) ?_ rfl K
  rw [Array.getD_eq_getD_getElem?] at hp
  simp only [results, hr]
  simp [hp, go_sem, c0, c1, c2, c3, c4, c5, c6]
set_option maxHeartbeats 2000000 in
theorem abc_any (w : World) : Calls Tryd.prog 20 #[] w fun e w' => ∃ ka kn kc ra rn rc, e = .returned (.agg #[.bool false, .slice none 0 0, .slice ka kn kc, .slice none 0 0, .bool false, .slice ra rn rc, .int .i64 1]) ∧ RR w' (.slice none 0 0) (.slice ka kn kc) (.slice none 0 0) (.slice ra rn rc) abcR ∧ Grown w w' := by
  go_enter Tryd.func20, Tryd.ntmps20
  go_wp2
  refine ret_rl (p := 0) (B := w.heap.size) (bg := false) (en := false) (av := .slice none 0 0) (kv := .slice (some ⟨w.heap.size + 1 + 1 + 1, 0, none⟩) 2 2) (pv := .slice none 0 0) (rv := .slice (some ⟨w.heap.size + 1 + 1 + 1 + 1 + 1, 0, none⟩) 3 3) (cu := 1) rfl rfl ?_ ?_ ?_ ?_ ?_ ?_ ?_ ?_
  iterate 7 (· (repeat (first | (refine cell_new ?_ rfl; simp; done) | refine cell_up ?_ _)))
  refine ⟨_, _, _, _, _, _, rfl, ⟨sr_nil _, ?_, sr_nil _, ?_⟩, ((((((Grown.refl _).alloc _).alloc _).alloc _).alloc _).alloc _).alloc _⟩
  · refine ⟨_, 2, rfl, Nat.le_refl _, .inr ⟨_, 0, rfl, fun j hj => ?_⟩⟩
    match j, hj with
    | 0, _ => exact ⟨.slice (some ⟨w.heap.size + 1, 0, none⟩) 1 1, by (repeat (first | (refine cell_new ?_ rfl; simp; done) | refine cell_up ?_ _)), rs_one (by (repeat (first | (refine cell_new ?_ rfl; simp; done) | refine cell_up ?_ _))) (by (repeat (first | (refine cell_new ?_ rfl; simp; done) | refine cell_up ?_ _)))⟩
    | 1, _ => exact ⟨.slice (some ⟨w.heap.size + 1 + 1, 0, none⟩) 1 1, by (repeat (first | (refine cell_new ?_ rfl; simp; done) | refine cell_up ?_ _)), rs_one (by (repeat (first | (refine cell_new ?_ rfl; simp; done) | refine cell_up ?_ _))) (by (repeat (first | (refine cell_new ?_ rfl; simp; done) | refine cell_up ?_ _)))⟩
  · refine ⟨_, 3, rfl, Nat.le_refl _, .inr ⟨_, 0, rfl, fun j hj => ?_⟩⟩
    match j, hj with
    | 0, _ => exact ⟨.slice none 0 0, by (repeat (first | (refine cell_new ?_ rfl; simp; done) | refine cell_up ?_ _)), by (repeat (first | (refine cell_new ?_ rfl; simp; done) | refine cell_up ?_ _)), by (repeat (first | (refine cell_new ?_ rfl; simp; done) | refine cell_up ?_ _)), by (repeat (first | (refine cell_new ?_ rfl; simp; done) | refine cell_up ?_ _)), rs_nil _⟩
    | 1, _ => exact ⟨.slice none 0 0, by (repeat (first | (refine cell_new ?_ rfl; simp; done) | refine cell_up ?_ _)), by (repeat (first | (refine cell_new ?_ rfl; simp; done) | refine cell_up ?_ _)), by (repeat (first | (refine cell_new ?_ rfl; simp; done) | refine cell_up ?_ _)), by (repeat (first | (refine cell_new ?_ rfl; simp; done) | refine cell_up ?_ _)), rs_nil _⟩
    | 2, _ => exact ⟨.slice (some ⟨w.heap.size + 1 + 1 + 1 + 1, 0, none⟩) 1 1, by (repeat (first | (refine cell_new ?_ rfl; simp; done) | refine cell_up ?_ _)), by (repeat (first | (refine cell_new ?_ rfl; simp; done) | refine cell_up ?_ _)), by (repeat (first | (refine cell_new ?_ rfl; simp; done) | refine cell_up ?_ _)), by (repeat (first | (refine cell_new ?_ rfl; simp; done) | refine cell_up ?_ _)), rs_one (by (repeat (first | (refine cell_new ?_ rfl; simp; done) | refine cell_up ?_ _))) (by (repeat (first | (refine cell_new ?_ rfl; simp; done) | refine cell_up ?_ _)))⟩
theorem abc_chk : chk abcR = 0 := by decide +kernel
theorem abc_lay : layB abcR [98, 55] = true := by decide +kernel
theorem abc_outs : outs abcR [98, 55] = [120, 55, 121] := by decide +kernel
def zeroR : Rl := ⟨false, false, 0, [], [], [], []⟩
theorem zero_chk : chk zeroR = 70 := by decide +kernel
theorem two_ints {W : World} {g : Nat} {a b : Int} (h0 : W.cell? ⟨g, 0, none⟩ = some (.int .i64 a)) (h1 : W.cell? ⟨g, 1, none⟩ = some (.int .i64 b)) : IR W (.slice (some ⟨g, 0, none⟩) 2 2) [a, b] := by
  refine ⟨_, 2, rfl, Nat.le_refl _, .inr ⟨g, 0, rfl, fun j hj => ?_⟩⟩
  match j, hj with
  | 0, _ => exact h0
  | 1, _ => exact h1
theorem newI_cell {W : World} {base g n c : Nat} {l : List Int} (h : NewI W base (.slice (some ⟨g, 0, none⟩) n c) l) {j : Nat} {x : Int} (hx : l[j]? = some x) : W.cell? ⟨g, j, none⟩ = some (.int .i64 x) := by
  obtain ⟨g', e, _, h2⟩ := h
  cases e
  simp [World.cell?, h2, ints, hx]
set_option maxHeartbeats 4000000 in
theorem shown_any (w : World) (hT : Tab w) : Calls Tryd.prog 9 #[] w fun e w' => e = .returned (.bool true) ∧ Below w.heap.size w w' := by
  have HT : Hid (Tab w) := hT
  clear hT
  go_enter Tryd.func9, Tryd.ntmps9
  go_wp2_with fail
  refine (abc_any _).mono ?_
  rintro e w1 ⟨ka, kn, kc, ra, rn, rc, rfl, hR, hg1⟩
  have HR : Hid (RR w1 (.slice none 0 0) (.slice ka kn kc) (.slice none 0 0) (.slice ra rn rc) abcR) := hR
  clear hR
  have HC : Hid (∀ (ob : Obj), (w1.alloc ob).cell? ⟨w1.heap.size, 0, none⟩ = some (.int .i64 98) → (w1.alloc ob).cell? ⟨w1.heap.size, 1, none⟩ = some (.int .i64 55) → Calls Tryd.prog 21 #[.agg #[.bool false, .slice none 0 0, .slice ka kn kc, .slice none 0 0, .bool false, .slice ra rn rc, .int .i64 1], .slice (some ⟨w1.heap.size, 0, none⟩) 2 2] (w1.alloc ob) fun e w' => ∃ g1 g2, e = .returned (.tuple #[.slice (some ⟨g1, 0, none⟩) 1 1, .slice (some ⟨g2, 0, none⟩) 2 2]) ∧ w'.cell? ⟨g1, 0, none⟩ = some (.int .i64 120) ∧ w'.cell? ⟨g2, 0, none⟩ = some (.int .i64 55) ∧ w'.cell? ⟨g2, 1, none⟩ = some (.int .i64 121) ∧ Below w.heap.size w w') := fun ob c0 c1 => by
    have hg := hg1.alloc ob
    refine (lays_any abcR _ _ _ _ _ [98, 55] _ (HT.out.grown hg) (HR.out.grown ((Grown.refl _).alloc ob)) (two_ints c0 c1)).mono ?_
    rintro e w' ⟨v1, v2, rfl, hO, hb⟩
    rcases hO with ⟨h, _⟩ | ⟨_, h1, h2, _⟩
    · rw [abc_lay] at h; cases h
    · rw [abc_outs] at h1 h2
      have k1 := h1
      have k2 := h2
      obtain ⟨g1, rfl, _⟩ := h1
      obtain ⟨g2, rfl, _⟩ := h2
      exact ⟨g1, g2, rfl, newI_cell k1 rfl, newI_cell k2 rfl, newI_cell k2 rfl, hg.below.trans (hb.mono hg.size)⟩
  go_wp2_with fail
  refine (HC.out _ (by simp) (by simp)).mono ?_
  rintro e w2 ⟨g1, g2, rfl, c1, c2, c3, hb2⟩
  clear HR HC hg1
  go_wp2_with fail
  refine (abc_any _).mono ?_
  rintro e w3 ⟨ka', kn', kc', ra', rn', rc', rfl, hR, hg3⟩
  have d1 := hg3.cellv c1
  have d2 := hg3.cellv c2
  have d3 := hg3.cellv c3
  have hB3 := hb2.trans (hg3.below.mono hb2.size)
  have hC : Calls Tryd.prog 14 #[.agg #[.bool false, .slice none 0 0, .slice ka' kn' kc', .slice none 0 0, .bool false, .slice ra' rn' rc', .int .i64 1]] w3 fun e w' => e = .returned (.int .i64 0) ∧ Grown w3 w' := by
    have := check_any abcR _ _ _ _ w3 (HT.out.below hB3 HT.out.pos) hR
    rwa [abc_chk] at this
  have HC : Hid (Calls Tryd.prog 14 #[.agg #[.bool false, .slice none 0 0, .slice ka' kn' kc', .slice none 0 0, .bool false, .slice ra' rn' rc', .int .i64 1]] w3 fun e w' => e = .returned (.int .i64 0) ∧ Grown w3 w') := hC
  clear hC c1 c2 c3 hg3 hR hb2
  go_wp2_with fail
  refine HC.out.mono ?_
  rintro e w4 ⟨rfl, hg4⟩
  have c1 := hg4.cellv d1
  have c2 := hg4.cellv d2
  have c3 := hg4.cellv d3
  have hB4 := hB3.trans (hg4.below.mono hB3.size)
  have HZ : Hid (Calls Tryd.prog 14 #[.agg #[.bool false, .slice none 0 0, .slice none 0 0, .slice none 0 0, .bool false, .slice none 0 0, .int .i64 0]] w4 fun e w' => e = .returned (.int .i64 70) ∧ Grown w4 w') := by
    have := check_any zeroR (.slice none 0 0) (.slice none 0 0) (.slice none 0 0) (.slice none 0 0) w4 (HT.out.below hB4 HT.out.pos) ⟨sr_nil _, sr_nil _, sr_nil _, pr_nil _⟩
    rwa [zero_chk] at this
  clear HC d1 d2 d3 hg4
  go_wp2_with fail
  refine HZ.out.mono ?_
  rintro e w5 ⟨rfl, hg5⟩
  have d1 := hg5.cellv c1
  have d2 := hg5.cellv c2
  have d3 := hg5.cellv c3
  go_wp2
  go_ret
  exact ⟨rfl, hB4.trans (hg5.below.mono hB4.size)⟩
set_option maxHeartbeats 1000000 in
theorem names_any (w : World) (hT : Tab w) : Calls Tryd.prog 8 #[] w fun e w' => e = .returned (.bool true) ∧ Below w.heap.size w w' := by
  have HC := shown_any w hT
  go_enter Tryd.func8, Tryd.ntmps8
  go_wp2_with fail
  refine HC.mono ?_
  rintro e w1 ⟨rfl, hb⟩
  go_wp2
  go_ret
  exact ⟨rfl, hb⟩
end Go.Proofs
