/-
  What the texts that lend want ahead.
-/
import Derived.RangeFuncNested
import Derived.RangeFuncBound
import Derived.RangeFuncCalls
import Derived.RangeFuncLeaves
import Derived.Shelf.Abstract
import Derived.Shelf.RegionOpen
import Derived.WalkKit
import Derived.WalkSpells
import Derived.WalkLawsBesides
import Derived.OwnWalkIn
import Derived.TacticsInMore
import Derived.LoopNIn
import Derived.LoopIn
import Derived.BigQuiet
import Derived.RegionIn
import Derived.Deep.QuietTactic
import Derived.Deep.RegionWith
import Derived.Lib.OthersKept
import Derived.Maps.AppendAt
import Derived.Lib.SmallJoins
import Derived.Shelf.SlSortCmp.QuietGrown
import Derived.Test.YtpppcfppabghhaaDoorWe
import Derived.Test.YtpppcfppabghhaaDoorWd
import Derived.Test.YtpppcfppabghhaaDoorQc
namespace Go.Proofs
open Go.RowKit Go.Shelf

set_option maxRecDepth 100000
attribute [local go_sem] Oper.semAt_some
attribute [local go_sem ↓] Go.wp_at_zero Go.wp_at_succ
theorem cell_new {W : World} {cs : Array Value} {t : TypeId} {b j : Nat} {v : Value} (hb : b = W.heap.size) (hv : cs[j]? = some v) : (W.alloc (.cells cs t)).cell? ⟨b, j, none⟩ = some v := by
  subst hb
  simp only [World.cell?, heap_alloc_new]
  exact hv
theorem rs_oneT {W : World} {g : Nat} {a b : Int} (h0 : W.cell? ⟨g, 0, none⟩ = some (.int .i64 a)) (h1 : W.cell? ⟨g, 1, none⟩ = some (.int .i64 b)) : Rs W (.slice (some ⟨g, 0, none⟩) 1 1) [(a, b)] := by
  refine ⟨_, 1, rfl, Nat.le_refl _, .inr ⟨g, 0, rfl, fun j hj => ?_⟩⟩
  obtain rfl : j = 0 := by simpa using hj
  exact ⟨h0, h1⟩
theorem ret_rl {fn : Func} {p : Tmp} {W : World} {B : Nat} {tmps : Array Value} {bg en : Bool} {av kv pv rv : Value} {cu : Int} {Q : Ending → World → Prop} (hr : fn.results = #[.cell p 28]) (hp : tmps.getD p undef = .pointer (some ⟨B, 0, none⟩))
    (c0 : W.cell? ⟨B, 0, none⟩ = some (.bool bg)) (c1 : W.cell? ⟨B, 1, none⟩ = some av) (c2 : W.cell? ⟨B, 2, none⟩ = some kv) (c3 : W.cell? ⟨B, 3, none⟩ = some pv) (c4 : W.cell? ⟨B, 4, none⟩ = some (.bool en)) (c5 : W.cell? ⟨B, 5, none⟩ = some rv) (c6 : W.cell? ⟨B, 6, none⟩ = some (.int .i64 cu))
    (K : Q (.returned (.agg #[.bool bg, av, kv, pv, .bool en, rv, .int .i64 cu])) W) : bodyPost Tryd.prog fn Q Exit.ret { tmps := tmps, defers := [] } W := by
  refine bodyPost_ret (v := .agg #[.bool bg, av, kv, pv, .bool en, rv, .int .i64 cu]) ?_ rfl K
  rw [Array.getD_eq_getD_getElem?] at hp
  simp only [results, hr]
  simp [hp, go_sem, c0, c1, c2, c3, c4, c5, c6]
structure RC (W : World) (B : Nat) (bg : Bool) (av kv pv : Value) (en : Bool) (rv : Value) (cu : Int) : Prop where
  c0 : W.cell? ⟨B, 0, none⟩ = some (.bool bg)
  c1 : W.cell? ⟨B, 1, none⟩ = some av
  c2 : W.cell? ⟨B, 2, none⟩ = some kv
  c3 : W.cell? ⟨B, 3, none⟩ = some pv
  c4 : W.cell? ⟨B, 4, none⟩ = some (.bool en)
  c5 : W.cell? ⟨B, 5, none⟩ = some rv
  c6 : W.cell? ⟨B, 6, none⟩ = some (.int .i64 cu)
theorem RC.below {W W' : World} {B : Nat} {bg : Bool} {av kv pv : Value} {en : Bool} {rv : Value} {cu : Int} {n : Nat} (h : RC W B bg av kv pv en rv cu) (hb : Below n W W') (hn : W.heap.size ≤ n) : RC W' B bg av kv pv en rv cu :=
  ⟨cell_below h.c0 hb hn, cell_below h.c1 hb hn, cell_below h.c2 hb hn, cell_below h.c3 hb hn, cell_below h.c4 hb hn, cell_below h.c5 hb hn, cell_below h.c6 hb hn⟩
theorem rc_new (w : World) (bg : Bool) (av kv pv : Value) (en : Bool) (rv : Value) (cu : Int) : RC (w.alloc (.cells #[.bool bg, av, kv, pv, .bool en, rv, .int .i64 cu] 28)) w.heap.size bg av kv pv en rv cu :=
  ⟨cell_new rfl rfl, cell_new rfl rfl, cell_new rfl rfl, cell_new rfl rfl, cell_new rfl rfl, cell_new rfl rfl, cell_new rfl rfl⟩
theorem neq_R (a b c d : Int) (W : World) : (binOp .neq 59 (.agg #[.int .i64 a, .int .i64 b]) (.agg #[.int .i64 c, .int .i64 d])).run Tryd.prog W = .ok (.bool (!decide ((a, b) = (c, d)))) W := by
  go_simp
  by_cases h1 : a = c
  · by_cases h2 : b = d <;> simp [h1, h2]
  · simp [h1]
end Go.Proofs
