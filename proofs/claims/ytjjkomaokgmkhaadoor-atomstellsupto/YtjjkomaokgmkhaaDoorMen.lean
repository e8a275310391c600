/-
  The example is shown; the numbers.
-/
import Derived.RangeFuncNested
import Derived.RangeFuncBound
import Derived.RangeFuncCalls
import Derived.RangeFuncLeaves
import Derived.Shelf.Abstract
import Derived.Shelf.RegionOpen
import Derived.WalkKit
import Derived.WalkSpells
import Derived.WalkLawsBesides
import Derived.OwnWalkIn
import Derived.TacticsInMore
import Derived.LoopNIn
import Derived.LoopIn
import Derived.BigQuiet
import Derived.RegionIn
import Derived.Deep.QuietTactic
import Derived.Deep.RegionWith
import Derived.Lib.OthersKept
import Derived.Maps.AppendAt
import Derived.Lib.SmallJoins
import Derived.Shelf.SlSortCmp.QuietGrown
import Derived.Test.YtjjkomaokgmkhaaDoorMdn
namespace Go.Proofs
open Go.RowKit Go.Shelf

set_option maxRecDepth 100000
attribute [local go_sem] Oper.semAt_some
attribute [local go_sem ↓] Go.wp_at_zero Go.wp_at_succ

/-- the example's sets in memory -/
def exW (w : World) : World := (((w.alloc (.cells #[.int .i64 97, .int .i64 102] 29)).alloc (.cells #[.int .i64 99, .int .i64 112] 29)).alloc (.cells #[] 29)).alloc (.cells #[.slice (some ⟨w.heap.size, 0, none⟩) 1 1, .slice (some ⟨w.heap.size + 1, 0, none⟩) 1 1, .slice (some ⟨w.heap.size + 2, 0, none⟩) 0 0] 27)
theorem new_cell (w : World) {n j : Nat} {cs : Array Value} {t : TypeId} {v : Value} (hn : w.heap.size = n) (hv : cs[j]? = some v) : (w.alloc (.cells cs t)).cell? ⟨n, j, none⟩ = some v := by subst hn; exact heap_cellv (heap_alloc_new _ _) hv
theorem rs_two {w : World} {g : Nat} {a b : Int} (h1 : w.cell? ⟨g, 0, none⟩ = some (.int .i64 a)) (h2 : w.cell? ⟨g, 1, none⟩ = some (.int .i64 b)) : Rs w (.slice (some ⟨g, 0, none⟩) 1 1) [(a, b)] := ⟨_, 1, rfl, by simp, .inr ⟨g, 0, rfl, fun j hj => by
  have : j = 0 := by simp at hj; omega
  subst this
  exact ⟨h1, h2⟩⟩⟩
theorem ex_sr (w : World) : SR (exW w) (.slice (some ⟨w.heap.size + 3, 0, none⟩) 3 3) exS := by
  refine ⟨_, 3, rfl, by decide, .inr ⟨_, _, rfl, fun j hj => ?_⟩⟩
  match j, hj with
  | 0, _ => exact ⟨.slice (some ⟨w.heap.size, 0, none⟩) 1 1, new_cell _ (by simp) rfl, rs_two (cell_up (cell_up (cell_up (new_cell _ rfl rfl) _) _) _) (cell_up (cell_up (cell_up (new_cell _ rfl rfl) _) _) _)⟩
  | 1, _ => exact ⟨.slice (some ⟨w.heap.size + 1, 0, none⟩) 1 1, new_cell _ (by simp) rfl, rs_two (cell_up (cell_up (new_cell _ (by simp) rfl) _) _) (cell_up (cell_up (new_cell _ (by simp) rfl) _) _)⟩
  | 2, _ => exact ⟨.slice (some ⟨w.heap.size + 2, 0, none⟩) 0 0, new_cell _ (by simp) rfl, ⟨_, 0, rfl, Nat.le_refl _, .inl rfl⟩⟩
def noW (w : World) : World := (w.alloc (.cells #[.int .i64 102, .int .i64 97] 29)).alloc (.cells #[.slice (some ⟨w.heap.size, 0, none⟩) 1 1] 27)
theorem no_sr (w : World) : SR (noW w) (.slice (some ⟨w.heap.size + 1, 0, none⟩) 1 1) [[(102, 97)]] := by
  refine ⟨_, 1, rfl, by decide, .inr ⟨_, _, rfl, fun j hj => ?_⟩⟩
  have : j = 0 := by simp at hj; omega
  subst this
  exact ⟨.slice (some ⟨w.heap.size, 0, none⟩) 1 1, new_cell _ (by simp) rfl, rs_two (cell_up (new_cell _ rfl rfl) _) (cell_up (new_cell _ rfl rfl) _)⟩
theorem ex_new (w : World) (hT : Tab w) : Calls Tryd.prog 8 #[.slice (some ⟨w.heap.size + 3, 0, none⟩) 3 3] (exW w) fun e w' => ∃ B, e = .returned (.tuple #[.pointer (some ⟨B, 0, none⟩), .int .i64 0]) ∧ Hid (Below w.heap.size w w' ∧ Tab w' ∧ ∃ base LL L0 all s, Atm w' base B exS LL L0 all s) := by
  refine (new_any _ exS (exW w) ((((hT.up _).up _).up _).up _) (ex_sr w) (by decide) (fun _ => by decide)).mono ?_
  rintro e w' (⟨_, B, rfl, hq⟩ | ⟨⟨s, hs, hv⟩, _⟩)
  · obtain ⟨LL, L0, all, s, h1, h2⟩ := hq.out.atm (by decide)
    have hb : Below w.heap.size w (exW w) := ((((Below.refl _ w).alloc (Nat.le_refl _) _).alloc (by simp) _).alloc (by simp; omega) _).alloc (by simp; omega) _
    have hb2 := hb.trans (h2.mono hb.size)
    exact ⟨B, rfl, hb2, hT.below hb2 hT.pos, _, LL, L0, all, s, h1⟩
  · exfalso
    have : ∀ s ∈ exS, validB s = true := by decide
    rw [this s hs] at hv; cases hv
theorem no_new (w : World) (hT : Tab w) : Calls Tryd.prog 8 #[.slice (some ⟨w.heap.size + 1, 0, none⟩) 1 1] (noW w) fun e w' => e = .returned (.tuple #[.pointer none, .int .i64 20]) ∧ Grown w w' := by
  refine (new_any _ [[(102, 97)]] (noW w) ((hT.up _).up _) (no_sr w) (by decide) (fun _ => by decide)).mono ?_
  rintro e w' (⟨h, _⟩ | ⟨_, rfl, hg⟩)
  · exact absurd (h [(102, 97)] (by simp)) (by decide)
  · exact ⟨rfl, (((Grown.refl w).alloc _).alloc _).trans hg⟩
set_option maxHeartbeats 8000000 in
theorem shown_any (w : World) (hT : Tab w) : Calls Tryd.prog 6 #[] w fun e w' => e = .returned (.bool true) ∧ Below w.heap.size w w' := by
  have HN := Hid.mk' (ex_new w hT)
  have HB0 : Hid (Tab w) := hT
  clear hT
  go_enter Tryd.func6, Tryd.ntmps6
  go_wp2_with fail
  refine HN.out.mono ?_
  rintro e w1 ⟨B, rfl, HQ⟩
  obtain ⟨hb1, hT1, base, LL, L0, all, s, ha⟩ := HQ.out
  have HN2 := Hid.mk' (no_new w1 hT1)
  have HB1 := Hid.mk' hb1
  have HA := Hid.mk' ha
  clear hb1 hT1 ha HN HQ
  go_wp2_with fail
  refine HN2.out.mono ?_
  rintro e w2 ⟨rfl, hg2⟩
  have ha2 := HA.out.grown hg2
  obtain ⟨e1, e2⟩ := ha2.ex
  obtain ⟨v1, v2, v3, v4, v5, v6, v7⟩ := ex_vals
  obtain ⟨l, ⟨l1, l2, _⟩, hset⟩ := ha2.set (k := 2) (by omega)
  have hl : l = [(99, 102)] := by
    obtain ⟨l', m1, m2, m3⟩ := ex_done.span (k := 2) (by rw [v1]; decide)
    rw [v5] at m1
    injection m1 with m1
    rw [m1]
    exact l1.unique m2 fun u => by rw [l2, m3, e2]
  subst hl
  have HSET : Hid (Calls Tryd.prog 15 #[.pointer (some ⟨B, 0, none⟩), .int .i64 2] w2 fun e w' => ∃ v, e = .returned (.tuple #[v, .bool true]) ∧ OwnR w' w2.heap.size v [(99, 102)] ∧ Below w2.heap.size w2 w') := hset
  have HB2 : Hid (Below w.heap.size w w2) := HB1.out.trans (hg2.below.mono HB1.out.size)
  have HA2 := Hid.mk' ha2
  clear hg2 ha2 e1 e2 v1 v2 v3 v4 v5 v6 v7 l1 l2 hset HA HB1 HN2
  go_wp2_with (go_at_call 15; refine HSET.out.mono ?_; rintro e w3 ⟨v, rfl, h1, h2⟩; have HV := Hid.mk' (And.intro h1 h2); obtain ⟨va, vc, hve⟩ := own_len h1; subst hve; clear h1 h2)
  obtain ⟨hv1, hv2⟩ := HV.out
  obtain ⟨g, hva, hrd⟩ : ∃ g, va = some ⟨g, 0, none⟩ ∧ Reads w3 g 0 [(99, 102)] := by
    rcases hv1.2 with ⟨e, _⟩ | ⟨g, cap, cur, e, _⟩
    · cases e
    · injection e with e1 _ _
      subst e1
      exact ⟨g, rfl, OwnR.reads hv1⟩
  subst hva
  have HCL : Hid (∀ W, Grown w3 W → W.cell? ⟨g, 0, none⟩ = some (.int .i64 99) ∧ W.cell? ⟨g, 1, none⟩ = some (.int .i64 102)) := fun W hW => ⟨hW.cellv (hrd 0 (by simp)).1, hW.cellv (hrd 0 (by simp)).2⟩
  have ha3 : Atm w3 base B exS LL L0 all s := HA2.out.below hv2 (Nat.le_refl _)
  obtain ⟨e1, e2⟩ := ha3.ex
  obtain ⟨v1, v2, v3, v4, v5, v6, v7⟩ := ex_vals
  have HLN : Hid (∀ W, Grown w3 W → Calls Tryd.prog 11 #[.pointer (some ⟨B, 0, none⟩)] W fun e w' => e = .returned (.int .i64 4) ∧ Grown W w') := fun W hW => by
    refine (ha3.grown hW).len.mono ?_
    rintro e w' ⟨rfl, rfl⟩
    exact ⟨by rw [e1]; rfl, Grown.refl _⟩
  have HOF : ∀ (u z : Int), ofP exF.st exF.bg u = z → Hid (∀ W, Grown w3 W → Calls Tryd.prog 13 #[.pointer (some ⟨B, 0, none⟩), .int .i64 u] W fun e w' => e = .returned (.int .i64 z) ∧ Grown W w') := fun u z hz W hW => by
    have := (ha3.grown hW).of u
    rw [e2, hz] at this
    exact this
  have HO1 := HOF 97 1 v2
  have HO2 := HOF 113 0 v3
  have HO3 := HOF 55296 (-1) v4
  have HI1 : Hid (∀ W, Grown w3 W → Calls Tryd.prog 17 #[.pointer (some ⟨B, 0, none⟩), .int .i64 2, .int .i64 1] W fun e w' => e = .returned (.bool true) ∧ Grown W w') := fun W hW => by
    obtain ⟨b, hb, hc⟩ := (ha3.grown hW).inyes (u := 99) (k := 2) (m := 1) (by rw [e2]; exact v6) (by decide)
    have : b = true := hb.2 ⟨(99, 112), by simp [exS], by decide, by decide⟩
    subst this
    exact hc
  have HI2 : Hid (∀ W, Grown w3 W → Calls Tryd.prog 17 #[.pointer (some ⟨B, 0, none⟩), .int .i64 3, .int .i64 0] W fun e w' => e = .returned (.bool false) ∧ Grown W w') := fun W hW => by
    obtain ⟨b, hb, hc⟩ := (ha3.grown hW).inyes (u := 103) (k := 3) (m := 0) (by rw [e2]; exact v7) (by decide)
    have : b = false := by
      cases b with
      | false => rfl
      | true =>
        obtain ⟨x, hx, x1, x2⟩ := hb.1 rfl
        simp [exS] at hx
        subst hx
        simp at x2
    subst this
    exact hc
  have HG := Hid.mk' (Grown.refl w3)
  have HB3 : Hid (Below w.heap.size w w3) := HB2.out.trans (hv2.mono HB2.out.size)
  clear hv1 hv2 hrd ha3 e1 e2 v1 v2 v3 v4 v5 v6 v7 HOF HV HA2 HB2 HSET
  refine (HLN.out _ HG.out).mono ?_
  rintro e w4 ⟨rfl, hg⟩
  have HG := Hid.mk' (HG.out.trans hg)
  clear hg
  go_wp2_with fail
  refine (HO1.out _ HG.out).mono ?_
  rintro e w5 ⟨rfl, hg⟩
  have HG := Hid.mk' (HG.out.trans hg)
  clear hg
  go_wp2_with fail
  refine (HO2.out _ HG.out).mono ?_
  rintro e w6 ⟨rfl, hg⟩
  have HG := Hid.mk' (HG.out.trans hg)
  clear hg
  go_wp2_with fail
  refine (HO3.out _ HG.out).mono ?_
  rintro e w7 ⟨rfl, hg⟩
  have HG := Hid.mk' (HG.out.trans hg)
  obtain ⟨cg0, cg1⟩ := HCL.out w7 HG.out
  clear hg
  go_wp2_with fail
  refine (HI1.out _ HG.out).mono ?_
  rintro e w8 ⟨rfl, hg⟩
  have HG := Hid.mk' (HG.out.trans hg)
  clear hg
  go_wp2_with fail
  refine (HI2.out _ HG.out).mono ?_
  rintro e w9 ⟨rfl, hg⟩
  have HG := Hid.mk' (HG.out.trans hg)
  clear hg
  go_wp2
  go_ret
  exact ⟨rfl, HB3.out.trans (HG.out.below.mono HB3.out.size)⟩
theorem numbers_any (w : World) (hT : Tab w) : Calls Tryd.prog 5 #[] w fun e w' => e = .returned (.bool true) ∧ Below w.heap.size w w' := by
  have HS := Hid.mk' (shown_any w hT)
  clear hT
  go_enter Tryd.func5, Tryd.ntmps5
  go_wp2_with (go_at_call 6; refine HS.out.mono ?_; rintro e w1 ⟨rfl, hb⟩; have HB := Hid.mk' hb; clear hb)
  go_ret
  exact ⟨rfl, HB.out⟩
end Go.Proofs
