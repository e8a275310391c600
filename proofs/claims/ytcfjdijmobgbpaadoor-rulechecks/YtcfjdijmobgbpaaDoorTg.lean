/-
  Rules that were lent are as they were.
-/
import Derived.RangeFuncNested
import Derived.RangeFuncBound
import Derived.RangeFuncCalls
import Derived.RangeFuncLeaves
import Derived.Shelf.Abstract
import Derived.Shelf.RegionOpen
import Derived.WalkKit
import Derived.WalkSpells
import Derived.WalkLawsBesides
import Derived.OwnWalkIn
import Derived.TacticsInMore
import Derived.LoopNIn
import Derived.LoopIn
import Derived.BigQuiet
import Derived.RegionIn
import Derived.Deep.QuietTactic
import Derived.Deep.RegionWith
import Derived.Lib.OthersKept
import Derived.Maps.AppendAt
import Derived.Lib.SmallJoins
import Derived.Shelf.SlSortCmp.QuietGrown
import Derived.Test.YtcfjdijmobgbpaaDoorTf
namespace Go.Proofs
open Go.RowKit Go.Shelf

set_option maxRecDepth 100000
attribute [local go_sem] Oper.semAt_some
attribute [local go_sem ↓] Go.wp_at_zero Go.wp_at_succ
/-- a lent rule and the one that it was made of, in two blocks -/
structure R4 (w : World) (base : Nat) (r : Rl) (oa ok op orr av kv pv rv : Value) (sa sk sp tv : List Value) (W : World) : Prop where
  g : Grown w W
  l : LRl W base oa ok op orr av kv pv rv sa sk sp tv r
  v : RRv W av kv pv rv sa sk sp tv r
  ca : RC W w.heap.size r.bg oa ok op r.en orr r.cu
  cb : RC W (w.heap.size + 1) r.bg av kv pv r.en rv r.cu
theorem R4.grown {w : World} {base : Nat} {r : Rl} {oa ok op orr av kv pv rv : Value} {sa sk sp tv : List Value} {W W' : World} (h : R4 w base r oa ok op orr av kv pv rv sa sk sp tv W) (k : Grown W W') : R4 w base r oa ok op orr av kv pv rv sa sk sp tv W' :=
  ⟨h.g.trans k, h.l.grown k, h.v.grown k, h.ca.below k.below (Nat.le_refl _), h.cb.below k.below (Nat.le_refl _)⟩
theorem r4_start {w : World} {base : Nat} {r : Rl} {oa ok op orr av kv pv rv : Value} {sa sk sp tv : List Value} (hl : LRl w base oa ok op orr av kv pv rv sa sk sp tv r) (hv : RRv w av kv pv rv sa sk sp tv r) :
    R4 w base r oa ok op orr av kv pv rv sa sk sp tv ((w.alloc (.cells #[.bool r.bg, oa, ok, op, .bool r.en, orr, .int .i64 r.cu] 25)).alloc (.cells #[.bool r.bg, av, kv, pv, .bool r.en, rv, .int .i64 r.cu] 25)) := by
  have hg := ((Grown.refl w).alloc (.cells #[.bool r.bg, oa, ok, op, .bool r.en, orr, .int .i64 r.cu] 25)).alloc (.cells #[.bool r.bg, av, kv, pv, .bool r.en, rv, .int .i64 r.cu] 25)
  refine ⟨hg, hl.grown hg, hv.grown hg, (rc_new w _ _ _ _ _ _ _).below ((Grown.refl _).alloc _).below (Nat.le_refl _), ?_⟩
  have := rc_new (w.alloc (.cells #[.bool r.bg, oa, ok, op, .bool r.en, orr, .int .i64 r.cu] 25)) r.bg av kv pv r.en rv r.cu
  simpa using this
set_option maxHeartbeats 8000000 in
theorem stillRule_any (r : Rl) (base : Nat) (oa ok op orr av kv pv rv : Value) (sa sk sp tv : List Value) (w : World) (hl : LRl w base oa ok op orr av kv pv rv sa sk sp tv r) (hv : RRv w av kv pv rv sa sk sp tv r) (hs : Sm r) :
    Calls Tryd.prog 16 #[.agg #[.bool r.bg, oa, ok, op, .bool r.en, orr, .int .i64 r.cu], .agg #[.bool r.bg, av, kv, pv, .bool r.en, rv, .int .i64 r.cu]] w fun e w' => e = .returned (.bool true) ∧ Grown w w' := by
  have P0 : Hid (R4 w base r oa ok op orr av kv pv rv sa sk sp tv ((w.alloc (.cells #[.bool r.bg, oa, ok, op, .bool r.en, orr, .int .i64 r.cu] 25)).alloc (.cells #[.bool r.bg, av, kv, pv, .bool r.en, rv, .int .i64 r.cu] 25))) := r4_start hl hv
  have C1 : Hid (∀ W, Hid (R4 w base r oa ok op orr av kv pv rv sa sk sp tv W) → Calls Tryd.prog 35 #[oa, av] W fun e w' => e = .returned (.bool true) ∧ Hid (R4 w base r oa ok op orr av kv pv rv sa sk sp tv w')) := fun W p => (stillRow_any oa av base sa _ W p.out.l.a p.out.v.a hs.na hs.sa).mono fun e w' ⟨h1, h2⟩ => ⟨h1, p.out.grown h2⟩
  have C2 : Hid (∀ W, Hid (R4 w base r oa ok op orr av kv pv rv sa sk sp tv W) → Calls Tryd.prog 35 #[ok, kv] W fun e w' => e = .returned (.bool true) ∧ Hid (R4 w base r oa ok op orr av kv pv rv sa sk sp tv w')) := fun W p => (stillRow_any ok kv base sk _ W p.out.l.k p.out.v.k hs.nk hs.sk).mono fun e w' ⟨h1, h2⟩ => ⟨h1, p.out.grown h2⟩
  have C3 : Hid (∀ W, Hid (R4 w base r oa ok op orr av kv pv rv sa sk sp tv W) → Calls Tryd.prog 35 #[op, pv] W fun e w' => e = .returned (.bool true) ∧ Hid (R4 w base r oa ok op orr av kv pv rv sa sk sp tv w')) := fun W p => (stillRow_any op pv base sp _ W p.out.l.p p.out.v.p hs.np hs.sp).mono fun e w' ⟨h1, h2⟩ => ⟨h1, p.out.grown h2⟩
  have C4 : Hid (∀ W, Hid (R4 w base r oa ok op orr av kv pv rv sa sk sp tv W) → Calls Tryd.prog 36 #[orr, rv] W fun e w' => e = .returned (.bool true) ∧ Hid (R4 w base r oa ok op orr av kv pv rv sa sk sp tv w')) := fun W p => (stillPieces_any orr rv base tv _ W p.out.l.r p.out.v.r hs.nr hs.sr).mono fun e w' ⟨h1, h2⟩ => ⟨h1, p.out.grown h2⟩
  obtain ⟨aa1, aa2, aa3, rfl⟩ := hl.a.sl
  obtain ⟨ak1, ak2, ak3, rfl⟩ := hl.k.sl
  obtain ⟨ap1, ap2, ap3, rfl⟩ := hl.p.sl
  obtain ⟨ar1, ar2, ar3, rfl⟩ := hl.r.sl
  obtain ⟨ba1, ba2, ba3, rfl⟩ := hv.rr.a.sl
  obtain ⟨bk1, bk2, bk3, rfl⟩ := hv.rr.k.sl
  obtain ⟨bp1, bp2, bp3, rfl⟩ := hv.rr.p.sl
  obtain ⟨br1, br2, br3, rfl⟩ := hv.rr.r.sl
  clear hl hv hs
  go_enter Tryd.func16, Tryd.ntmps16
  go_wp2_with fail
  refine (C1.out _ P0).mono ?_
  rintro e w1 ⟨rfl, P1⟩
  clear P0
  obtain ⟨x0, x1, x2, x3, x4, x5, x6⟩ := P1.out.ca
  obtain ⟨y0, y1, y2, y3, y4, y5, y6⟩ := P1.out.cb
  go_wp2_with fail
  refine (C2.out _ P1).mono ?_
  rintro e w2 ⟨rfl, P2⟩
  clear x0 x1 x2 x3 x4 x5 x6 y0 y1 y2 y3 y4 y5 y6
  clear P1
  obtain ⟨x0, x1, x2, x3, x4, x5, x6⟩ := P2.out.ca
  obtain ⟨y0, y1, y2, y3, y4, y5, y6⟩ := P2.out.cb
  go_wp2_with fail
  refine (C3.out _ P2).mono ?_
  rintro e w3 ⟨rfl, P3⟩
  clear x0 x1 x2 x3 x4 x5 x6 y0 y1 y2 y3 y4 y5 y6
  clear P2
  obtain ⟨x0, x1, x2, x3, x4, x5, x6⟩ := P3.out.ca
  obtain ⟨y0, y1, y2, y3, y4, y5, y6⟩ := P3.out.cb
  go_wp2_with fail
  refine (C4.out _ P3).mono ?_
  rintro e w4 ⟨rfl, P4⟩
  clear x0 x1 x2 x3 x4 x5 x6 y0 y1 y2 y3 y4 y5 y6
  clear P3
  go_wp2
  go_ret
  exact ⟨rfl, P4.out.g⟩
end Go.Proofs
