/-
  Rules that are lent.
-/
import Derived.RangeFuncNested
import Derived.RangeFuncBound
import Derived.RangeFuncCalls
import Derived.RangeFuncLeaves
import Derived.Shelf.Abstract
import Derived.Shelf.RegionOpen
import Derived.WalkKit
import Derived.WalkSpells
import Derived.WalkLawsBesides
import Derived.OwnWalkIn
import Derived.TacticsInMore
import Derived.LoopNIn
import Derived.LoopIn
import Derived.BigQuiet
import Derived.RegionIn
import Derived.Deep.QuietTactic
import Derived.Deep.RegionWith
import Derived.Lib.OthersKept
import Derived.Maps.AppendAt
import Derived.Lib.SmallJoins
import Derived.Shelf.SlSortCmp.QuietGrown
import Derived.Test.YtcfjdijmobgbpaaDoorTe
import Derived.Test.YtcfjdijmobgbpaaDoorZc
namespace Go.Proofs
open Go.RowKit Go.Shelf

set_option maxRecDepth 100000
attribute [local go_sem] Oper.semAt_some
attribute [local go_sem ↓] Go.wp_at_zero Go.wp_at_succ
/-- a rule that came in, value by value -/
structure RRv (w : World) (av kv pv rv : Value) (sa sk sp tv : List Value) (r : Rl) : Prop where
  a : SRv w av sa r.ante
  k : SRv w kv sk r.key
  p : SRv w pv sp r.post
  r : PRv w rv tv r.res
theorem RRv.below {w w' : World} {n : Nat} {av kv pv rv : Value} {sa sk sp tv : List Value} {r : Rl} (h : RRv w av kv pv rv sa sk sp tv r) (hb : Below n w w') (hn : w.heap.size ≤ n) : RRv w' av kv pv rv sa sk sp tv r := ⟨h.a.below hb hn, h.k.below hb hn, h.p.below hb hn, h.r.below hb hn⟩
theorem RRv.grown {w w' : World} {av kv pv rv : Value} {sa sk sp tv : List Value} {r : Rl} (h : RRv w av kv pv rv sa sk sp tv r) (k : Grown w w') : RRv w' av kv pv rv sa sk sp tv r := h.below k.below (Nat.le_refl _)
theorem RRv.rr {w : World} {av kv pv rv : Value} {sa sk sp tv : List Value} {r : Rl} (h : RRv w av kv pv rv sa sk sp tv r) : RR w av kv pv rv r := ⟨h.a.sr, h.k.sr, h.p.sr, h.r.pr⟩
/-- a rule that was lent -/
structure LRl (W : World) (base : Nat) (oa ok op orr av kv pv rv : Value) (sa sk sp tv : List Value) (r : Rl) : Prop where
  a : LR W base oa av sa r.ante
  k : LR W base ok kv sk r.key
  p : LR W base op pv sp r.post
  r : LP W base orr rv tv r.res
section
variable {W W' : World} {base n : Nat} {oa ok op orr av kv pv rv : Value} {sa sk sp tv : List Value} {r : Rl}
theorem LRl.below (h : LRl W base oa ok op orr av kv pv rv sa sk sp tv r) (hb : Below n W W') (hn : W.heap.size ≤ n) : LRl W' base oa ok op orr av kv pv rv sa sk sp tv r := ⟨h.a.below hb hn, h.k.below hb hn, h.p.below hb hn, h.r.below hb hn⟩
theorem LRl.grown (h : LRl W base oa ok op orr av kv pv rv sa sk sp tv r) (k : Grown W W') : LRl W' base oa ok op orr av kv pv rv sa sk sp tv r := h.below k.below (Nat.le_refl _)
theorem LRl.le {base' : Nat} (h : LRl W base oa ok op orr av kv pv rv sa sk sp tv r) (hb : base' ≤ base) : LRl W base' oa ok op orr av kv pv rv sa sk sp tv r := ⟨h.a.le hb, h.k.le hb, h.p.le hb, h.r.le hb⟩
theorem LRl.rr {w : World} (h : LRl W base oa ok op orr av kv pv rv sa sk sp tv r) (hv : RRv w av kv pv rv sa sk sp tv r) : RR W oa ok op orr r := ⟨h.a.sr hv.a.len, h.k.sr hv.k.len, h.p.sr hv.p.len, h.r.pr hv.r.len⟩
end
/-- what lies from a block on stays -/
def Above (base : Nat) (W W' : World) : Prop := ∀ b, base ≤ b → W'.heap[b]? = W.heap[b]?
theorem above_set {W : World} {B j base : Nat} {u : Value} (h : B < base) : Above base W (W.setCell ⟨B, j, none⟩ u) := fun b hb => by
  show (W.heap.modify B _)[b]? = _
  rw [Array.getElem?_modify, if_neg (by omega)]
theorem ownsRow_above {W W' : World} {base : Nat} {e : TypeId} {size m : Nat} {v : Value} {xs : List Value} (h : W.ownsRow base e size v m xs) (k : Above base W W') : W'.ownsRow base e size v m xs := by
  refine ⟨h.1, ?_⟩
  rcases h.2 with h | ⟨g, cap, cur, e1, h1, h2, h3⟩
  · exact .inl h
  · exact .inr ⟨g, cap, cur, e1, h1, (k g h1).trans h2, h3⟩
theorem LS.above {W W' : World} {base : Nat} {ov sv : Value} {l : List (Int × Int)} (h : LS W base ov sv l) (k : Above base W W') : LS W' base ov sv l := by
  rcases h with h | ⟨h1, g, cap, h2, h3, h4⟩
  · exact .inl h
  · exact .inr ⟨h1, g, cap, h2, h3, ownsRow_above h4 k⟩
theorem LR.above {W W' : World} {base : Nat} {ov v : Value} {svs : List Value} {ls : List (List (Int × Int))} (h : LR W base ov v svs ls) (k : Above base W W') : LR W' base ov v svs ls := by
  rcases h with h | ⟨h1, g, cap, ovs, gm, h2, h3, h4, h5, h6, hgm, h7⟩
  · exact .inl h
  · refine .inr ⟨h1, g, cap, ovs, gm, h2, h3, h4, ownsRow_above h5 k, ?_, hgm, fun j a b c => (h7 j a b c).above k⟩
    have := k gm hgm
    simp only [World.cell?] at h6 ⊢
    rw [this]
    exact h6
theorem LP.above {W W' : World} {base : Nat} {ov v : Value} {tvs : List Value} {ps : List Pc} (h : LP W base ov v tvs ps) (k : Above base W W') : LP W' base ov v tvs ps := by
  rcases h with h | ⟨h1, g, cap, es, h2, h3, h4, h5, h6⟩
  · exact .inl h
  · exact .inr ⟨h1, g, cap, es, h2, h3, h4, ownsRow_above h5 k, fun j a b => (h6 j a b).above k⟩
theorem LRl.above {W W' : World} {base : Nat} {oa ok op orr av kv pv rv : Value} {sa sk sp tv : List Value} {r : Rl} (h : LRl W base oa ok op orr av kv pv rv sa sk sp tv r) (k : Above base W W') : LRl W' base oa ok op orr av kv pv rv sa sk sp tv r := ⟨h.a.above k, h.k.above k, h.p.above k, h.r.above k⟩
/-- the two blocks of lentRule -/
structure R3 (w : World) (bg en : Bool) (cu : Int) (x1 x2 x3 x5 : Value) (W : World) : Prop where
  bel : Below w.heap.size w W
  b1 : W.heap[w.heap.size]? = some (.cells #[.bool bg, x1, x2, x3, .bool en, x5, .int .i64 cu] 25 (0, 0))
  b2 : W.heap[w.heap.size + 1]? = some (.cells #[.bool false, .slice none 0 0, .slice none 0 0, .slice none 0 0, .bool false, .slice none 0 0, .int .i64 0] 25 (0, 0))
section
variable {w W W' : World} {bg en : Bool} {cu : Int} {x1 x2 x3 x5 : Value}
theorem set_other {W : World} {B b j : Nat} {u : Value} {o : Obj} (h : W.heap[b]? = some o) (hne : B ≠ b) : (W.setCell ⟨B, j, none⟩ u).heap[b]? = some o := by
  show (W.heap.modify B _)[b]? = _
  rw [Array.getElem?_modify, if_neg hne]
  exact h
theorem R3.call (h : R3 w bg en cu x1 x2 x3 x5 W) (hb : Below W.heap.size W W') : R3 w bg en cu x1 x2 x3 x5 W' :=
  ⟨h.bel.trans (hb.mono h.bel.size), (hb.block _ (Array.getElem?_eq_some_iff.1 h.b1).1).trans h.b1, (hb.block _ (Array.getElem?_eq_some_iff.1 h.b2).1).trans h.b2⟩
theorem R3.cells (h : R3 w bg en cu x1 x2 x3 x5 W) : RC W w.heap.size bg x1 x2 x3 en x5 cu := by constructor <;> simp [World.cell?, h.b1]
theorem R3.frozen (h : R3 w bg en cu x1 x2 x3 x5 W) (j : Nat) : W.frozen? ⟨w.heap.size, j, none⟩ = false := by simp [World.frozen?, h.b1]
theorem R3.set1 (h : R3 w bg en cu x1 x2 x3 x5 W) (x : Value) : R3 w bg en cu x x2 x3 x5 (W.setCell ⟨w.heap.size, 1, none⟩ x) :=
  ⟨h.bel.setCell (p := ⟨w.heap.size, 1, none⟩) (Nat.le_refl _) _, by simpa using cells_setS (j := 1) (u := x) h.b1, set_other h.b2 (by omega)⟩
theorem R3.set2 (h : R3 w bg en cu x1 x2 x3 x5 W) (x : Value) : R3 w bg en cu x1 x x3 x5 (W.setCell ⟨w.heap.size, 2, none⟩ x) :=
  ⟨h.bel.setCell (p := ⟨w.heap.size, 2, none⟩) (Nat.le_refl _) _, by simpa using cells_setS (j := 2) (u := x) h.b1, set_other h.b2 (by omega)⟩
theorem R3.set3 (h : R3 w bg en cu x1 x2 x3 x5 W) (x : Value) : R3 w bg en cu x1 x2 x x5 (W.setCell ⟨w.heap.size, 3, none⟩ x) :=
  ⟨h.bel.setCell (p := ⟨w.heap.size, 3, none⟩) (Nat.le_refl _) _, by simpa using cells_setS (j := 3) (u := x) h.b1, set_other h.b2 (by omega)⟩
theorem R3.set5 (h : R3 w bg en cu x1 x2 x3 x5 W) (x : Value) : R3 w bg en cu x1 x2 x3 x (W.setCell ⟨w.heap.size, 5, none⟩ x) :=
  ⟨h.bel.setCell (p := ⟨w.heap.size, 5, none⟩) (Nat.le_refl _) _, by simpa using cells_setS (j := 5) (u := x) h.b1, set_other h.b2 (by omega)⟩
end
theorem r3_start (w : World) (bg en : Bool) (cu : Int) (x1 x2 x3 x5 : Value) : R3 w bg en cu x1 x2 x3 x5 ((w.alloc (.cells #[.bool bg, x1, x2, x3, .bool en, x5, .int .i64 cu] 25)).alloc (.cells #[.bool false, .slice none 0 0, .slice none 0 0, .slice none 0 0, .bool false, .slice none 0 0, .int .i64 0] 25)) := by
  refine ⟨(((Grown.refl w).alloc _).alloc _).below, ?_, ?_⟩
  · exact (((Below.refl _ (w.alloc (.cells #[.bool bg, x1, x2, x3, .bool en, x5, .int .i64 cu] 25))).alloc (Nat.le_refl _) _).block _ (by simp)).trans (heap_alloc_new w _)
  · have := heap_alloc_new (w.alloc (.cells #[.bool bg, x1, x2, x3, .bool en, x5, .int .i64 cu] 25)) (.cells #[.bool false, .slice none 0 0, .slice none 0 0, .slice none 0 0, .bool false, .slice none 0 0, .int .i64 0] 25)
    rw [World.size_alloc] at this
    exact this
/-- how great a rule is that may be lent -/
structure Sm (r : Rl) : Prop where
  na : r.ante.length ≤ 1048576
  sa : ∀ l ∈ r.ante, l.length ≤ 1048576
  nk : r.key.length ≤ 1048576
  sk : ∀ l ∈ r.key, l.length ≤ 1048576
  np : r.post.length ≤ 1048576
  sp : ∀ l ∈ r.post, l.length ≤ 1048576
  nr : r.res.length ≤ 1048576
  sr : ∀ p ∈ r.res, p.tl.length ≤ 1048576
set_option maxHeartbeats 8000000 in
theorem lentRule_any (r : Rl) (av kv pv rv : Value) (sa sk sp tv : List Value) (w : World) (hr : RRv w av kv pv rv sa sk sp tv r) (hs : Sm r) :
    Calls Tryd.prog 10 #[.agg #[.bool r.bg, av, kv, pv, .bool r.en, rv, .int .i64 r.cu]] w fun e w' => ∃ oa ok op orr, e = .returned (.agg #[.bool r.bg, oa, ok, op, .bool r.en, orr, .int .i64 r.cu]) ∧ LRl w' w.heap.size oa ok op orr av kv pv rv sa sk sp tv r ∧ Below w.heap.size w w' := by
  have HA : Hid (∀ W, Below w.heap.size w W → Calls Tryd.prog 29 #[av] W fun e w' => ∃ ov, e = .returned ov ∧ LR w' W.heap.size ov av sa r.ante ∧ Below W.heap.size W w') := fun W hW => lentRow_any av sa r.ante W (hr.a.below hW (Nat.le_refl _)) hs.na hs.sa
  have HK : Hid (∀ W, Below w.heap.size w W → Calls Tryd.prog 29 #[kv] W fun e w' => ∃ ov, e = .returned ov ∧ LR w' W.heap.size ov kv sk r.key ∧ Below W.heap.size W w') := fun W hW => lentRow_any kv sk r.key W (hr.k.below hW (Nat.le_refl _)) hs.nk hs.sk
  have HP : Hid (∀ W, Below w.heap.size w W → Calls Tryd.prog 29 #[pv] W fun e w' => ∃ ov, e = .returned ov ∧ LR w' W.heap.size ov pv sp r.post ∧ Below W.heap.size W w') := fun W hW => lentRow_any pv sp r.post W (hr.p.below hW (Nat.le_refl _)) hs.np hs.sp
  have HR : Hid (∀ W, Below w.heap.size w W → Calls Tryd.prog 30 #[rv] W fun e w' => ∃ ov, e = .returned ov ∧ LP w' W.heap.size ov rv tv r.res ∧ Below W.heap.size W w') := fun W hW => lentPieces_any rv tv r.res W (hr.r.below hW (Nat.le_refl _)) hs.nr hs.sr
  obtain ⟨aa, an, ac, rfl⟩ := hr.rr.a.sl
  obtain ⟨ka, kn, kc, rfl⟩ := hr.rr.k.sl
  obtain ⟨pa, pn, pc, rfl⟩ := hr.rr.p.sl
  obtain ⟨ra, rn, rc, rfl⟩ := hr.rr.r.sl
  have P0 : Hid (R3 w r.bg r.en r.cu (.slice aa an ac) (.slice ka kn kc) (.slice pa pn pc) (.slice ra rn rc) _) := r3_start w r.bg r.en r.cu (.slice aa an ac) (.slice ka kn kc) (.slice pa pn pc) (.slice ra rn rc)
  clear hr hs
  go_enter Tryd.func10, Tryd.ntmps10
  go_wp2_with fail
  refine (HA.out _ P0.out.bel).mono ?_
  rintro e w1 ⟨oa, rfl, hLa, hb1⟩
  obtain ⟨oa1, oa2, oa3, rfl⟩ := hLa.sl
  have LA1 : Hid (LR w1 (w.heap.size + 2) (.slice oa1 oa2 oa3) (.slice aa an ac) sa r.ante) := hLa.le (by simp)
  have P1 : Hid (R3 w r.bg r.en r.cu (.slice aa an ac) (.slice ka kn kc) (.slice pa pn pc) (.slice ra rn rc) w1) := P0.out.call hb1
  clear hLa hb1 P0
  have c1 := P1.out.cells.c1
  have f1 := P1.out.frozen 1
  have Q1 : Hid (R3 w r.bg r.en r.cu (.slice oa1 oa2 oa3) (.slice ka kn kc) (.slice pa pn pc) (.slice ra rn rc) (w1.setCell ⟨w.heap.size, 1, none⟩ (.slice oa1 oa2 oa3))) := P1.out.set1 _
  have LA2 : Hid (LR (w1.setCell ⟨w.heap.size, 1, none⟩ (.slice oa1 oa2 oa3)) (w.heap.size + 2) (.slice oa1 oa2 oa3) (.slice aa an ac) sa r.ante) := LA1.out.above (above_set (by omega))
  have d2 := Q1.out.cells.c2
  clear P1 LA1
  go_wp2_with fail
  refine (HK.out _ Q1.out.bel).mono ?_
  rintro e w2 ⟨ok, rfl, hL, hb⟩
  obtain ⟨ok1, ok2, ok3, rfl⟩ := hL.sl
  have N1 : Hid (LR w2 (w.heap.size + 2) (.slice ok1 ok2 ok3) (.slice ka kn kc) sk r.key) := hL.le (by have := (Array.getElem?_eq_some_iff.1 Q1.out.b2).1; omega)
  have P2 : Hid (R3 w r.bg r.en r.cu (.slice oa1 oa2 oa3) (.slice ka kn kc) (.slice pa pn pc) (.slice ra rn rc) w2) := Q1.out.call hb
  have M10 : Hid (LR w2 (w.heap.size + 2) (.slice oa1 oa2 oa3) (.slice aa an ac) sa r.ante) := LA2.out.below hb (Nat.le_refl _)
  have c2 := P2.out.cells.c2
  have f2 := P2.out.frozen 2
  have Q2 : Hid (R3 w r.bg r.en r.cu (.slice oa1 oa2 oa3) (.slice ok1 ok2 ok3) (.slice pa pn pc) (.slice ra rn rc) (w2.setCell ⟨w.heap.size, 2, none⟩ (.slice ok1 ok2 ok3))) := P2.out.set2 _
  have S10 : Hid (LR (w2.setCell ⟨w.heap.size, 2, none⟩ (.slice ok1 ok2 ok3)) (w.heap.size + 2) (.slice oa1 oa2 oa3) (.slice aa an ac) sa r.ante) := M10.out.above (above_set (by omega))
  have S11 : Hid (LR (w2.setCell ⟨w.heap.size, 2, none⟩ (.slice ok1 ok2 ok3)) (w.heap.size + 2) (.slice ok1 ok2 ok3) (.slice ka kn kc) sk r.key) := N1.out.above (above_set (by omega))
  have d3 := Q2.out.cells.c3
  clear M10 N1 P2 Q1 hL hb LA2
  go_wp2_with fail
  refine (HP.out _ Q2.out.bel).mono ?_
  rintro e w3 ⟨op, rfl, hL, hb⟩
  obtain ⟨op1, op2, op3, rfl⟩ := hL.sl
  have N2 : Hid (LR w3 (w.heap.size + 2) (.slice op1 op2 op3) (.slice pa pn pc) sp r.post) := hL.le (by have := (Array.getElem?_eq_some_iff.1 Q2.out.b2).1; omega)
  have P3 : Hid (R3 w r.bg r.en r.cu (.slice oa1 oa2 oa3) (.slice ok1 ok2 ok3) (.slice pa pn pc) (.slice ra rn rc) w3) := Q2.out.call hb
  have M20 : Hid (LR w3 (w.heap.size + 2) (.slice oa1 oa2 oa3) (.slice aa an ac) sa r.ante) := S10.out.below hb (Nat.le_refl _)
  have M21 : Hid (LR w3 (w.heap.size + 2) (.slice ok1 ok2 ok3) (.slice ka kn kc) sk r.key) := S11.out.below hb (Nat.le_refl _)
  have c3 := P3.out.cells.c3
  have f3 := P3.out.frozen 3
  have Q3 : Hid (R3 w r.bg r.en r.cu (.slice oa1 oa2 oa3) (.slice ok1 ok2 ok3) (.slice op1 op2 op3) (.slice ra rn rc) (w3.setCell ⟨w.heap.size, 3, none⟩ (.slice op1 op2 op3))) := P3.out.set3 _
  have S20 : Hid (LR (w3.setCell ⟨w.heap.size, 3, none⟩ (.slice op1 op2 op3)) (w.heap.size + 2) (.slice oa1 oa2 oa3) (.slice aa an ac) sa r.ante) := M20.out.above (above_set (by omega))
  have S21 : Hid (LR (w3.setCell ⟨w.heap.size, 3, none⟩ (.slice op1 op2 op3)) (w.heap.size + 2) (.slice ok1 ok2 ok3) (.slice ka kn kc) sk r.key) := M21.out.above (above_set (by omega))
  have S22 : Hid (LR (w3.setCell ⟨w.heap.size, 3, none⟩ (.slice op1 op2 op3)) (w.heap.size + 2) (.slice op1 op2 op3) (.slice pa pn pc) sp r.post) := N2.out.above (above_set (by omega))
  have d4 := Q3.out.cells.c5
  clear M20 M21 N2 P3 Q2 hL hb S10 S11
  go_wp2_with fail
  refine (HR.out _ Q3.out.bel).mono ?_
  rintro e w4 ⟨or, rfl, hL, hb⟩
  obtain ⟨or1, or2, or3, rfl⟩ := hL.sl
  have N3 : Hid (LP w4 (w.heap.size + 2) (.slice or1 or2 or3) (.slice ra rn rc) tv r.res) := hL.le (by have := (Array.getElem?_eq_some_iff.1 Q3.out.b2).1; omega)
  have P4 : Hid (R3 w r.bg r.en r.cu (.slice oa1 oa2 oa3) (.slice ok1 ok2 ok3) (.slice op1 op2 op3) (.slice ra rn rc) w4) := Q3.out.call hb
  have M30 : Hid (LR w4 (w.heap.size + 2) (.slice oa1 oa2 oa3) (.slice aa an ac) sa r.ante) := S20.out.below hb (Nat.le_refl _)
  have M31 : Hid (LR w4 (w.heap.size + 2) (.slice ok1 ok2 ok3) (.slice ka kn kc) sk r.key) := S21.out.below hb (Nat.le_refl _)
  have M32 : Hid (LR w4 (w.heap.size + 2) (.slice op1 op2 op3) (.slice pa pn pc) sp r.post) := S22.out.below hb (Nat.le_refl _)
  have c4 := P4.out.cells.c5
  have f4 := P4.out.frozen 5
  have Q4 : Hid (R3 w r.bg r.en r.cu (.slice oa1 oa2 oa3) (.slice ok1 ok2 ok3) (.slice op1 op2 op3) (.slice or1 or2 or3) (w4.setCell ⟨w.heap.size, 5, none⟩ (.slice or1 or2 or3))) := P4.out.set5 _
  have S30 : Hid (LR (w4.setCell ⟨w.heap.size, 5, none⟩ (.slice or1 or2 or3)) (w.heap.size + 2) (.slice oa1 oa2 oa3) (.slice aa an ac) sa r.ante) := M30.out.above (above_set (by omega))
  have S31 : Hid (LR (w4.setCell ⟨w.heap.size, 5, none⟩ (.slice or1 or2 or3)) (w.heap.size + 2) (.slice ok1 ok2 ok3) (.slice ka kn kc) sk r.key) := M31.out.above (above_set (by omega))
  have S32 : Hid (LR (w4.setCell ⟨w.heap.size, 5, none⟩ (.slice or1 or2 or3)) (w.heap.size + 2) (.slice op1 op2 op3) (.slice pa pn pc) sp r.post) := M32.out.above (above_set (by omega))
  have S33 : Hid (LP (w4.setCell ⟨w.heap.size, 5, none⟩ (.slice or1 or2 or3)) (w.heap.size + 2) (.slice or1 or2 or3) (.slice ra rn rc) tv r.res) := N3.out.above (above_set (by omega))
  clear M30 M31 M32 N3 P4 Q3 hL hb S20 S21 S22
  obtain ⟨V, hV⟩ : ∃ V, w4.setCell ⟨w.heap.size, 5, none⟩ (.slice or1 or2 or3) = V := ⟨_, rfl⟩
  rw [hV] at Q4 S30 S31 S32 S33
  obtain ⟨e0, e1, e2, e3, e4, e5, e6⟩ := Q4.out.cells
  have v0 := Q4.out.b2
  have v1 : (V.setCell ⟨w.heap.size + 1, 0, none⟩ (.bool r.bg)).heap[w.heap.size + 1]? = some (.cells #[.bool r.bg, .slice none 0 0, .slice none 0 0, .slice none 0 0, .bool false, .slice none 0 0, .int .i64 0] 25 (0, 0)) := by simpa using cells_setS (j := 0) (u := .bool r.bg) v0
  have v2 : ((V.setCell ⟨w.heap.size + 1, 0, none⟩ (.bool r.bg)).setCell ⟨w.heap.size + 1, 1, none⟩ (.slice oa1 oa2 oa3)).heap[w.heap.size + 1]? = some (.cells #[.bool r.bg, .slice oa1 oa2 oa3, .slice none 0 0, .slice none 0 0, .bool false, .slice none 0 0, .int .i64 0] 25 (0, 0)) := by simpa using cells_setS (j := 1) (u := .slice oa1 oa2 oa3) v1
  have v3 : (((V.setCell ⟨w.heap.size + 1, 0, none⟩ (.bool r.bg)).setCell ⟨w.heap.size + 1, 1, none⟩ (.slice oa1 oa2 oa3)).setCell ⟨w.heap.size + 1, 2, none⟩ (.slice ok1 ok2 ok3)).heap[w.heap.size + 1]? = some (.cells #[.bool r.bg, .slice oa1 oa2 oa3, .slice ok1 ok2 ok3, .slice none 0 0, .bool false, .slice none 0 0, .int .i64 0] 25 (0, 0)) := by simpa using cells_setS (j := 2) (u := .slice ok1 ok2 ok3) v2
  have v4 : ((((V.setCell ⟨w.heap.size + 1, 0, none⟩ (.bool r.bg)).setCell ⟨w.heap.size + 1, 1, none⟩ (.slice oa1 oa2 oa3)).setCell ⟨w.heap.size + 1, 2, none⟩ (.slice ok1 ok2 ok3)).setCell ⟨w.heap.size + 1, 3, none⟩ (.slice op1 op2 op3)).heap[w.heap.size + 1]? = some (.cells #[.bool r.bg, .slice oa1 oa2 oa3, .slice ok1 ok2 ok3, .slice op1 op2 op3, .bool false, .slice none 0 0, .int .i64 0] 25 (0, 0)) := by simpa using cells_setS (j := 3) (u := .slice op1 op2 op3) v3
  have v5 : (((((V.setCell ⟨w.heap.size + 1, 0, none⟩ (.bool r.bg)).setCell ⟨w.heap.size + 1, 1, none⟩ (.slice oa1 oa2 oa3)).setCell ⟨w.heap.size + 1, 2, none⟩ (.slice ok1 ok2 ok3)).setCell ⟨w.heap.size + 1, 3, none⟩ (.slice op1 op2 op3)).setCell ⟨w.heap.size + 1, 4, none⟩ (.bool r.en)).heap[w.heap.size + 1]? = some (.cells #[.bool r.bg, .slice oa1 oa2 oa3, .slice ok1 ok2 ok3, .slice op1 op2 op3, .bool r.en, .slice none 0 0, .int .i64 0] 25 (0, 0)) := by simpa using cells_setS (j := 4) (u := .bool r.en) v4
  have v6 : ((((((V.setCell ⟨w.heap.size + 1, 0, none⟩ (.bool r.bg)).setCell ⟨w.heap.size + 1, 1, none⟩ (.slice oa1 oa2 oa3)).setCell ⟨w.heap.size + 1, 2, none⟩ (.slice ok1 ok2 ok3)).setCell ⟨w.heap.size + 1, 3, none⟩ (.slice op1 op2 op3)).setCell ⟨w.heap.size + 1, 4, none⟩ (.bool r.en)).setCell ⟨w.heap.size + 1, 5, none⟩ (.slice or1 or2 or3)).heap[w.heap.size + 1]? = some (.cells #[.bool r.bg, .slice oa1 oa2 oa3, .slice ok1 ok2 ok3, .slice op1 op2 op3, .bool r.en, .slice or1 or2 or3, .int .i64 0] 25 (0, 0)) := by simpa using cells_setS (j := 5) (u := .slice or1 or2 or3) v5
  have v7 : (((((((V.setCell ⟨w.heap.size + 1, 0, none⟩ (.bool r.bg)).setCell ⟨w.heap.size + 1, 1, none⟩ (.slice oa1 oa2 oa3)).setCell ⟨w.heap.size + 1, 2, none⟩ (.slice ok1 ok2 ok3)).setCell ⟨w.heap.size + 1, 3, none⟩ (.slice op1 op2 op3)).setCell ⟨w.heap.size + 1, 4, none⟩ (.bool r.en)).setCell ⟨w.heap.size + 1, 5, none⟩ (.slice or1 or2 or3)).setCell ⟨w.heap.size + 1, 6, none⟩ (.int .i64 r.cu)).heap[w.heap.size + 1]? = some (.cells #[.bool r.bg, .slice oa1 oa2 oa3, .slice ok1 ok2 ok3, .slice op1 op2 op3, .bool r.en, .slice or1 or2 or3, .int .i64 r.cu] 25 (0, 0)) := by simpa using cells_setS (j := 6) (u := .int .i64 r.cu) v6
  have g0 : V.cell? ⟨w.heap.size + 1, 0, none⟩ = some (.bool false) := by simp only [World.cell?, v0]; rfl
  have k0 : V.frozen? ⟨w.heap.size + 1, 0, none⟩ = false := by simp [World.frozen?, v0]
  have g1 : (V.setCell ⟨w.heap.size + 1, 0, none⟩ (.bool r.bg)).cell? ⟨w.heap.size + 1, 1, none⟩ = some (.slice none 0 0) := by simp only [World.cell?, v1]; rfl
  have k1 : (V.setCell ⟨w.heap.size + 1, 0, none⟩ (.bool r.bg)).frozen? ⟨w.heap.size + 1, 1, none⟩ = false := by simp [World.frozen?, v1]
  have g2 : ((V.setCell ⟨w.heap.size + 1, 0, none⟩ (.bool r.bg)).setCell ⟨w.heap.size + 1, 1, none⟩ (.slice oa1 oa2 oa3)).cell? ⟨w.heap.size + 1, 2, none⟩ = some (.slice none 0 0) := by simp only [World.cell?, v2]; rfl
  have k2 : ((V.setCell ⟨w.heap.size + 1, 0, none⟩ (.bool r.bg)).setCell ⟨w.heap.size + 1, 1, none⟩ (.slice oa1 oa2 oa3)).frozen? ⟨w.heap.size + 1, 2, none⟩ = false := by simp [World.frozen?, v2]
  have g3 : (((V.setCell ⟨w.heap.size + 1, 0, none⟩ (.bool r.bg)).setCell ⟨w.heap.size + 1, 1, none⟩ (.slice oa1 oa2 oa3)).setCell ⟨w.heap.size + 1, 2, none⟩ (.slice ok1 ok2 ok3)).cell? ⟨w.heap.size + 1, 3, none⟩ = some (.slice none 0 0) := by simp only [World.cell?, v3]; rfl
  have k3 : (((V.setCell ⟨w.heap.size + 1, 0, none⟩ (.bool r.bg)).setCell ⟨w.heap.size + 1, 1, none⟩ (.slice oa1 oa2 oa3)).setCell ⟨w.heap.size + 1, 2, none⟩ (.slice ok1 ok2 ok3)).frozen? ⟨w.heap.size + 1, 3, none⟩ = false := by simp [World.frozen?, v3]
  have g4 : ((((V.setCell ⟨w.heap.size + 1, 0, none⟩ (.bool r.bg)).setCell ⟨w.heap.size + 1, 1, none⟩ (.slice oa1 oa2 oa3)).setCell ⟨w.heap.size + 1, 2, none⟩ (.slice ok1 ok2 ok3)).setCell ⟨w.heap.size + 1, 3, none⟩ (.slice op1 op2 op3)).cell? ⟨w.heap.size + 1, 4, none⟩ = some (.bool false) := by simp only [World.cell?, v4]; rfl
  have k4 : ((((V.setCell ⟨w.heap.size + 1, 0, none⟩ (.bool r.bg)).setCell ⟨w.heap.size + 1, 1, none⟩ (.slice oa1 oa2 oa3)).setCell ⟨w.heap.size + 1, 2, none⟩ (.slice ok1 ok2 ok3)).setCell ⟨w.heap.size + 1, 3, none⟩ (.slice op1 op2 op3)).frozen? ⟨w.heap.size + 1, 4, none⟩ = false := by simp [World.frozen?, v4]
  have g5 : (((((V.setCell ⟨w.heap.size + 1, 0, none⟩ (.bool r.bg)).setCell ⟨w.heap.size + 1, 1, none⟩ (.slice oa1 oa2 oa3)).setCell ⟨w.heap.size + 1, 2, none⟩ (.slice ok1 ok2 ok3)).setCell ⟨w.heap.size + 1, 3, none⟩ (.slice op1 op2 op3)).setCell ⟨w.heap.size + 1, 4, none⟩ (.bool r.en)).cell? ⟨w.heap.size + 1, 5, none⟩ = some (.slice none 0 0) := by simp only [World.cell?, v5]; rfl
  have k5 : (((((V.setCell ⟨w.heap.size + 1, 0, none⟩ (.bool r.bg)).setCell ⟨w.heap.size + 1, 1, none⟩ (.slice oa1 oa2 oa3)).setCell ⟨w.heap.size + 1, 2, none⟩ (.slice ok1 ok2 ok3)).setCell ⟨w.heap.size + 1, 3, none⟩ (.slice op1 op2 op3)).setCell ⟨w.heap.size + 1, 4, none⟩ (.bool r.en)).frozen? ⟨w.heap.size + 1, 5, none⟩ = false := by simp [World.frozen?, v5]
  have g6 : ((((((V.setCell ⟨w.heap.size + 1, 0, none⟩ (.bool r.bg)).setCell ⟨w.heap.size + 1, 1, none⟩ (.slice oa1 oa2 oa3)).setCell ⟨w.heap.size + 1, 2, none⟩ (.slice ok1 ok2 ok3)).setCell ⟨w.heap.size + 1, 3, none⟩ (.slice op1 op2 op3)).setCell ⟨w.heap.size + 1, 4, none⟩ (.bool r.en)).setCell ⟨w.heap.size + 1, 5, none⟩ (.slice or1 or2 or3)).cell? ⟨w.heap.size + 1, 6, none⟩ = some (.int .i64 0) := by simp only [World.cell?, v6]; rfl
  have k6 : ((((((V.setCell ⟨w.heap.size + 1, 0, none⟩ (.bool r.bg)).setCell ⟨w.heap.size + 1, 1, none⟩ (.slice oa1 oa2 oa3)).setCell ⟨w.heap.size + 1, 2, none⟩ (.slice ok1 ok2 ok3)).setCell ⟨w.heap.size + 1, 3, none⟩ (.slice op1 op2 op3)).setCell ⟨w.heap.size + 1, 4, none⟩ (.bool r.en)).setCell ⟨w.heap.size + 1, 5, none⟩ (.slice or1 or2 or3)).frozen? ⟨w.heap.size + 1, 6, none⟩ = false := by simp [World.frozen?, v6]
  have HL : Hid (LRl (((((((V.setCell ⟨w.heap.size + 1, 0, none⟩ (.bool r.bg)).setCell ⟨w.heap.size + 1, 1, none⟩ (.slice oa1 oa2 oa3)).setCell ⟨w.heap.size + 1, 2, none⟩ (.slice ok1 ok2 ok3)).setCell ⟨w.heap.size + 1, 3, none⟩ (.slice op1 op2 op3)).setCell ⟨w.heap.size + 1, 4, none⟩ (.bool r.en)).setCell ⟨w.heap.size + 1, 5, none⟩ (.slice or1 or2 or3)).setCell ⟨w.heap.size + 1, 6, none⟩ (.int .i64 r.cu)) (w.heap.size + 2) (.slice oa1 oa2 oa3) (.slice ok1 ok2 ok3) (.slice op1 op2 op3) (.slice or1 or2 or3) (.slice aa an ac) (.slice ka kn kc) (.slice pa pn pc) (.slice ra rn rc) sa sk sp tv r) :=
    LRl.above (LRl.above (LRl.above (LRl.above (LRl.above (LRl.above (LRl.above ⟨S30.out, S31.out, S32.out, S33.out⟩ (above_set (by omega))) (above_set (by omega))) (above_set (by omega))) (above_set (by omega))) (above_set (by omega))) (above_set (by omega))) (above_set (by omega))
  have HBl : Hid (Below w.heap.size w (((((((V.setCell ⟨w.heap.size + 1, 0, none⟩ (.bool r.bg)).setCell ⟨w.heap.size + 1, 1, none⟩ (.slice oa1 oa2 oa3)).setCell ⟨w.heap.size + 1, 2, none⟩ (.slice ok1 ok2 ok3)).setCell ⟨w.heap.size + 1, 3, none⟩ (.slice op1 op2 op3)).setCell ⟨w.heap.size + 1, 4, none⟩ (.bool r.en)).setCell ⟨w.heap.size + 1, 5, none⟩ (.slice or1 or2 or3)).setCell ⟨w.heap.size + 1, 6, none⟩ (.int .i64 r.cu))) := (((((((Q4.out.bel.setCell (p := ⟨w.heap.size + 1, 0, none⟩) (Nat.le_succ _) _).setCell (p := ⟨w.heap.size + 1, 1, none⟩) (Nat.le_succ _) _).setCell (p := ⟨w.heap.size + 1, 2, none⟩) (Nat.le_succ _) _).setCell (p := ⟨w.heap.size + 1, 3, none⟩) (Nat.le_succ _) _).setCell (p := ⟨w.heap.size + 1, 4, none⟩) (Nat.le_succ _) _).setCell (p := ⟨w.heap.size + 1, 5, none⟩) (Nat.le_succ _) _).setCell (p := ⟨w.heap.size + 1, 6, none⟩) (Nat.le_succ _) _)
  have HC7 : Hid (RC (((((((V.setCell ⟨w.heap.size + 1, 0, none⟩ (.bool r.bg)).setCell ⟨w.heap.size + 1, 1, none⟩ (.slice oa1 oa2 oa3)).setCell ⟨w.heap.size + 1, 2, none⟩ (.slice ok1 ok2 ok3)).setCell ⟨w.heap.size + 1, 3, none⟩ (.slice op1 op2 op3)).setCell ⟨w.heap.size + 1, 4, none⟩ (.bool r.en)).setCell ⟨w.heap.size + 1, 5, none⟩ (.slice or1 or2 or3)).setCell ⟨w.heap.size + 1, 6, none⟩ (.int .i64 r.cu)) (w.heap.size + 1) r.bg (.slice oa1 oa2 oa3) (.slice ok1 ok2 ok3) (.slice op1 op2 op3) r.en (.slice or1 or2 or3) r.cu) := by constructor <;> (simp only [World.cell?, v7]; rfl)
  clear v0 v1 v2 v3 v4 v5 v6 v7 Q4 S30 S31 S32 S33
  go_wp2
  obtain ⟨t0, t1, t2, t3, t4, t5, t6⟩ := HC7.out
  exact ret_rl (p := 2) (B := w.heap.size + 1) rfl rfl t0 t1 t2 t3 t4 t5 t6 ⟨_, _, _, _, rfl, HL.out.le (by omega), HBl.out⟩
/-- a lent rule and the one that it was made of, in two blocks -/
structure R4 (w : World) (base : Nat) (r : Rl) (oa ok op orr av kv pv rv : Value) (sa sk sp tv : List Value) (W : World) : Prop where
  g : Grown w W
  l : LRl W base oa ok op orr av kv pv rv sa sk sp tv r
  v : RRv W av kv pv rv sa sk sp tv r
  ca : RC W w.heap.size r.bg oa ok op r.en orr r.cu
  cb : RC W (w.heap.size + 1) r.bg av kv pv r.en rv r.cu
theorem R4.grown {w : World} {base : Nat} {r : Rl} {oa ok op orr av kv pv rv : Value} {sa sk sp tv : List Value} {W W' : World} (h : R4 w base r oa ok op orr av kv pv rv sa sk sp tv W) (k : Grown W W') : R4 w base r oa ok op orr av kv pv rv sa sk sp tv W' :=
  ⟨h.g.trans k, h.l.grown k, h.v.grown k, h.ca.below k.below (Nat.le_refl _), h.cb.below k.below (Nat.le_refl _)⟩
theorem r4_start {w : World} {base : Nat} {r : Rl} {oa ok op orr av kv pv rv : Value} {sa sk sp tv : List Value} (hl : LRl w base oa ok op orr av kv pv rv sa sk sp tv r) (hv : RRv w av kv pv rv sa sk sp tv r) :
    R4 w base r oa ok op orr av kv pv rv sa sk sp tv ((w.alloc (.cells #[.bool r.bg, oa, ok, op, .bool r.en, orr, .int .i64 r.cu] 25)).alloc (.cells #[.bool r.bg, av, kv, pv, .bool r.en, rv, .int .i64 r.cu] 25)) := by
  have hg := ((Grown.refl w).alloc (.cells #[.bool r.bg, oa, ok, op, .bool r.en, orr, .int .i64 r.cu] 25)).alloc (.cells #[.bool r.bg, av, kv, pv, .bool r.en, rv, .int .i64 r.cu] 25)
  refine ⟨hg, hl.grown hg, hv.grown hg, (rc_new w _ _ _ _ _ _ _).below ((Grown.refl _).alloc _).below (Nat.le_refl _), ?_⟩
  have := rc_new (w.alloc (.cells #[.bool r.bg, oa, ok, op, .bool r.en, orr, .int .i64 r.cu] 25)) r.bg av kv pv r.en rv r.cu
  simpa using this
set_option maxHeartbeats 8000000 in
theorem stillRule_any (r : Rl) (base : Nat) (oa ok op orr av kv pv rv : Value) (sa sk sp tv : List Value) (w : World) (hl : LRl w base oa ok op orr av kv pv rv sa sk sp tv r) (hv : RRv w av kv pv rv sa sk sp tv r) (hs : Sm r) :
    Calls Tryd.prog 16 #[.agg #[.bool r.bg, oa, ok, op, .bool r.en, orr, .int .i64 r.cu], .agg #[.bool r.bg, av, kv, pv, .bool r.en, rv, .int .i64 r.cu]] w fun e w' => e = .returned (.bool true) ∧ Grown w w' := by
  have P0 : Hid (R4 w base r oa ok op orr av kv pv rv sa sk sp tv ((w.alloc (.cells #[.bool r.bg, oa, ok, op, .bool r.en, orr, .int .i64 r.cu] 25)).alloc (.cells #[.bool r.bg, av, kv, pv, .bool r.en, rv, .int .i64 r.cu] 25))) := r4_start hl hv
  have C1 : Hid (∀ W, Hid (R4 w base r oa ok op orr av kv pv rv sa sk sp tv W) → Calls Tryd.prog 35 #[oa, av] W fun e w' => e = .returned (.bool true) ∧ Hid (R4 w base r oa ok op orr av kv pv rv sa sk sp tv w')) := fun W p => (stillRow_any oa av base sa _ W p.out.l.a p.out.v.a hs.na hs.sa).mono fun e w' ⟨h1, h2⟩ => ⟨h1, p.out.grown h2⟩
  have C2 : Hid (∀ W, Hid (R4 w base r oa ok op orr av kv pv rv sa sk sp tv W) → Calls Tryd.prog 35 #[ok, kv] W fun e w' => e = .returned (.bool true) ∧ Hid (R4 w base r oa ok op orr av kv pv rv sa sk sp tv w')) := fun W p => (stillRow_any ok kv base sk _ W p.out.l.k p.out.v.k hs.nk hs.sk).mono fun e w' ⟨h1, h2⟩ => ⟨h1, p.out.grown h2⟩
  have C3 : Hid (∀ W, Hid (R4 w base r oa ok op orr av kv pv rv sa sk sp tv W) → Calls Tryd.prog 35 #[op, pv] W fun e w' => e = .returned (.bool true) ∧ Hid (R4 w base r oa ok op orr av kv pv rv sa sk sp tv w')) := fun W p => (stillRow_any op pv base sp _ W p.out.l.p p.out.v.p hs.np hs.sp).mono fun e w' ⟨h1, h2⟩ => ⟨h1, p.out.grown h2⟩
  have C4 : Hid (∀ W, Hid (R4 w base r oa ok op orr av kv pv rv sa sk sp tv W) → Calls Tryd.prog 36 #[orr, rv] W fun e w' => e = .returned (.bool true) ∧ Hid (R4 w base r oa ok op orr av kv pv rv sa sk sp tv w')) := fun W p => (stillPieces_any orr rv base tv _ W p.out.l.r p.out.v.r hs.nr hs.sr).mono fun e w' ⟨h1, h2⟩ => ⟨h1, p.out.grown h2⟩
  obtain ⟨aa1, aa2, aa3, rfl⟩ := hl.a.sl
  obtain ⟨ak1, ak2, ak3, rfl⟩ := hl.k.sl
  obtain ⟨ap1, ap2, ap3, rfl⟩ := hl.p.sl
  obtain ⟨ar1, ar2, ar3, rfl⟩ := hl.r.sl
  obtain ⟨ba1, ba2, ba3, rfl⟩ := hv.rr.a.sl
  obtain ⟨bk1, bk2, bk3, rfl⟩ := hv.rr.k.sl
  obtain ⟨bp1, bp2, bp3, rfl⟩ := hv.rr.p.sl
  obtain ⟨br1, br2, br3, rfl⟩ := hv.rr.r.sl
  clear hl hv hs
  go_enter Tryd.func16, Tryd.ntmps16
  go_wp2_with fail
  refine (C1.out _ P0).mono ?_
  rintro e w1 ⟨rfl, P1⟩
  clear P0
  obtain ⟨x0, x1, x2, x3, x4, x5, x6⟩ := P1.out.ca
  obtain ⟨y0, y1, y2, y3, y4, y5, y6⟩ := P1.out.cb
  go_wp2_with fail
  refine (C2.out _ P1).mono ?_
  rintro e w2 ⟨rfl, P2⟩
  clear x0 x1 x2 x3 x4 x5 x6 y0 y1 y2 y3 y4 y5 y6
  clear P1
  obtain ⟨x0, x1, x2, x3, x4, x5, x6⟩ := P2.out.ca
  obtain ⟨y0, y1, y2, y3, y4, y5, y6⟩ := P2.out.cb
  go_wp2_with fail
  refine (C3.out _ P2).mono ?_
  rintro e w3 ⟨rfl, P3⟩
  clear x0 x1 x2 x3 x4 x5 x6 y0 y1 y2 y3 y4 y5 y6
  clear P2
  obtain ⟨x0, x1, x2, x3, x4, x5, x6⟩ := P3.out.ca
  obtain ⟨y0, y1, y2, y3, y4, y5, y6⟩ := P3.out.cb
  go_wp2_with fail
  refine (C4.out _ P3).mono ?_
  rintro e w4 ⟨rfl, P4⟩
  clear x0 x1 x2 x3 x4 x5 x6 y0 y1 y2 y3 y4 y5 y6
  clear P3
  go_wp2
  go_ret
  exact ⟨rfl, P4.out.g⟩
end Go.Proofs
