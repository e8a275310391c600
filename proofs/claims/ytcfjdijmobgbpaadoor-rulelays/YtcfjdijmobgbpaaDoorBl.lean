/-
  lays, and the law of RuleLays.
-/
import Derived.RangeFuncNested
import Derived.RangeFuncBound
import Derived.RangeFuncCalls
import Derived.RangeFuncLeaves
import Derived.Shelf.Abstract
import Derived.Shelf.RegionOpen
import Derived.WalkKit
import Derived.WalkSpells
import Derived.WalkLawsBesides
import Derived.OwnWalkIn
import Derived.TacticsInMore
import Derived.LoopNIn
import Derived.LoopIn
import Derived.BigQuiet
import Derived.RegionIn
import Derived.Deep.QuietTactic
import Derived.Deep.RegionWith
import Derived.Lib.OthersKept
import Derived.Maps.AppendAt
import Derived.Lib.SmallJoins
import Derived.Shelf.SlSortCmp.QuietGrown
import Derived.Deep.AppendLies
import Derived.Test.YtcfjdijmobgbpaaDoorBh
import Derived.Test.YtcfjdijmobgbpaaDoorOe
import Derived.Test.YtcfjdijmobgbpaaDoorQe
import Derived.Test.YtcfjdijmobgbpaaDoorTh
import Derived.Test.YtcfjdijmobgbpaaDoorXa
namespace Go.Proofs
open Go.RowKit Go.Shelf

set_option maxRecDepth 100000
attribute [local go_sem] Oper.semAt_some
attribute [local go_sem ↓] Go.wp_at_zero Go.wp_at_succ
/-! what lies from a block on, and was there, stays -/
def Mid (base : Nat) (W W' : World) : Prop := ∀ b, base ≤ b → b < W.heap.size → W'.heap[b]? = W.heap[b]?
theorem Mid.le {base base' : Nat} {W W' : World} (h : Mid base W W') (hb : base ≤ base') : Mid base' W W' := fun b h1 h2 => h b (by omega) h2
theorem Mid.own {base n size : Nat} {e : TypeId} {W W' : World} {v : Value} {xs : List Value} (k : Mid base W W') (h : W.ownsRow base e size v n xs) : W'.ownsRow base e size v n xs :=
  own_stays h fun b _ _ h1 h2 => (k b h1 (Array.getElem?_eq_some_iff.1 h2).1).trans h2
theorem Mid.cell {base b j : Nat} {W W' : World} {u : Value} (k : Mid base W W') (hb : base ≤ b) (h : W.cell? ⟨b, j, none⟩ = some u) : W'.cell? ⟨b, j, none⟩ = some u := by
  have hlt := World.block_lt_of_cell? W _ h
  simp only [World.cell?] at h ⊢
  rw [k b hb hlt]
  exact h
theorem LS.mid {W W' : World} {base : Nat} {ov sv : Value} {l : List (Int × Int)} (h : LS W base ov sv l) (k : Mid base W W') : LS W' base ov sv l := by
  rcases h with h | ⟨h1, g, cap, h2, h3, h4⟩
  · exact .inl h
  · exact .inr ⟨h1, g, cap, h2, h3, k.own h4⟩
theorem LR.mid {W W' : World} {base : Nat} {ov v : Value} {svs : List Value} {ls : List (List (Int × Int))} (h : LR W base ov v svs ls) (k : Mid base W W') : LR W' base ov v svs ls := by
  rcases h with h | ⟨h1, g, cap, ovs, gm, h2, h3, h4, h5, h6, hgm, h7⟩
  · exact .inl h
  · exact .inr ⟨h1, g, cap, ovs, gm, h2, h3, h4, k.own h5, k.cell hgm h6, hgm, fun j a b c => (h7 j a b c).mid k⟩
theorem LP.mid {W W' : World} {base : Nat} {ov v : Value} {tvs : List Value} {ps : List Pc} (h : LP W base ov v tvs ps) (k : Mid base W W') : LP W' base ov v tvs ps := by
  rcases h with h | ⟨h1, g, cap, es, h2, h3, h4, h5, h6⟩
  · exact .inl h
  · exact .inr ⟨h1, g, cap, es, h2, h3, h4, k.own h5, fun j a b => (h6 j a b).mid k⟩
theorem RI.Lent.mid {x : RI} {W W' : World} {base : Nat} {a b c d : Value} (h : x.Lent W base a b c d) (k : Mid base W W') : x.Lent W' base a b c d :=
  ⟨LR.mid (LRl.a h) k, LR.mid (LRl.k h) k, LR.mid (LRl.p h) k, LP.mid (LRl.r h) k⟩
theorem LIn.mid {W W' : World} {base : Nat} {ov v : Value} {l : List Int} (h : LIn W base ov v l) (k : Mid base W W') : LIn W' base ov v l := by
  rcases h with h | ⟨h1, g, cap, e, hc, ho⟩
  · exact .inl h
  · exact .inr ⟨h1, g, cap, e, hc, k.own ho⟩
theorem FarI.mid {W W' : World} {base : Nat} {v : Value} {l : List Int} (h : FarI W base v l) (k : Mid base W W') : FarI W' base v l := by
  obtain ⟨a, c, e, hc, h⟩ := h
  refine ⟨a, c, e, hc, h.imp id ?_⟩
  rintro ⟨g, o, e1, h1, h2⟩
  exact ⟨g, o, e1, h1, fun j hj => k.cell h1 (h2 j hj)⟩
/-! what a call of lays finds later: w is the world in which it was called, w6 the one in which both answers are there -/
structure H18 (hb : Nat) (ov wv : Value) (w w6 W : World) : Prop where
  size : w6.heap.size ≤ W.heap.size
  hi : Mid w.heap.size w6 W
  lo : ∀ b, b < w.heap.size → b ≠ hb → ov.ownBlock ≠ some b → wv.ownBlock ≠ some b → W.heap[b]? = w.heap[b]?
section
variable {hb base f t : Nat} {ov wv ov' wv' : Value} {w w6 W W' : World} {es : List BE}
theorem H18.start (hb6 : Below w.heap.size w w6) : H18 hb ov wv w w6 w6 := ⟨Nat.le_refl _, fun _ _ _ => rfl, fun b h1 _ _ _ => hb6.block b h1⟩
theorem H18.tch (h : H18 hb ov wv w w6 W) (hs : w.heap.size ≤ w6.heap.size) : Tch hb ov wv w W := ⟨Nat.le_trans hs h.size, h.lo⟩
theorem H18.below (h : H18 hb ov wv w w6 W) (hs : w.heap.size ≤ w6.heap.size) (k : Below W.heap.size W W') : H18 hb ov wv w w6 W' :=
  ⟨Nat.le_trans h.size k.size, fun b h1 h2 => (k.block b (Nat.lt_of_lt_of_le h2 h.size)).trans (h.hi b h1 h2), fun b h1 h2 h3 h4 => (k.block b (by have := h.size; omega)).trans (h.lo b h1 h2 h3 h4)⟩
/-- the book is written into: its rows are the ones that they were, or new ones -/
theorem H18.keep (h : H18 hb ov wv w w6 W) (hs : w.heap.size ≤ w6.heap.size) (hh : hb < w.heap.size) (ho : ∀ b, ov.ownBlock = some b → b < w.heap.size) (hw : ∀ b, wv.ownBlock = some b → b < w.heap.size) (m1 : Mvd w6.heap.size ov ov') (m2 : Mvd w6.heap.size wv wv') (k : Tch hb ov' wv' W W') : H18 hb ov wv w w6 W' := by
  have n1 : ∀ b, b < w6.heap.size → ov.ownBlock ≠ some b → ov'.ownBlock ≠ some b := fun b hb' hn e => by
    rcases m1 with m | ⟨g, m, hg⟩
    · exact hn (m ▸ e)
    · rw [m] at e; injection e with e; omega
  have n2 : ∀ b, b < w6.heap.size → wv.ownBlock ≠ some b → wv'.ownBlock ≠ some b := fun b hb' hn e => by
    rcases m2 with m | ⟨g, m, hg⟩
    · exact hn (m ▸ e)
    · rw [m] at e; injection e with e; omega
  refine ⟨Nat.le_trans h.size k.size, fun b h1 h2 => ?_, fun b h1 h2 h3 h4 => ?_⟩
  · rw [k.block b (Nat.lt_of_lt_of_le h2 h.size) (by omega) (n1 b h2 fun e => by have := ho b e; omega) (n2 b h2 fun e => by have := hw b e; omega)]
    exact h.hi b h1 h2
  · have hb6 : b < w6.heap.size := by omega
    rw [k.block b (Nat.lt_of_lt_of_le hb6 h.size) h2 (n1 b hb6 h3) (n2 b hb6 h4)]
    exact h.lo b h1 h2 h3 h4
theorem Mvd.trans {n m : Nat} {a b c : Value} (h : Mvd n a b) (k : Mvd m b c) (hnm : n ≤ m) : Mvd n a c := by
  rcases k with k | ⟨g, k, hg⟩
  · rcases h with h | ⟨g, h, hg⟩
    · exact .inl (k.trans h)
    · exact .inr ⟨g, k.trans h, hg⟩
  · exact .inr ⟨g, k, by omega⟩
end
/-- numbers that are new, or none -/
theorem new_tight {W : World} {base : Nat} {v : Value} {l : List Int} (h : NewI W base v l) : Tight v := by
  obtain ⟨g, e, _⟩ := h
  exact .inr ⟨g, _, e⟩
theorem tch_of {hb : Nat} {ov wv : Value} {w W : World} (h : Below w.heap.size w W) : Tch hb ov wv w W := ⟨h.size, fun b h1 _ _ _ => h.block b h1⟩
theorem OwnI.nil' (W : World) (base : Nat) : OwnI W base (.slice none 0 0) [] := OwnI.nil W base
theorem farI_nil (W : World) (base : Nat) : FarI W base (.slice none 0 0) [] := ⟨none, 0, rfl, Nat.le_refl _, .inl rfl⟩
/-- what was laid, both ways -/
structure LD (W : World) (B C : Nat) (v1 v2 y1 y2 : Value) (d1 d2 : List Int) : Prop where
  o1 : OwnI W B v1 d1
  o2 : OwnI W B v2 d2
  t1 : Tight v1
  t2 : Tight v2
  ne : ∀ b, v1.ownBlock = some b → v2.ownBlock ≠ some b
  f1 : FarI W C y1 d1
  f2 : FarI W C y2 d2
  l1 : d1.length ≤ 1048576
  l2 : d2.length ≤ 1048576
theorem ld_of {w5 w6 : World} {B : Nat} {r : Rl} {us : List Int} {v1 v2 y1 y2 : Value} (h : LaysO w5 B r us v1 v2) (hb : Below w5.heap.size w5 w6) (k : RLaysO w6 w5.heap.size r us y1 y2) (hs : Sm r) : ∃ d1 d2, LD w6 B w5.heap.size v1 v2 y1 y2 d1 d2 := by
  rcases h with ⟨e, rfl, rfl⟩ | ⟨e, h1, h2, h3⟩
  · rcases k with ⟨_, rfl, rfl⟩ | ⟨e2, _⟩
    · exact ⟨[], [], OwnI.nil _ _, OwnI.nil _ _, .inl rfl, .inl rfl, fun b hb' => (by cases hb'), farI_nil _ _, farI_nil _ _, Nat.zero_le _, Nat.zero_le _⟩
    · rw [e] at e2; cases e2
  · rcases k with ⟨e2, _⟩ | ⟨_, k1, k2⟩
    · rw [e] at e2; cases e2
    · have hl : (outs r us).length ≤ 1048576 := by simp [outs]; exact hs.nr
      have l1 : ((outs r us).take r.cu.toNat).length ≤ 1048576 := by rw [List.length_take]; omega
      have l2 : ((outs r us).drop r.cu.toNat).length ≤ 1048576 := by rw [List.length_drop]; omega
      refine ⟨_, _, (h1.own (by unfold maxLen; omega)).below hb (Nat.le_refl _), (h2.own (by unfold maxLen; omega)).below hb (Nat.le_refl _), new_tight h1, new_tight h2, fun b e1 e2 => ?_, k1, k2, l1, l2⟩
      obtain ⟨g1, rfl, _⟩ := h1
      obtain ⟨g2, rfl, _⟩ := h2
      have a1 : g1 = b := by simpa [Value.ownBlock] using e1
      have a2 : g2 = b := by simpa [Value.ownBlock] using e2
      exact h3 (by simp [blkOf, a1, a2])
theorem heap_rc {W : World} {B : Nat} {r : Rl} {a k p q : Value} (h : W.heap[B]? = some (.cells #[.bool r.bg, a, k, p, .bool r.en, q, .int .i64 r.cu] 25 (0, 0))) : RC W B r.bg a k p r.en q r.cu := by
  constructor <;> (simp only [World.cell?, h]; rfl)
theorem RC.mid {W W' : World} {B n : Nat} {bg : Bool} {av kv pv : Value} {en : Bool} {rv : Value} {cu : Int} (h : RC W B bg av kv pv en rv cu) (k : Mid n W W') (hn : n ≤ B) : RC W' B bg av kv pv en rv cu :=
  ⟨k.cell hn h.c0, k.cell hn h.c1, k.cell hn h.c2, k.cell hn h.c3, k.cell hn h.c4, k.cell hn h.c5, k.cell hn h.c6⟩
/-- what a call of lays finds in a later world -/
structure F18 (x : RI) (us : List Int) (B0 B1 B2 B3 : Nat) (uv lo oa ok op orr v1 v2 y1 y2 : Value) (d1 d2 : List Int) (av kv pv rv : Value) (W : World) : Prop where
  ix : x.In W
  iu : IR W uv us
  r1 : RC W B0 x.r.bg av kv pv x.r.en rv x.r.cu
  r2 : RC W B3 x.r.bg oa ok op x.r.en orr x.r.cu
  hp : W.heap[B3]? = some (.cells #[.bool x.r.bg, oa, ok, op, .bool x.r.en, orr, .int .i64 x.r.cu] 25 (0, 0))
  le : x.Lent W B1 oa ok op orr
  li : LIn W B2 lo uv us
  i1 : IR W v1 d1
  i2 : IR W v2 d2
  j1 : IR W y1 d1
  j2 : IR W y2 d2
/-- the book while lays looks -/
structure S8 (w w6 : World) (base hb : Nat) (ov wv ov8 wv8 : Value) (es8 : List BE) (f t : Nat) (W : World) : Prop where
  h : H18 hb ov wv w w6 W
  bk : Bk W base hb ov8 wv8 es8 f t
  bel : Below base w W
theorem S8.grown {w w6 : World} {base hb : Nat} {ov wv ov8 wv8 : Value} {es8 : List BE} {f t : Nat} {W W' : World} (s : S8 w w6 base hb ov wv ov8 wv8 es8 f t W) (hs : w.heap.size ≤ w6.heap.size) (k : Grown W W') : S8 w w6 base hb ov wv ov8 wv8 es8 f t W' :=
  ⟨s.h.below hs k.below, s.bk.grown k, s.bel.trans (k.below.mono s.bk.bz)⟩
theorem Bk.but {W W' : World} {base hb f t : Nat} {ov wv : Value} {es : List BE} (h : Bk W base hb ov wv es f t) {x : Option Nat} (hg : ButO x W W') (hx : ∀ b, x = some b → b ∉ blks es ∧ ∃ cur, W.heap[b]? = some (.cells cur 3 (0, 0))) : Bk W' base hb ov wv es f t := by
  have K : ∀ (b : Nat) (cur : Array Value) (y : TypeId), W.heap[b]? = some (Obj.cells cur y (0, 0)) → (y ≠ 3 ∨ b ∈ blks es) → W'.heap[b]? = some (Obj.cells cur y (0, 0)) := fun b cur y hc hy => by
    refine hg b (fun e => ?_) _ hc
    obtain ⟨h1, d, h2⟩ := hx b e.symm
    rcases hy with hy | hy
    · exact typ_ne hc h2 hy rfl
    · exact h1 hy
  exact ⟨K _ _ _ h.bk (.inl (by decide)), h.hb, own_stays h.out fun b cur _ _ h2 => K b cur 39 h2 (.inl (by decide)), own_stays h.want fun b cur _ _ h2 => K b cur 39 h2 (.inl (by decide)), fun e he => own_stays (h.ro e he) fun b cur h1 _ h2 => K b cur 3 h2 (.inr (blks_mem.2 ⟨e, he, .inl h1⟩)), fun e he => own_stays (h.rw e he) fun b cur h1 _ h2 => K b cur 3 h2 (.inr (blks_mem.2 ⟨e, he, .inr h1⟩)), h.ti, h.ap, h.ow, h.few, h.sm, h.fr⟩
set_option maxHeartbeats 8000000 in
theorem lays18_any (base hb : Nat) (ov wv : Value) (es : List BE) (f N : Nat) (x : RI) (uv : Value) (us : List Int) (w : World) (h : Bk w base hb ov wv es f es.length) (hes : es.length ≤ 90) (hN1 : 1048576 ≤ N) (_hN2 : N ≤ 1500000) (hsm : ∀ e ∈ es, e.l.length ≤ N) (hT : Tab w) (hX : ∀ W, Tch hb ov wv w W → x.In W) (hU : ∀ W, Tch hb ov wv w W → IR W uv us) (hNil : uv = .slice none 0 0 ∨ ∃ ad n c, uv = .slice (some ad) n c) (sx : Sm x.r) (su : us.length ≤ 1048576) :
    Calls Tryd.prog 18 #[.pointer (some ⟨hb, 0, none⟩), .agg #[.bool x.r.bg, x.av, x.kv, x.pv, .bool x.r.en, x.rv, .int .i64 x.r.cu], uv] w fun e w' => e = .returned (.bool true) ∧ ∃ ov' wv' es', Bk w' base hb ov' wv' es' f es'.length ∧ es'.length = es.length + 2 ∧ (∀ e ∈ es', e.l.length ≤ N) ∧ Below base w w' := by
  have HB : Hid (Bk w base hb ov wv es f es.length) := h
  have HSM : Hid (∀ e ∈ es, e.l.length ≤ N) := hsm
  have HX : Hid (∀ W, Tch hb ov wv w W → x.In W) := hX
  have HU : Hid (∀ W, Tch hb ov wv w W → IR W uv us) := hU
  have HT : Hid (Tab w) := hT
  have HS : Hid (Sm x.r ∧ us.length ≤ 1048576) := ⟨sx, su⟩
  have HNl : Hid (uv = .slice none 0 0 ∨ ∃ ad n c, uv = .slice (some ad) n c) := hNil
  obtain ⟨b1, hb1⟩ : ∃ w1, w1 = w.alloc (.cells #[.bool x.r.bg, x.av, x.kv, x.pv, .bool x.r.en, x.rv, .int .i64 x.r.cu] 25) := ⟨_, rfl⟩
  have hg1 : Grown w b1 := by rw [hb1]; exact (Grown.refl _).alloc _
  have HC1 : Hid (RC b1 w.heap.size x.r.bg x.av x.kv x.pv x.r.en x.rv x.r.cu) := by show RC _ _ _ _ _ _ _ _ _; rw [hb1]; exact rc_new w _ _ _ _ _ _ _
  have HIn : Hid (x.In b1) := hX _ (tch_of hg1.below)
  have HCL : Hid (Calls Tryd.prog 10 #[.agg #[.bool x.r.bg, x.av, x.kv, x.pv, .bool x.r.en, x.rv, .int .i64 x.r.cu]] b1 fun e w' => ∃ oa ok op orr, e = .returned (.agg #[.bool x.r.bg, oa, ok, op, .bool x.r.en, orr, .int .i64 x.r.cu]) ∧ x.Lent w' b1.heap.size oa ok op orr ∧ Below b1.heap.size b1 w') := lentRule_any x.r _ _ _ _ _ _ _ _ b1 HIn.out sx
  obtain ⟨aa, an, ac, ea⟩ : IsSl x.av := HIn.out.rr.a.sl
  obtain ⟨ka, kn, kc, ek⟩ : IsSl x.kv := HIn.out.rr.k.sl
  obtain ⟨pa, pn, pc, ep⟩ : IsSl x.pv := HIn.out.rr.p.sl
  obtain ⟨ra, rn, rc, er⟩ : IsSl x.rv := HIn.out.rr.r.sl
  obtain ⟨ua, uc, hu, _⟩ := hU w (tch_of (Below.refl _ _))
  subst hu
  rw [ea, ek, ep, er] at HC1 HCL hb1 ⊢
  have q0 := HC1.out.c0
  have q1 := HC1.out.c1
  have q2 := HC1.out.c2
  have q3 := HC1.out.c3
  have q4 := HC1.out.c4
  have q5 := HC1.out.c5
  have q6 := HC1.out.c6
  clear h hsm hT hX hU hNil sx su
  go_enter Tryd.func18, Tryd.ntmps18
  go_upto_region 1 with fail
  rw [← hb1]
  have HG1 := Hid.mk' hg1
  clear hg1 hb1
  go_wp2_with fail
  refine HCL.out.mono ?_
  rintro e w2 ⟨oa, ok, op, orr, rfl, hL2, hb2⟩
  have HL2 := Hid.mk' hL2
  obtain ⟨oa1, oa2, oa3, rfl⟩ : IsSl oa := (LRl.a hL2).sl
  obtain ⟨ok1, ok2, ok3, rfl⟩ : IsSl ok := (LRl.k hL2).sl
  obtain ⟨op1, op2, op3, rfl⟩ : IsSl op := (LRl.p hL2).sl
  obtain ⟨or1, or2, or3, rfl⟩ : IsSl orr := (LRl.r hL2).sl
  have HB2 : Hid (Below b1.heap.size b1 w2 ∧ Below w.heap.size w w2) := ⟨hb2, HG1.out.below.trans (hb2.mono HG1.out.size)⟩
  have HCI : Hid (Calls Tryd.prog 37 #[.slice ua us.length uc] w2 fun e w' => ∃ ov, e = .returned ov ∧ LIn w' w2.heap.size ov (.slice ua us.length uc) us ∧ Below w2.heap.size w2 w') := lentInts_any _ us w2 (HU.out _ (tch_of HB2.out.2)) HNl.out HS.out.2
  clear hL2 hb2 HCL
  go_wp2_with fail
  refine HCI.out.mono ?_
  rintro e w3 ⟨lo, rfl, hI3, hb3⟩
  obtain ⟨lo1, lo2, lo3, rfl⟩ := hI3.sl
  have HI3 := Hid.mk' hI3
  have HB3 := Hid.mk' hb3
  clear hI3 hb3 HCI
  go_upto_region 2 with fail
  obtain ⟨w4, hw4⟩ : ∃ w4, w4 = w3.alloc (.cells #[.bool x.r.bg, .slice oa1 oa2 oa3, .slice ok1 ok2 ok3, .slice op1 op2 op3, .bool x.r.en, .slice or1 or2 or3, .int .i64 x.r.cu] 25) := ⟨_, rfl⟩
  rw [← hw4]
  have HW4 : Hid (w4.heap[w3.heap.size]? = some (.cells #[.bool x.r.bg, .slice oa1 oa2 oa3, .slice ok1 ok2 ok3, .slice op1 op2 op3, .bool x.r.en, .slice or1 or2 or3, .int .i64 x.r.cu] 25 (0, 0)) ∧ Below w3.heap.size w3 w4 ∧ w4.heap.size = w3.heap.size + 1) := by
    rw [hw4]
    exact ⟨heap_alloc_new _ _, (Below.refl _ _).alloc (Nat.le_refl _) _, Array.size_push _⟩
  clear hw4
  have HR4 := Hid.mk' (heap_rc HW4.out.1)
  have HB4 : Hid (Below w.heap.size w w4 ∧ Below w2.heap.size w2 w4) := by
    have h1 := HB3.out.trans (HW4.out.2.1.mono HB3.out.size)
    exact ⟨HB2.out.2.trans (h1.mono HB2.out.2.size), h1⟩
  have HLa : Hid (Calls Tryd.prog 21 #[.agg #[.bool x.r.bg, .slice oa1 oa2 oa3, .slice ok1 ok2 ok3, .slice op1 op2 op3, .bool x.r.en, .slice or1 or2 or3, .int .i64 x.r.cu], .slice lo1 lo2 lo3] w4 fun e w' => ∃ v1 v2, e = .returned (.tuple #[v1, v2]) ∧ LaysO w' w4.heap.size x.r us v1 v2 ∧ Below w4.heap.size w4 w') :=
    lays_any x.r _ _ _ _ _ us w4 (HT.out.below HB4.out.1 HT.out.pos) ((HL2.out.below HB4.out.2 (Nat.le_refl _)).rr HIn.out) (HI3.out.below HW4.out.2.1 (Nat.le_refl _)).ir
  have e0 := HR4.out.c0
  have e1 := HR4.out.c1
  have e2 := HR4.out.c2
  have e3 := HR4.out.c3
  have e4 := HR4.out.c4
  have e5 := HR4.out.c5
  have e6 := HR4.out.c6
  clear q0 q1 q2 q3 q4 q5 q6
  go_wp2_with fail
  refine HLa.out.mono ?_
  rintro e w5 ⟨v1, v2, rfl, hLO, hb5⟩
  obtain ⟨va1, va2, va3, rfl⟩ : IsSl v1 := by
    rcases hLO with ⟨_, e, _⟩ | ⟨_, ⟨g, e, _⟩, _⟩ <;> exact ⟨_, _, _, e⟩
  obtain ⟨vb1, vb2, vb3, rfl⟩ : IsSl v2 := by
    rcases hLO with ⟨_, _, e⟩ | ⟨_, _, ⟨g, e, _⟩, _⟩ <;> exact ⟨_, _, _, e⟩
  have HLO := Hid.mk' hLO
  have HB5 : Hid (Below w4.heap.size w4 w5 ∧ Below w.heap.size w w5 ∧ Below b1.heap.size b1 w5) := by
    have h1 := HB2.out.1.trans ((HB4.out.2.trans (hb5.mono HB4.out.2.size)).mono HB2.out.1.size)
    exact ⟨hb5, HB4.out.1.trans (hb5.mono HB4.out.1.size), h1⟩
  have HR5 := Hid.mk' (HC1.out.below HB5.out.2.2 (Nat.le_refl _))
  have HLb : Hid (Calls Tryd.prog 38 #[.agg #[.bool x.r.bg, .slice aa an ac, .slice ka kn kc, .slice pa pn pc, .bool x.r.en, .slice ra rn rc, .int .i64 x.r.cu], .slice ua us.length uc] w5 fun e w' => ∃ v1 v2, e = .returned (.tuple #[v1, v2]) ∧ RLaysO w' w5.heap.size x.r us v1 v2 ∧ Below w5.heap.size w5 w') := by
    have := rlays_any x.r x.av x.kv x.pv x.rv (.slice ua us.length uc) us w5 (HX.out _ (tch_of HB5.out.2.1)).rr (HU.out _ (tch_of HB5.out.2.1))
    rw [ea, ek, ep, er] at this
    exact this
  clear hLO hb5 HLa e0 e1 e2 e3 e4 e5 e6
  have e0 := HR5.out.c0
  have e1 := HR5.out.c1
  have e2 := HR5.out.c2
  have e3 := HR5.out.c3
  have e4 := HR5.out.c4
  have e5 := HR5.out.c5
  have e6 := HR5.out.c6
  go_wp2_with fail
  refine HLb.out.mono ?_
  rintro e w6 ⟨y1, y2, rfl, hRO, hb6⟩
  obtain ⟨d1, d2, hLD⟩ := ld_of HLO.out hb6 hRO HS.out.1
  obtain ⟨ya1, ya2, hy1, _⟩ := hLD.f1
  obtain ⟨yb1, yb2, hy2, _⟩ := hLD.f2
  subst hy1 hy2
  have hs36 : w3.heap.size ≤ w4.heap.size := HW4.out.2.1.size
  have h26 : Below w2.heap.size w2 w6 := HB4.out.2.trans ((HB5.out.1.trans (hb6.mono HB5.out.1.size)).mono HB4.out.2.size)
  have h06 : Below w.heap.size w w6 := HB2.out.2.trans (h26.mono HB2.out.2.size)
  have h46 : Below w4.heap.size w4 w6 := HB5.out.1.trans (hb6.mono HB5.out.1.size)
  have HSZ : Hid (w.heap.size ≤ w6.heap.size) := h06.size
  have h0b : w.heap.size ≤ b1.heap.size := HG1.out.size
  have hb12 : b1.heap.size ≤ w2.heap.size := HB2.out.1.size
  have h23 : w2.heap.size ≤ w3.heap.size := HB3.out.size
  have h45 : w4.heap.size ≤ w5.heap.size := HB5.out.1.size
  have HF : Hid (∀ W, H18 hb ov wv w w6 W → F18 x us w.heap.size b1.heap.size w2.heap.size w3.heap.size (.slice ua us.length uc) (.slice lo1 lo2 lo3) (.slice oa1 oa2 oa3) (.slice ok1 ok2 ok3) (.slice op1 op2 op3) (.slice or1 or2 or3) (.slice va1 va2 va3) (.slice vb1 vb2 vb3) (.slice ya1 d1.length ya2) (.slice yb1 d2.length yb2) d1 d2 (.slice aa an ac) (.slice ka kn kc) (.slice pa pn pc) (.slice ra rn rc) W) := fun W hW => by
    refine ⟨HX.out W (hW.tch h06.size), HU.out W (hW.tch h06.size), (HC1.out.below (HB2.out.1.trans (h26.mono hb12)) (Nat.le_refl _)).mid hW.hi (Nat.le_refl _), (HR4.out.below h46 (Nat.le_refl _)).mid hW.hi (by omega), ?hp, (HL2.out.below h26 (Nat.le_refl _)).mid (hW.hi.le h0b), (HI3.out.below (HW4.out.2.1.trans (h46.mono hs36)) (Nat.le_refl _)).mid (hW.hi.le (by omega)), ?_, ?_, ?_, ?_⟩
    case hp =>
      have hl4 : w3.heap.size < w4.heap.size := by have := HW4.out.2.2; omega
      exact (hW.hi w3.heap.size (by omega) (by have := h46.size; omega)).trans ((h46.block _ hl4).trans HW4.out.1)
    · exact OwnI.ir (base := w4.heap.size) ((hW.hi.le (by omega)).own hLD.o1)
    · exact OwnI.ir (base := w4.heap.size) ((hW.hi.le (by omega)).own hLD.o2)
    · exact (hLD.f1.mid (hW.hi.le (by omega))).ir
    · exact (hLD.f2.mid (hW.hi.le (by omega))).ir
  have hB0 := HB.out
  have hbz := hB0.bz
  have hbk6 := hB0.below h06 (Nat.le_refl _)
  have hlt : ∀ b, b ∈ blks es → b < w.heap.size := fun b hb' => by obtain ⟨_, h4⟩ := blks_lt hB0 hb'; exact (Array.getElem?_eq_some_iff.1 h4).1
  have HK1 : Hid (Calls Tryd.prog 39 #[.pointer (some ⟨hb, 0, none⟩), .slice va1 va2 va3] w6 fun e w' => (∃ x, e = .returned x) ∧ ∃ ov' wv' mv, Bk w' base hb ov' wv' (es ++ [⟨.slice va1 va2 va3, mv, d1⟩]) f (es.length + 1) ∧ Tch hb ov wv w6 w' ∧ Below base w6 w' ∧ Mvd w6.heap.size ov ov' ∧ Mvd w6.heap.size wv wv' ∧ (∀ b, mv.ownBlock = some b → w6.heap.size ≤ b)) :=
    keep_any base hb ov wv es f _ d1 w6 hbk6 (OwnI.le hLD.o1 (by omega)) hLD.t1 (fun b hb' hm => by have h1 := (row_typ hLD.o1 hb').1; have h2 := hlt b hm; omega) (by have := hLD.l1; omega) (by omega)
  have HLD := Hid.mk' hLD
  have HB0 : Hid (base ≤ w.heap.size) := hbz
  have HZ : Hid (w.heap.size ≤ w4.heap.size ∧ base ≤ w4.heap.size ∧ w4.heap.size ≤ w6.heap.size) := ⟨by omega, by omega, h46.size⟩
  have HLI : Hid (w2.heap.size ≤ w3.heap.size ∧ b1.heap.size ≤ w2.heap.size ∧ w.heap.size ≤ b1.heap.size ∧ Below w2.heap.size w2 w6 ∧ w3.heap.size ≤ w4.heap.size ∧ Below w3.heap.size w3 w6) := ⟨h23, hb12, h0b, h26, hs36, HW4.out.2.1.trans (h46.mono hs36)⟩
  have H06 := Hid.mk' h06
  clear hLD hRO hb6 hs36 h26 h06 h46 h0b hb12 h23 h45 hbk6 hlt hbz hB0 HLb e0 e1 e2 e3 e4 e5 e6
  go_wp2_with fail
  refine HK1.out.mono ?_
  rintro e w7 ⟨⟨xv7, rfl⟩, ov7, wv7, m1, hB7, hT7, hb7, hm7, hn7, hM7⟩
  have hB0 := HB.out
  have hh : hb < w.heap.size := (Array.getElem?_eq_some_iff.1 hB0.bk).1
  have hoL : ∀ b, ov.ownBlock = some b → b < w.heap.size := fun b hb' => (World.ownsRow.lt hB0.out b hb').2
  have hwL : ∀ b, wv.ownBlock = some b → b < w.heap.size := fun b hb' => (World.ownsRow.lt hB0.want b hb').2
  have hH7 : H18 hb ov wv w w6 w7 := (H18.start H06.out).keep HSZ.out hh hoL hwL (.inl rfl) (.inl rfl) hT7
  have hlt : ∀ b, b ∈ blks es → b < w.heap.size := fun b hb' => by obtain ⟨_, h4⟩ := blks_lt hB0 hb'; exact (Array.getElem?_eq_some_iff.1 h4).1
  have hO2 : OwnI w7 w4.heap.size (.slice vb1 vb2 vb3) d2 := (hH7.hi.le HZ.out.1).own HLD.out.o2
  have hB7' : Bk w7 base hb ov7 wv7 (es ++ [⟨.slice va1 va2 va3, m1, d1⟩]) f (es ++ [(⟨.slice va1 va2 va3, m1, d1⟩ : BE)]).length := by
    have : (es ++ [(⟨.slice va1 va2 va3, m1, d1⟩ : BE)]).length = es.length + 1 := by simp
    rw [this]
    exact hB7
  have HK2 : Hid (Calls Tryd.prog 39 #[.pointer (some ⟨hb, 0, none⟩), .slice vb1 vb2 vb3] w7 fun e w' => (∃ x, e = .returned x) ∧ ∃ ov8 wv8 es8, S8 w w6 base hb ov wv ov8 wv8 es8 f es8.length w' ∧ es8.length = es.length + 2 ∧ (∀ e ∈ es8, e.l.length ≤ N) ∧ ∀ b, b ∈ blks es8 → b < w.heap.size ∨ w4.heap.size ≤ b) := by
    refine (keep_any base hb ov7 wv7 (es ++ [(⟨.slice va1 va2 va3, m1, d1⟩ : BE)]) f (.slice vb1 vb2 vb3) d2 w7 hB7' (OwnI.le hO2 HZ.out.2.1) HLD.out.t2 (fun b hb' hm => ?_) (by have := HLD.out.l2; omega) (by simp; omega)).mono ?_
    · have h1 := (row_typ HLD.out.o2 hb').1
      have h2 := (World.ownsRow.lt HLD.out.o2 b hb').2
      obtain ⟨e, he, h3⟩ := blks_mem.1 hm
      rcases List.mem_append.1 he with he | he
      · have := hlt b (blks_mem.2 ⟨e, he, h3⟩)
        have := HZ.out.1
        omega
      · obtain rfl := List.mem_singleton.1 he
        rcases h3 with h3 | h3
        · exact HLD.out.ne b h3 hb'
        · have := hM7 b h3
          omega
    · rintro e w8 ⟨h1, ov8, wv8, m2, hB8, hT8, hb8, hm8, hn8, hM8⟩
      refine ⟨h1, ov8, wv8, es ++ [(⟨.slice va1 va2 va3, m1, d1⟩ : BE)] ++ [(⟨.slice vb1 vb2 vb3, m2, d2⟩ : BE)], ⟨hH7.keep HSZ.out hh hoL hwL hm7 hn7 hT8, ?_, (H06.out.mono hB0.bz).trans (hb7.trans hb8)⟩, by simp, fun e he => ?_, fun b hb' => ?_⟩
      · have : (es ++ [(⟨.slice va1 va2 va3, m1, d1⟩ : BE)] ++ [(⟨.slice vb1 vb2 vb3, m2, d2⟩ : BE)]).length = (es ++ [(⟨.slice va1 va2 va3, m1, d1⟩ : BE)]).length + 1 := by simp
        rw [this]
        exact hB8
      · rcases List.mem_append.1 he with he | he
        · rcases List.mem_append.1 he with he | he
          · exact HSM.out e he
          · obtain rfl := List.mem_singleton.1 he
            exact Nat.le_trans HLD.out.l1 hN1
        · obtain rfl := List.mem_singleton.1 he
          exact Nat.le_trans HLD.out.l2 hN1
      · obtain ⟨e, he, h3⟩ := blks_mem.1 hb'
        rcases List.mem_append.1 he with he | he
        · rcases List.mem_append.1 he with he | he
          · exact .inl (hlt b (blks_mem.2 ⟨e, he, h3⟩))
          · obtain rfl := List.mem_singleton.1 he
            rcases h3 with h3 | h3
            · exact .inr (row_typ HLD.out.o1 h3).1
            · exact .inr (Nat.le_trans HZ.out.2.2 (hM7 b h3))
        · obtain rfl := List.mem_singleton.1 he
          rcases h3 with h3 | h3
          · exact .inr (row_typ HLD.out.o2 h3).1
          · have := hM8 b h3
            have := hH7.size
            exact .inr (by have := HZ.out.2.2; omega)
  clear hB7 hB7' hT7 hb7 hm7 hn7 hM7 hB0 hh hoL hwL hH7 hlt hO2 HK1
  go_wp2_with fail
  refine HK2.out.mono ?_
  rintro e w8 ⟨⟨xv8, rfl⟩, ov8, wv8, es8, hS8, hl8, hs8, ha8⟩
  have HS8 := Hid.mk' hS8
  have H8 : Hid (es8.length = es.length + 2 ∧ (∀ e ∈ es8, e.l.length ≤ N) ∧ ∀ b, b ∈ blks es8 → b < w.heap.size ∨ w4.heap.size ≤ b) := ⟨hl8, hs8, ha8⟩
  clear hS8 hl8 hs8 ha8 HK2 HB HLO
  have HN1 : Hid (∀ W, S8 w w6 base hb ov wv ov8 wv8 es8 f es8.length W → Calls Tryd.prog 26 #[.slice va1 va2 va3, .slice ya1 d1.length ya2] W fun e w' => e = .returned (.bool true) ∧ S8 w w6 base hb ov wv ov8 wv8 es8 f es8.length w') := fun W p => (numbers_any _ _ d1 d1 W (HF.out W p.h).i1 (HF.out W p.h).j1 (by have := HLD.out.l1; omega)).mono fun e w' ⟨a, b⟩ => ⟨by rw [a]; simp, p.grown HSZ.out b⟩
  have HN2 : Hid (∀ W, S8 w w6 base hb ov wv ov8 wv8 es8 f es8.length W → Calls Tryd.prog 26 #[.slice vb1 vb2 vb3, .slice yb1 d2.length yb2] W fun e w' => e = .returned (.bool true) ∧ S8 w w6 base hb ov wv ov8 wv8 es8 f es8.length w') := fun W p => (numbers_any _ _ d2 d2 W (HF.out W p.h).i2 (HF.out W p.h).j2 (by have := HLD.out.l2; omega)).mono fun e w' ⟨a, b⟩ => ⟨by rw [a]; simp, p.grown HSZ.out b⟩
  have HSt : Hid (∀ W, S8 w w6 base hb ov wv ov8 wv8 es8 f es8.length W → Calls Tryd.prog 16 #[.agg #[.bool x.r.bg, .slice oa1 oa2 oa3, .slice ok1 ok2 ok3, .slice op1 op2 op3, .bool x.r.en, .slice or1 or2 or3, .int .i64 x.r.cu], .agg #[.bool x.r.bg, .slice aa an ac, .slice ka kn kc, .slice pa pn pc, .bool x.r.en, .slice ra rn rc, .int .i64 x.r.cu]] W fun e w' => e = .returned (.bool true) ∧ S8 w w6 base hb ov wv ov8 wv8 es8 f es8.length w') := fun W p => by
    have := stillRule_any x.r b1.heap.size _ _ _ _ x.av x.kv x.pv x.rv x.sa x.sk x.sp x.tv W (HF.out W p.h).le (HF.out W p.h).ix HS.out.1
    rw [ea, ek, ep, er] at this
    exact this.mono fun e w' ⟨a, b⟩ => ⟨a, p.grown HSZ.out b⟩
  have HSi : Hid (∀ W, S8 w w6 base hb ov wv ov8 wv8 es8 f es8.length W → Calls Tryd.prog 40 #[.slice lo1 lo2 lo3, .slice ua us.length uc] W fun e w' => e = .returned (.bool true) ∧ Bk w' base hb ov8 wv8 es8 f es8.length ∧ Below base w w' ∧ x.Lent w' b1.heap.size (.slice oa1 oa2 oa3) (.slice ok1 ok2 ok3) (.slice op1 op2 op3) (.slice or1 or2 or3) ∧ b1.heap.size ≤ w'.heap.size ∧ w'.heap[w3.heap.size]? = some (.cells #[.bool x.r.bg, .slice oa1 oa2 oa3, .slice ok1 ok2 ok3, .slice op1 op2 op3, .bool x.r.en, .slice or1 or2 or3, .int .i64 x.r.cu] 25 (0, 0))) := fun W p => by
    have hF := HF.out W p.h
    obtain ⟨z1, z2, z3, z4, z5, z6⟩ := HLI.out
    have hz := HZ.out
    have hblk := hF.li.blk
    have hblk3 := HI3.out.blk
    refine (stillInts_any _ _ w2.heap.size us W hF.li hF.iu HS.out.2).mono ?_
    rintro e w' ⟨rfl, k1, k2, k3⟩
    have hne : ∀ b, (Value.slice lo1 lo2 lo3).ownBlock = some b → w2.heap.size ≤ b ∧ b < w3.heap.size := fun b hb' => by
      obtain ⟨a1, cur, a2⟩ := hblk3 b hb'
      exact ⟨a1, (Array.getElem?_eq_some_iff.1 a2).1⟩
    have hbz := p.bk.bz
    have hs8 := p.h.size
    refine ⟨rfl, p.bk.but k2 (fun b hb' => ⟨fun hm => ?_, (hblk b hb').2⟩), p.bel.trans (k1.mono (by have := p.bk.hb; have := HB0.out; omega)), ?_, ?_, ?_⟩
    · have a1 := hne b hb'
      rcases H8.out.2.2 b hm with a2 | a2 <;> omega
    · refine HL2.out.mid fun b a1 a2 => ?_
      have e1 : W.heap[b]? = w2.heap[b]? := (p.h.hi b (by omega) (by have := z4.size; omega)).trans (z4.block b a2)
      have e2 : w2.heap[b]? = some w2.heap[b] := Array.getElem?_eq_getElem a2
      rw [e2]
      refine k2 b (fun e => ?_) _ (e1.trans e2)
      have := (hne b e.symm).1
      omega
    · have := k1.size
      have := z4.size
      omega
    · refine k2 _ (fun e => ?_) _ hF.hp
      have := (hne _ e.symm).2
      omega
  have HSp : Hid (∀ W, Bk W base hb ov8 wv8 es8 f es8.length → Below base w W → x.Lent W b1.heap.size (.slice oa1 oa2 oa3) (.slice ok1 ok2 ok3) (.slice op1 op2 op3) (.slice or1 or2 or3) → b1.heap.size ≤ W.heap.size → Calls Tryd.prog 41 #[.agg #[.bool x.r.bg, .slice oa1 oa2 oa3, .slice ok1 ok2 ok3, .slice op1 op2 op3, .bool x.r.en, .slice or1 or2 or3, .int .i64 x.r.cu]] W fun e w' => (∃ y, e = .returned y) ∧ Bk w' base hb ov8 wv8 es8 f es8.length ∧ Below base w w') := fun W hB hw hL hz => by
    have hI := HIn.out
    refine (spoilRule_any x.r.bg x.r.en x.r.cu _ _ _ _ b1.heap.size W hz ((LRl.a hL).shr hI.a.len HS.out.1.na HS.out.1.sa) ((LRl.k hL).shr hI.k.len HS.out.1.nk HS.out.1.sk) ((LRl.p hL).shr hI.p.len HS.out.1.np HS.out.1.sp) ((LRl.r hL).shp hI.r.len HS.out.1.nr HS.out.1.sr)).mono ?_
    rintro e w' ⟨h1, h2⟩
    refine ⟨h1, hB.stays fun b cur y _ hy hc => ?_, hw.trans (h2.1.bl.mono (by have := HB0.out; have := HLI.out; omega))⟩
    exact h2.2 y (fun ht => by rcases hy with rfl | rfl | rfl <;> (rcases ht with ht | ht | ht <;> cases ht)) b cur _ hc
  have HHo : Hid (∀ W, Bk W base hb ov8 wv8 es8 f es8.length → Calls Tryd.prog 42 #[.pointer (some ⟨hb, 0, none⟩)] W fun e w' => e = .returned (.bool true) ∧ Grown W w') := fun W k => holds_any base hb ov8 wv8 es8 f es8.length W k
  have HRC : Hid (∀ W, S8 w w6 base hb ov wv ov8 wv8 es8 f es8.length W → RC W w.heap.size x.r.bg (.slice aa an ac) (.slice ka kn kc) (.slice pa pn pc) x.r.en (.slice ra rn rc) x.r.cu ∧ RC W w3.heap.size x.r.bg (.slice oa1 oa2 oa3) (.slice ok1 ok2 ok3) (.slice op1 op2 op3) x.r.en (.slice or1 or2 or3) x.r.cu) := fun W p => ⟨(HF.out W p.h).r1, (HF.out W p.h).r2⟩
  clear HF HLD HLI HZ HSM HX HU HT HC1 HIn HL2 HB2 HI3 HB3 HW4 HR4 HB4 HB5 HR5 H06 HSZ HG1 HB0 HNl
  go_wp2_with fail
  refine (HN1.out _ HS8.out).mono ?_
  rintro e w9 ⟨rfl, hS9⟩
  have HS9 := Hid.mk' hS9
  clear hS9 HS8 HN1
  go_wp2_with fail
  refine (HN2.out _ HS9.out).mono ?_
  rintro e w10 ⟨rfl, hS10⟩
  have HS10 := Hid.mk' hS10
  have hr1 := (HRC.out _ hS10).1
  have hr2 := (HRC.out _ hS10).2
  obtain ⟨a0, a1, a2, a3, a4, a5, a6⟩ := hr1
  obtain ⟨g0, g1, g2, g3, g4, g5, g6⟩ := hr2
  clear hS10 HS9 HN2 HRC
  go_wp2_with fail
  refine (HSt.out _ HS10.out).mono ?_
  rintro e w11 ⟨rfl, hS11⟩
  have HS11 := Hid.mk' hS11
  clear hS11 HS10 HSt a0 a1 a2 a3 a4 a5 a6 g0 g1 g2 g3 g4 g5 g6
  go_wp2_with fail
  refine (HSi.out _ HS11.out).mono ?_
  rintro e w12 ⟨rfl, hB12, hb12, hL12, hz12, hp12⟩
  have HSp2 := Hid.mk' (HSp.out _ hB12 hb12 hL12 hz12)
  obtain ⟨g0, g1, g2, g3, g4, g5, g6⟩ := heap_rc hp12
  clear HSi HS11 hB12 hb12 hL12 hz12 hp12 HSp
  go_wp2_with fail
  refine HSp2.out.mono ?_
  rintro e w13 ⟨⟨xv13, rfl⟩, hB13, hb13⟩
  have HB13 := Hid.mk' hB13
  have HW13 : Hid (Below base w w13 ∧ base ≤ w13.heap.size) := ⟨hb13, hB13.bz⟩
  clear hB13 hb13 HSp2 g0 g1 g2 g3 g4 g5 g6
  go_wp2_with fail
  refine (HHo.out _ HB13.out).mono ?_
  rintro e w14 ⟨rfl, hg14⟩
  go_wp2
  go_ret
  exact ⟨rfl, ov8, wv8, es8, HB13.out.grown hg14, H8.out.1, H8.out.2.1, HW13.out.1.trans (hg14.below.mono HW13.out.2)⟩

theorem SRv.same {W : World} {o : _} {t : _} {u : _} {v : Value} {svs : List Value} {ls : List (List (Int × Int))} (h : SRv { W with os := o, tape := t, output := u } v svs ls) : SRv W v svs ls := ⟨h.len, h.el, h.nil, h.cell⟩
theorem PRv.same {W : World} {o : _} {t : _} {u : _} {v : Value} {tvs : List Value} {ps : List Pc} (h : PRv { W with os := o, tape := t, output := u } v tvs ps) : PRv W v tvs ps := ⟨h.len, h.el, h.nil, h.cell⟩
/-- what lies below stays, whatever else is so -/
theorem below_heap {w W : World} {n : Nat} (hs : w.heap.size ≤ W.heap.size) (h : ∀ b, b < n → W.heap[b]? = w.heap[b]?) : Below n w { W with os := w.os, tape := w.tape, output := w.output } := ⟨rfl, rfl, rfl, hs, h⟩
theorem RI.In.heap {x : RI} {w W : World} (hx : x.In w) (hs : w.heap.size ≤ W.heap.size) (h : ∀ b, b < w.heap.size → W.heap[b]? = w.heap[b]?) : x.In W := by
  have k := hx.below (below_heap hs h) (Nat.le_refl _)
  exact ⟨(RRv.a k).same, (RRv.k k).same, (RRv.p k).same, (RRv.r k).same⟩
theorem ir_heap {w W : World} {v : Value} {l : List Int} (hx : IR w v l) (hs : w.heap.size ≤ W.heap.size) (h : ∀ b, b < w.heap.size → W.heap[b]? = w.heap[b]?) : IR W v l := by
  have k := hx.below (below_heap hs h) (Nat.le_refl _)
  exact k
/-- abc's blocks -/
structure AC (n : Nat) (W : World) : Prop where
  k0 : W.cell? ⟨n + 1 + 1 + 1, 0, none⟩ = some (.slice (some ⟨n + 1, 0, none⟩) 1 1)
  k1 : W.cell? ⟨n + 1 + 1 + 1, 1, none⟩ = some (.slice (some ⟨n + 1 + 1, 0, none⟩) 1 1)
  a0 : W.cell? ⟨n + 1, 0, none⟩ = some (.int .i64 97)
  a1 : W.cell? ⟨n + 1, 1, none⟩ = some (.int .i64 99)
  b0 : W.cell? ⟨n + 1 + 1, 0, none⟩ = some (.int .i64 48)
  b1 : W.cell? ⟨n + 1 + 1, 1, none⟩ = some (.int .i64 57)
  c0 : W.cell? ⟨n + 1 + 1 + 1 + 1, 0, none⟩ = some (.int .i64 120)
  c1 : W.cell? ⟨n + 1 + 1 + 1 + 1, 1, none⟩ = some (.int .i64 122)
  p00 : W.cell? ⟨n + 1 + 1 + 1 + 1 + 1, 0, none⟩ = some (.int .i64 1)
  p01 : W.cell? ⟨n + 1 + 1 + 1 + 1 + 1, 1, none⟩ = some (.int .i64 120)
  p02 : W.cell? ⟨n + 1 + 1 + 1 + 1 + 1, 2, none⟩ = some (.int .i64 0)
  p03 : W.cell? ⟨n + 1 + 1 + 1 + 1 + 1, 3, none⟩ = some (.slice none 0 0)
  p10 : W.cell? ⟨n + 1 + 1 + 1 + 1 + 1, 4, none⟩ = some (.int .i64 2)
  p11 : W.cell? ⟨n + 1 + 1 + 1 + 1 + 1, 5, none⟩ = some (.int .i64 0)
  p12 : W.cell? ⟨n + 1 + 1 + 1 + 1 + 1, 6, none⟩ = some (.int .i64 1)
  p13 : W.cell? ⟨n + 1 + 1 + 1 + 1 + 1, 7, none⟩ = some (.slice none 0 0)
  p20 : W.cell? ⟨n + 1 + 1 + 1 + 1 + 1, 8, none⟩ = some (.int .i64 3)
  p21 : W.cell? ⟨n + 1 + 1 + 1 + 1 + 1, 9, none⟩ = some (.int .i64 0)
  p22 : W.cell? ⟨n + 1 + 1 + 1 + 1 + 1, 10, none⟩ = some (.int .i64 0)
  p23 : W.cell? ⟨n + 1 + 1 + 1 + 1 + 1, 11, none⟩ = some (.slice (some ⟨n + 1 + 1 + 1 + 1, 0, none⟩) 1 1)
theorem AC.mid {n : Nat} {W W' : World} (h : AC n W) (k : Mid n W W') : AC n W' :=
  ⟨k.cell (by omega) h.k0, k.cell (by omega) h.k1, k.cell (by omega) h.a0, k.cell (by omega) h.a1, k.cell (by omega) h.b0, k.cell (by omega) h.b1, k.cell (by omega) h.c0, k.cell (by omega) h.c1, k.cell (by omega) h.p00, k.cell (by omega) h.p01, k.cell (by omega) h.p02, k.cell (by omega) h.p03, k.cell (by omega) h.p10, k.cell (by omega) h.p11, k.cell (by omega) h.p12, k.cell (by omega) h.p13, k.cell (by omega) h.p20, k.cell (by omega) h.p21, k.cell (by omega) h.p22, k.cell (by omega) h.p23⟩
def abcI (n : Nat) : RI := ⟨abcR, .slice none 0 0, .slice (some ⟨n + 1 + 1 + 1, 0, none⟩) 2 2, .slice none 0 0, .slice (some ⟨n + 1 + 1 + 1 + 1 + 1, 0, none⟩) 3 3, [], [.slice (some ⟨n + 1, 0, none⟩) 1 1, .slice (some ⟨n + 1 + 1, 0, none⟩) 1 1], [], [.slice none 0 0, .slice none 0 0, .slice (some ⟨n + 1 + 1 + 1 + 1, 0, none⟩) 1 1]⟩
theorem srv_nil (W : World) : SRv W (.slice none 0 0) [] [] := ⟨rfl, fun j h1 _ => by simp at h1, .inl rfl, none, 0, rfl, Nat.le_refl _, .inl rfl⟩
theorem AC.isin {n : Nat} {W : World} (h : AC n W) : (abcI n).In W := by
  refine ⟨srv_nil W, ?_, srv_nil W, ?_⟩
  · refine ⟨rfl, fun j h1 h2 => ?_, .inr ⟨_, _, _, rfl⟩, _, 2, rfl, Nat.le_refl _, .inr ⟨n + 1 + 1 + 1, 0, rfl, fun j h1 => ?_⟩⟩
    · match j, h1, h2 with
      | 0, _, _ => exact ⟨rs_one h.a0 h.a1, .inr ⟨_, _, _, rfl⟩⟩
      | 1, _, _ => exact ⟨rs_one h.b0 h.b1, .inr ⟨_, _, _, rfl⟩⟩
    · match j, h1 with
      | 0, _ => exact h.k0
      | 1, _ => exact h.k1
  · refine ⟨rfl, fun j h1 h2 => ?_, .inr ⟨_, _, _, rfl⟩, _, 3, rfl, Nat.le_refl _, .inr ⟨n + 1 + 1 + 1 + 1 + 1, 0, rfl, fun j h1 h2 => ?_⟩⟩
    · match j, h1, h2 with
      | 0, _, _ => exact ⟨rs_nil _, .inl rfl⟩
      | 1, _, _ => exact ⟨rs_nil _, .inl rfl⟩
      | 2, _, _ => exact ⟨rs_one h.c0 h.c1, .inr ⟨_, _, _, rfl⟩⟩
    · match j, h1, h2 with
      | 0, _, _ => exact ⟨h.p00, h.p01, h.p02, h.p03⟩
      | 1, _, _ => exact ⟨h.p10, h.p11, h.p12, h.p13⟩
      | 2, _, _ => exact ⟨h.p20, h.p21, h.p22, h.p23⟩
theorem abc_sm : Sm abcR := ⟨by decide, by decide, by decide, by decide, by decide, by decide, by decide, by decide⟩
set_option maxHeartbeats 2000000 in
theorem abc_ac (w : World) : Calls Tryd.prog 20 #[] w fun e w' => e = .returned (.agg #[.bool false, .slice none 0 0, .slice (some ⟨w.heap.size + 1 + 1 + 1, 0, none⟩) 2 2, .slice none 0 0, .bool false, .slice (some ⟨w.heap.size + 1 + 1 + 1 + 1 + 1, 0, none⟩) 3 3, .int .i64 1]) ∧ AC w.heap.size w' ∧ Grown w w' := by
  go_enter Tryd.func20, Tryd.ntmps20
  go_wp2
  refine ret_rl (p := 0) (B := w.heap.size) (bg := false) (en := false) (av := .slice none 0 0) (kv := .slice (some ⟨w.heap.size + 1 + 1 + 1, 0, none⟩) 2 2) (pv := .slice none 0 0) (rv := .slice (some ⟨w.heap.size + 1 + 1 + 1 + 1 + 1, 0, none⟩) 3 3) (cu := 1) rfl rfl ?_ ?_ ?_ ?_ ?_ ?_ ?_ ?_
  iterate 7 (· (repeat (first | (refine cell_new ?_ rfl; simp; done) | refine cell_up ?_ _)))
  refine ⟨rfl, ?_, ((((((Grown.refl _).alloc _).alloc _).alloc _).alloc _).alloc _).alloc _⟩
  constructor <;> (repeat (first | (refine cell_new ?_ rfl; simp; done) | refine cell_up ?_ _))

/-- the book, so many lists in it -/
def PJ (w3 : World) (k f N : Nat) (W : World) : Prop :=
  (∃ ov wv es, Bk W w3.heap.size w3.heap.size ov wv es f es.length ∧ es.length = k ∧ ∀ e ∈ es, e.l.length ≤ N) ∧ Below w3.heap.size w3 W
theorem PJ.start (w3 : World) : PJ w3 0 0 1048576 (w3.alloc (.cells #[.slice none 0 0, .slice none 0 0, .int .i64 0] 43)) := by
  refine ⟨⟨.slice none 0 0, .slice none 0 0, [], ⟨?_, Nat.le_refl _, World.ownsRow_nil _ _ _ _, World.ownsRow_nil _ _ _ _, fun e he => (by cases he), fun e he => (by cases he), fun i e _ _ h => (by simp at h), (by simp [blks]), .inl rfl, (by simp), fun e he => (by cases he), Nat.le_refl _⟩, rfl, fun e he => (by cases he)⟩, (Below.refl _ _).alloc (Nat.le_refl _) _⟩
  exact heap_alloc_new _ _
theorem pj_tch {w w3 W W' : World} {ov wv : Value} {es : List BE} {f t : Nat} (h3 : Below w.heap.size w w3) (hW : Below w3.heap.size w3 W) (h : Bk W w3.heap.size w3.heap.size ov wv es f t) (k : Tch w3.heap.size ov wv W W') : w.heap.size ≤ W'.heap.size ∧ ∀ b, b < w.heap.size → W'.heap[b]? = w.heap[b]? := by
  have s1 := h3.size
  have s2 := hW.size
  have s3 := k.size
  refine ⟨by omega, fun b hb => ?_⟩
  rw [k.block b (by omega) (by omega) (fun e => by have := (World.ownsRow.lt h.out b e).1; omega) (fun e => by have := (World.ownsRow.lt h.want b e).1; omega), hW.block b (by omega)]
  exact h3.block b hb
theorem PJ.lays {w w3 : World} (x : RI) (uv : Value) (us : List Int) (hT : Tab w) (hx : x.In w) (hu : IR w uv us) (hN : uv = .slice none 0 0 ∨ ∃ ad n c, uv = .slice (some ad) n c) (sx : Sm x.r) (su : us.length ≤ 1048576) (h3 : Below w.heap.size w w3) {k f N : Nat} (hk : k ≤ 90) (h1 : 1048576 ≤ N) (h2 : N ≤ 1500000) {W : World} (h : PJ w3 k f N W) :
    Calls Tryd.prog 18 #[.pointer (some ⟨w3.heap.size, 0, none⟩), .agg #[.bool x.r.bg, x.av, x.kv, x.pv, .bool x.r.en, x.rv, .int .i64 x.r.cu], uv] W fun e w' => e = .returned (.bool true) ∧ PJ w3 (k + 2) f N w' := by
  obtain ⟨⟨ov, wv, es, hB, hl, hs⟩, hW⟩ := h
  have hw : Below w.heap.size w W := h3.trans (hW.mono h3.size)
  refine (lays18_any w3.heap.size w3.heap.size ov wv es f N x uv us W hB (by omega) h1 h2 hs (hT.below hw hT.pos) (fun W' t => ?_) (fun W' t => ?_) hN sx su).mono ?_
  · obtain ⟨a, b⟩ := pj_tch h3 hW hB t
    exact hx.heap a b
  · obtain ⟨a, b⟩ := pj_tch h3 hW hB t
    exact ir_heap hu a b
  · rintro e w' ⟨rfl, ov', wv', es', g1, g2, g3, g4⟩
    exact ⟨rfl, ⟨ov', wv', es', g1, by omega, g3⟩, hW.trans g4⟩
theorem PJ.laysAbc {w w3 : World} (uv : Value) (us : List Int) (hT : Tab w) (hu : IR w uv us) (hN : uv = .slice none 0 0 ∨ ∃ ad n c, uv = .slice (some ad) n c) (su : us.length ≤ 1048576) (h3 : Below w.heap.size w w3) {k f N : Nat} (hk : k ≤ 90) (h1 : 1048576 ≤ N) (h2 : N ≤ 1500000) {W W1 : World} (h : PJ w3 k f N W) (hA : AC W.heap.size W1) (hg : Grown W W1) :
    Calls Tryd.prog 18 #[.pointer (some ⟨w3.heap.size, 0, none⟩), .agg #[.bool false, .slice none 0 0, .slice (some ⟨W.heap.size + 1 + 1 + 1, 0, none⟩) 2 2, .slice none 0 0, .bool false, .slice (some ⟨W.heap.size + 1 + 1 + 1 + 1 + 1, 0, none⟩) 3 3, .int .i64 1], uv] W1 fun e w' => e = .returned (.bool true) ∧ PJ w3 (k + 2) f N w' := by
  obtain ⟨⟨ov, wv, es, hB, hl, hs⟩, hW⟩ := h
  have hB1 := hB.grown hg
  have hW1 : Below w3.heap.size w3 W1 := hW.trans (hg.below.mono hW.size)
  have hw : Below w.heap.size w W1 := h3.trans (hW1.mono h3.size)
  refine (lays18_any w3.heap.size w3.heap.size ov wv es f N (abcI W.heap.size) uv us W1 hB1 (by omega) h1 h2 hs (hT.below hw hT.pos) (fun W' t => ?_) (fun W' t => ?_) hN abc_sm su).mono ?_
  · refine AC.isin (hA.mid fun b a1 a2 => t.block b a2 ?_ ?_ ?_)
    · have := (Array.getElem?_eq_some_iff.1 hB.bk).1; omega
    · exact fun e => by have := (World.ownsRow.lt hB.out b e).2; omega
    · exact fun e => by have := (World.ownsRow.lt hB.want b e).2; omega
  · obtain ⟨a, b⟩ := pj_tch h3 hW1 hB1 t
    exact ir_heap hu a b
  · rintro e w' ⟨rfl, ov', wv', es', g1, g2, g3, g4⟩
    exact ⟨rfl, ⟨ov', wv', es', g1, by omega, g3⟩, hW1.trans g4⟩
theorem PJ.write {w3 : World} {k f N : Nat} (hk : k ≤ 40) (h2 : N ≤ 1500000) {W : World} (h : PJ w3 k f N W) :
    Calls Tryd.prog 19 #[.pointer (some ⟨w3.heap.size, 0, none⟩)] W fun e w' => e = .returned (.bool true) ∧ ∃ k', k' ≤ 2 * k ∧ PJ w3 k' k' (N + 30) w' := by
  obtain ⟨⟨ov, wv, es, hB, hl, hs⟩, hW⟩ := h
  refine (write_any w3.heap.size w3.heap.size ov wv es f N W hB (by omega) h2 hs).mono ?_
  rintro e w' ⟨rfl, ov', wv', es', g1, g2, g3, g4⟩
  exact ⟨rfl, es'.length, by omega, ⟨ov', wv', es', g1, rfl, g3⟩, hW.trans g4⟩
set_option maxHeartbeats 8000000 in
theorem laysLaw_any (x : RI) (u1 u2 : Value) (l1 l2 : List Int) (w : World) (hT : Tab w) (hx : x.In w) (i1 : IR w u1 l1) (i2 : IR w u2 l2) (n1 : u1 = .slice none 0 0 ∨ ∃ ad n c, u1 = .slice (some ad) n c) (n2 : u2 = .slice none 0 0 ∨ ∃ ad n c, u2 = .slice (some ad) n c) (sx : Sm x.r) (s1 : l1.length ≤ 1048576) (s2 : l2.length ≤ 1048576) :
    Calls Tryd.prog 4 #[.agg #[.bool x.r.bg, x.av, x.kv, x.pv, .bool x.r.en, x.rv, .int .i64 x.r.cu], u1, u2] w fun e w' => e = .returned (.bool true) ∧ Below w.heap.size w w' := by
  obtain ⟨aa, an, ac, ea⟩ : IsSl x.av := hx.rr.a.sl
  obtain ⟨ka, kn, kc, ek⟩ : IsSl x.kv := hx.rr.k.sl
  obtain ⟨pa, pn, pc, ep⟩ : IsSl x.pv := hx.rr.p.sl
  obtain ⟨ra, rn, rc, er⟩ : IsSl x.rv := hx.rr.r.sl
  obtain ⟨ua, uc, hu1, _⟩ := id i1
  obtain ⟨ub, ud, hu2, _⟩ := id i2
  subst hu1 hu2
  obtain ⟨w1, hw1⟩ : ∃ w1, w1 = w.alloc (.cells #[.bool x.r.bg, .slice aa an ac, .slice ka kn kc, .slice pa pn pc, .bool x.r.en, .slice ra rn rc, .int .i64 x.r.cu] 25) := ⟨_, rfl⟩
  have hg1 : Grown w w1 := by rw [hw1]; exact (Grown.refl _).alloc _
  have hc1 : RC w1 w.heap.size x.r.bg (.slice aa an ac) (.slice ka kn kc) (.slice pa pn pc) x.r.en (.slice ra rn rc) x.r.cu := by rw [hw1]; exact rc_new w _ _ _ _ _ _ _
  have HSh : Hid (Calls Tryd.prog 9 #[] w1 fun e w' => e = .returned (.bool true) ∧ Below w1.heap.size w1 w') := shown_any w1 (hT.grown hg1)
  have HRC : Hid (∀ w3, Below w1.heap.size w1 w3 → RC w3 w.heap.size x.r.bg (.slice aa an ac) (.slice ka kn kc) (.slice pa pn pc) x.r.en (.slice ra rn rc) x.r.cu ∧ Below w.heap.size w w3) := fun w3 k => ⟨hc1.below k (Nat.le_refl _), hg1.below.trans (k.mono hg1.size)⟩
  have HL1 : Hid (∀ w3, Below w.heap.size w w3 → ∀ k f N W, k ≤ 90 → 1048576 ≤ N → N ≤ 1500000 → PJ w3 k f N W → Calls Tryd.prog 18 #[.pointer (some ⟨w3.heap.size, 0, none⟩), .agg #[.bool x.r.bg, .slice aa an ac, .slice ka kn kc, .slice pa pn pc, .bool x.r.en, .slice ra rn rc, .int .i64 x.r.cu], .slice ua l1.length uc] W fun e w' => e = .returned (.bool true) ∧ PJ w3 (k + 2) f N w') := fun w3 h3 k f N W a b c p => by
    have := PJ.lays x _ l1 hT hx i1 n1 sx s1 h3 a b c p
    rw [ea, ek, ep, er] at this
    exact this
  have HL2 : Hid (∀ w3, Below w.heap.size w w3 → ∀ k f N W, k ≤ 90 → 1048576 ≤ N → N ≤ 1500000 → PJ w3 k f N W → Calls Tryd.prog 18 #[.pointer (some ⟨w3.heap.size, 0, none⟩), .agg #[.bool x.r.bg, .slice aa an ac, .slice ka kn kc, .slice pa pn pc, .bool x.r.en, .slice ra rn rc, .int .i64 x.r.cu], .slice ub l2.length ud] W fun e w' => e = .returned (.bool true) ∧ PJ w3 (k + 2) f N w') := fun w3 h3 k f N W a b c p => by
    have := PJ.lays x _ l2 hT hx i2 n2 sx s2 h3 a b c p
    rw [ea, ek, ep, er] at this
    exact this
  have HL3 : Hid (∀ w3, Below w.heap.size w w3 → ∀ k f N W W1, k ≤ 90 → 1048576 ≤ N → N ≤ 1500000 → PJ w3 k f N W → AC W.heap.size W1 → Grown W W1 → Calls Tryd.prog 18 #[.pointer (some ⟨w3.heap.size, 0, none⟩), .agg #[.bool false, .slice none 0 0, .slice (some ⟨W.heap.size + 1 + 1 + 1, 0, none⟩) 2 2, .slice none 0 0, .bool false, .slice (some ⟨W.heap.size + 1 + 1 + 1 + 1 + 1, 0, none⟩) 3 3, .int .i64 1], .slice ua l1.length uc] W1 fun e w' => e = .returned (.bool true) ∧ PJ w3 (k + 2) f N w') := fun w3 h3 k f N W W1 a b c p q g => PJ.laysAbc _ l1 hT i1 n1 s1 h3 a b c p q g
  rw [ea, ek, ep, er]
  clear hT hx i1 i2 n1 n2 sx s1 s2 ea ek ep er hg1 hc1
  go_enter Tryd.func4, Tryd.ntmps4
  go_upto_region 1 with fail
  rw [← hw1]
  clear hw1
  go_wp2_with fail
  refine HSh.out.mono ?_
  rintro e w3 ⟨rfl, hb3⟩
  have HR3 := Hid.mk' (HRC.out w3 hb3)
  clear hb3 HRC HSh
  have HP0 := Hid.mk' (PJ.start w3)
  go_upto_region 4 with fail
  obtain ⟨w4, hw4⟩ : ∃ w4, w4 = w3.alloc (.cells #[.slice none 0 0, .slice none 0 0, .int .i64 0] 43) := ⟨_, rfl⟩
  rw [← hw4] at HP0 ⊢
  clear hw4
  have HQ : Hid (∀ W, Below w3.heap.size w3 W → RC W w.heap.size x.r.bg (.slice aa an ac) (.slice ka kn kc) (.slice pa pn pc) x.r.en (.slice ra rn rc) x.r.cu) := fun W k => HR3.out.1.below k (Nat.le_refl _)
  have M1 := Hid.mk' (HL1.out w3 HR3.out.2)
  have M2 := Hid.mk' (HL2.out w3 HR3.out.2)
  have M3 := Hid.mk' (HL3.out w3 HR3.out.2)
  have HFin : Hid (∀ k f N W, PJ w3 k f N W → Below w.heap.size w W) := fun k f N W p => HR3.out.2.trans (p.2.mono HR3.out.2.size)
  clear HL1 HL2 HL3 HR3
  obtain ⟨q0, q1, q2, q3, q4, q5, q6⟩ := HQ.out _ HP0.out.2
  go_wp2_with fail
  refine (M1.out _ _ _ _ (by omega) (by omega) (by omega) HP0.out).mono ?_
  rintro e w10 ⟨rfl, hP⟩
  have HP1 := Hid.mk' hP
  clear hP HP0 q0 q1 q2 q3 q4 q5 q6
  obtain ⟨q0, q1, q2, q3, q4, q5, q6⟩ := HQ.out _ HP1.out.2
  go_wp2_with fail
  refine (M1.out _ _ _ _ (by omega) (by omega) (by omega) HP1.out).mono ?_
  rintro e w11 ⟨rfl, hP⟩
  have HP2 := Hid.mk' hP
  clear hP HP1 q0 q1 q2 q3 q4 q5 q6
  obtain ⟨q0, q1, q2, q3, q4, q5, q6⟩ := HQ.out _ HP2.out.2
  go_wp2_with fail
  refine (M2.out _ _ _ _ (by omega) (by omega) (by omega) HP2.out).mono ?_
  rintro e w12 ⟨rfl, hP⟩
  have HP3 := Hid.mk' hP
  clear hP HP2 q0 q1 q2 q3 q4 q5 q6
  go_wp2_with fail
  refine (PJ.write (by omega) (by omega) HP3.out).mono ?_
  rintro e w20 ⟨rfl, k1, hk1, hP⟩
  have HP4 := Hid.mk' hP
  clear hP HP3
  obtain ⟨q0, q1, q2, q3, q4, q5, q6⟩ := HQ.out _ HP4.out.2
  go_wp2_with fail
  refine (M1.out _ _ _ _ (by omega) (by omega) (by omega) HP4.out).mono ?_
  rintro e w14 ⟨rfl, hP⟩
  have HP5 := Hid.mk' hP
  clear hP HP4 q0 q1 q2 q3 q4 q5 q6
  go_wp2_with fail
  refine (abc_ac _).mono ?_
  rintro e w21 ⟨rfl, hA, hg⟩
  have HC6 := Hid.mk' (M3.out _ _ _ _ _ (by omega) (by omega) (by omega) HP5.out hA hg)
  clear hA hg HP5 M1 M2 M3
  go_wp2_with fail
  refine HC6.out.mono ?_
  rintro e w22 ⟨rfl, hP⟩
  have HP6 := Hid.mk' hP
  clear hP HC6
  go_wp2_with fail
  refine (PJ.write (by omega) (by omega) HP6.out).mono ?_
  rintro e w23 ⟨rfl, k2, hk2, hP⟩
  go_wp2
  go_ret
  exact ⟨rfl, HFin.out _ _ _ _ hP⟩
end Go.Proofs
