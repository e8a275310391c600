/-
  The book: two lists of ranges that grow side by side.
-/
import Derived.RangeFuncNested
import Derived.RangeFuncBound
import Derived.RangeFuncCalls
import Derived.RangeFuncLeaves
import Derived.Shelf.Abstract
import Derived.Shelf.RegionOpen
import Derived.WalkKit
import Derived.WalkSpells
import Derived.WalkLawsBesides
import Derived.OwnWalkIn
import Derived.TacticsInMore
import Derived.LoopNIn
import Derived.LoopIn
import Derived.BigQuiet
import Derived.RegionIn
import Derived.Deep.QuietTactic
import Derived.Deep.RegionWith
import Derived.Lib.OthersKept
import Derived.Maps.AppendAt
import Derived.Maps.OwnIn
import Derived.Lib.SmallJoins
import Derived.ArgAppend
import Derived.Deep.Upon
import Derived.Deep.AppendLies
import Derived.Test.YtmgkolelcflcbaaDoorB5
namespace Go.Proofs
open Go.RowKit Go.Shelf

set_option maxRecDepth 100000
attribute [local go_sem] Oper.semAt_some
attribute [local go_sem ↓] Go.wp_at_zero Go.wp_at_succ
/-- a shorter list in the block of one that grew -/
theorem own_shareS {W W' : World} {base g m n n' c : Nat} {l lo ext : List (Int × Int)} (h : OwnS W base (.slice (some ⟨g, 0, none⟩) m c) l) (h2 : OwnS W base (.slice (some ⟨g, 0, none⟩) n c) lo) (hmn : m ≤ n) (h3 : OwnR W' base (.slice (some ⟨g, 0, none⟩) n' c) (lo ++ ext)) : OwnS W' base (.slice (some ⟨g, 0, none⟩) m c) l := by
  obtain ⟨_, h3⟩ := h3
  rcases h with ⟨e, _⟩ | ⟨g1, o1, c1, cur, e, a1, a2, a3, a4, a5, a6, a7⟩
  · cases e
  rcases h2 with ⟨e2, _⟩ | ⟨g2, o2, c2, cur2, e2, b1, b2, b3, b4, b5, b6, b7⟩
  · cases e2
  rcases h3 with ⟨e3, _⟩ | ⟨g3, c3, cur3, e3, d1, d2, d3, d4, d5, d6⟩
  · cases e3
  injection e with x1 x2 x3
  injection x1 with x1
  injection x1 with x1 x4
  injection e2 with y1 y2 y3
  injection y1 with y1
  injection y1 with y1 y4
  injection e3 with z1 z2 z3
  injection z1 with z1
  injection z1 with z1
  subst x1 x3 y1 y3 z1 z3 x4 y4
  rw [a2] at b2
  injection b2 with b2
  injection b2 with b2
  subst b2
  refine .inr ⟨g, 0, c, cur3, by rw [x2], a1, d2, a3, a4, by omega, fun _ => ⟨rfl, d5⟩, ?_⟩
  rw [List.drop_zero] at a7 b7 ⊢
  rw [← fl_length] at a7 b7 d6 ⊢
  have k1 : (fl l).length ≤ (fl lo).length := by rw [fl_length, fl_length]; omega
  have k2 : (fl lo).length ≤ (fl (lo ++ ext)).length := by rw [fl_append, List.length_append]; omega
  have e1 : (cur3.toList.take (fl (lo ++ ext)).length).take (fl lo).length = fl lo := by rw [d6, fl_append, List.take_left]
  have e2 : (cur3.toList.take (fl lo).length).take (fl l).length = (cur.toList.take (fl lo).length).take (fl l).length := by
    rw [b7]
    rw [List.take_take, Nat.min_eq_left k2] at e1
    rw [e1]
  rw [List.take_take, List.take_take, Nat.min_eq_left k1, a7] at e2
  exact e2
/-- one range behind ranges: in their own row, or, where there is no room, in a new one -/
theorem run_pushS (w : World) (ty : TypeId) (base : Nat) (v : Value) (l : List (Int × Int)) (gs c : Nat) (p : Int × Int) (hc : w.cell? ⟨gs, 0, none⟩ = some (.int .i64 p.1) ∧ w.cell? ⟨gs, 1, none⟩ = some (.int .i64 p.2)) (hl : l.length ≤ 3000000) (hbase : base ≤ w.heap.size) (ho : OwnS w base v l) :
    ∃ v' w', (Builtin.append_ #[29, 29] ty #[v, .slice (some ⟨gs, 0, none⟩) 1 c]).run Tryd.prog w = .ok v' w' ∧ OwnR w' base v' (l ++ [p]) ∧ IsSl v' ∧ ((w.grownBy w' none ∧ ∃ g, v'.ownBlock = some g ∧ w.heap.size ≤ g) ∨ ∃ g n k, v = .slice (some ⟨g, 0, none⟩) n k ∧ v' = .slice (some ⟨g, 0, none⟩) (n + 1) k ∧ w.grownBy w' (some g)) := by
  obtain ⟨i0, hi0, hz0, hz1, hz2⟩ := info_parts info38
  have hc' : ∀ j u, (fl [p])[j]? = some u → w.cell? ((⟨gs, 0, none⟩ : Addr).add j) = some u := fun j u hj => by
    rw [add_zero_at]
    match j, hj with
    | 0, hj => simp [fl] at hj; subst hj; exact hc.1
    | 1, hj => simp [fl] at hj; subst hj; exact hc.2
  have one : ∀ v' w', w'.ownsRow base 38 2 v' (l.length + 1) (fl l ++ fl [p]) → OwnR w' base v' (l ++ [p]) := fun v' w' k => by
    unfold OwnR
    rw [fl_append, List.length_append]
    exact k
  have ho' := ho
  rcases ho with ⟨hv, hl0⟩ | ⟨g, o, cap, cur, hv, k1, k2, k3, k4, k5, k6, k7⟩
  · subst hv
    subst hl0
    obtain ⟨v', w', h1, h2, h3, h4, h5⟩ := run_append_own_at (P := Tryd.prog) w base 29 ty 38 i0 (.agg #[.int .i64 0, .int .i64 0]) 2 16 Tryd.underlying29 hi0 hz0 hz1 hz2 rfl (by decide) (.slice none 0 0) 0 [] (World.ownsRow_nil w _ 38 2) ⟨gs, 0, none⟩ 1 c (fl [p]) (fl_length [p]) hc' (fl_one _) (by unfold maxLen; omega) (by omega) hbase
    have hO := one v' w' (by simpa [fl] using h2)
    have hx : ∃ g, v'.ownBlock = some g ∧ w.heap.size ≤ g := by
      rcases h5 with h5 | h5
      · rcases h2.2 with ⟨_, e⟩ | ⟨g, cap, cur, e, _⟩
        · cases e
        · rw [e] at h5; cases h5
      · exact ⟨_, h5, Nat.le_refl _⟩
    obtain ⟨a, d, e⟩ := hO.form
    exact ⟨v', w', h1, hO, ⟨_, _, _, e⟩, .inl ⟨h3, hx⟩⟩
  · subst hv
    by_cases hr : l.length < cap
    · obtain ⟨rfl, hO0⟩ := ho'.room hr
      obtain ⟨_, k8⟩ := k6 hr
      obtain ⟨v', w', h1, h2, h3, h4, h5⟩ := run_append_own_at (P := Tryd.prog) w base 29 ty 38 i0 (.agg #[.int .i64 0, .int .i64 0]) 2 16 Tryd.underlying29 hi0 hz0 hz1 hz2 rfl (by decide) (.slice (some ⟨g, 0, none⟩) l.length cap) l.length (fl l) hO0 ⟨gs, 0, none⟩ 1 c (fl [p]) (fl_length [p]) hc' (fl_one _) (by unfold maxLen; omega) (by omega) hbase
      have hs2 : i0.size = 2 := hz1
      have hx := run_append_room_cells (P := Tryd.prog) w 29 ty 38 i0 Tryd.underlying29 hi0 g 0 l.length cap ⟨gs, 0, none⟩ 1 c (fl [p]) (by rw [hs2]; exact fl_length [p]) hc' (fl_one _) (by omega) (fun j hj => by
        have hj2 : j < 2 := by rw [fl_length] at hj; simpa using hj
        have : l.length * i0.size + j < cur.size := by rw [hs2, k8]; omega
        simp only [World.cell?, k2]
        simp only [Nat.zero_add, Array.getElem?_eq_getElem this]
        rfl) (fun j hj => by simp [World.frozen?, k2])
      rw [h1] at hx
      injection hx with e1 e2
      have hO := one v' w' h2
      obtain ⟨a, d, e⟩ := hO.form
      exact ⟨v', w', h1, hO, ⟨_, _, _, e⟩, .inr ⟨g, l.length, cap, rfl, e1, h3⟩⟩
    · have hne : cap = l.length := by omega
      subst hne
      obtain ⟨v', w', h1, h2, h3⟩ := run_append_arg_grows (P := Tryd.prog) w 29 ty 38 i0 (.agg #[.int .i64 0, .int .i64 0]) 2 16 Tryd.underlying29 hi0 hz0 hz1 hz2 rfl (by decide) ⟨g, o, none⟩ l.length l.length (fl l) (fl_length l) (reads_fl ho'.reads) ⟨gs, 0, none⟩ 1 c (fl [p]) (fl_length [p]) hc' (by omega) (by unfold maxLen; omega) (by omega)
      have hO := one v' w' (Joins.ownsRow_le h2 hbase)
      have hx : ∃ g, v'.ownBlock = some g ∧ w.heap.size ≤ g := by
        rcases h2.2 with ⟨_, e⟩ | ⟨g2, cap, cur2, e, q1, q2, _⟩
        · cases e
        · exact ⟨g2, by rw [e]; rfl, q1⟩
      obtain ⟨a, d, e⟩ := hO.form
      exact ⟨v', w', h1, hO, ⟨_, _, _, e⟩, .inl ⟨h3, hx⟩⟩
/-- two lists beside the book: the first one is none of the book's, or lies in the block of the book's list that it grew from -/
structure R30 (W : World) (base hb : Nat) (ov wv : Value) (es : List BE) (f u t i : Nat) (lv : Value) (lo : List (Int × Int)) (mv : Value) (lm : List (Int × Int)) : Prop where
  bk : Bok W base hb ov wv es f u t
  lo : OwnS W base lv lo
  mo : OwnR W base mv lm
  la : (∀ b, lv.ownBlock = some b → b ∉ blksO es) ∨ ∃ e g o m n c, es[i]? = some e ∧ e.o = .slice (some ⟨g, o, none⟩) m c ∧ lv = .slice (some ⟨g, o, none⟩) n c ∧ m ≤ n
  ma : ∀ b, mv.ownBlock = some b → b ∉ blksO es ∧ lv.ownBlock ≠ some b
  iu : u ≤ i
  it : i < t
section
variable {W W' : World} {base hb f u t i : Nat} {ov wv : Value} {es : List BE} {lv mv : Value} {lo lm : List (Int × Int)}
theorem Bok.bz (h : Bok W base hb ov wv es f u t) : base ≤ W.heap.size := by have := h.hb; have := (Array.getElem?_eq_some_iff.1 h.bk).1; omega
theorem blks_size (h : Bok W base hb ov wv es f u t) {b : Nat} (hb' : W.heap.size ≤ b) : b ∉ blksO es := fun k => by
  obtain ⟨_, h4⟩ := blks_lt h k
  have := (Array.getElem?_eq_some_iff.1 h4).1
  omega
/-- a row that lies in the block of one of the book's lists grows -/
theorem Bok.rowS (h : Bok W base hb ov wv es f u t) {g : Nat} {e : BE} (hg : W.grownBy W' (some g)) (hu : u ≤ i) (ht : i < t) (he : es[i]? = some e) (hb' : e.o.ownBlock = some g) (hk : OwnS W' base e.o e.l) : Bok W' base hb ov wv es f u t := by
  obtain ⟨_, d, ht1⟩ := (h.ro e (List.mem_of_getElem? he)).typ hb'
  have T : ∀ (b : Nat) (cur : Array Value) (y : TypeId), W.heap[b]? = some (Obj.cells cur y (0, 0)) → b ≠ g → W'.heap[b]? = some (Obj.cells cur y (0, 0)) := fun b cur y hc hy => by
    rw [hg.block b (Array.getElem?_eq_some_iff.1 hc).1 (fun e => hy (by injection e))]
    exact hc
  refine ⟨T _ _ _ h.bk (typ_ne h.bk ht1 (by decide)), h.hb, ownR_stays h.out fun b cur _ _ h2 => T b cur 29 h2 (typ_ne h2 ht1 (by decide)), ownR_stays h.want fun b cur _ _ h2 => T b cur 29 h2 (typ_ne h2 ht1 (by decide)), fun e' he' => ?_, fun e' he' => ?_, h.aw, h.ao, h.ow, h.few, h.sm, h.fr⟩
  · obtain ⟨j, hj⟩ := List.mem_iff_getElem?.1 he'
    by_cases hij : i = j
    · subst hij
      rw [he] at hj
      injection hj with hj
      subst hj
      exact hk
    · exact ownS_stays (h.ro e' he') fun b cur h1 _ h2 => T b cur 38 h2 (fun e1 => h.ao i j e e' g hu ht hij he hj hb' (by rw [h1, e1]))
  · obtain ⟨j, hj⟩ := List.mem_iff_getElem?.1 he'
    exact ownR_stays (h.rw e' he') fun b cur h1 _ h2 => T b cur 38 h2 (fun e1 => (h.aw j i e' e b hj he h1).2 (by rw [hb', e1]))
theorem R30.grown (h : R30 W base hb ov wv es f u t i lv lo mv lm) (k : Grown W W') : R30 W' base hb ov wv es f u t i lv lo mv lm :=
  ⟨h.bk.grown k, h.lo.below k.below (Nat.le_refl _), h.mo.below k.below (Nat.le_refl _), h.la, h.ma, h.iu, h.it⟩
/-- the first list grows -/
theorem R30.stepL (h : R30 W base hb ov wv es f u t i lv lo mv lm) {v' : Value} {p : Int × Int} (h1 : OwnR W' base v' (lo ++ [p])) (hv : (W.grownBy W' none ∧ ∃ g, v'.ownBlock = some g ∧ W.heap.size ≤ g) ∨ ∃ g n k, lv = .slice (some ⟨g, 0, none⟩) n k ∧ v' = .slice (some ⟨g, 0, none⟩) (n + 1) k ∧ W.grownBy W' (some g)) : R30 W' base hb ov wv es f u t i v' (lo ++ [p]) mv lm ∧ Below base W W' := by
  rcases hv with ⟨hg, g, e1, hge⟩ | ⟨g, n, k, e1, e2, hg⟩
  · have hlt : ∀ b, mv.ownBlock = some b → b < W.heap.size := fun b hb' => (World.ownsRow.lt h.mo b hb').2
    refine ⟨⟨h.bk.row hg (fun b hb' => by cases hb'), h1.toS, ownR_stays h.mo fun b cur h2 _ h3 => ?_, .inl fun b hb' => ?_, fun b hb' => ⟨(h.ma b hb').1, fun e => ?_⟩, h.iu, h.it⟩, (Below.refl _ W).grown hg h.bk.bz (fun b hb' => by cases hb')⟩
    · rw [hg.block b (Array.getElem?_eq_some_iff.1 h3).1 (fun e => by cases e)]
      exact h3
    · rw [e1] at hb'
      injection hb' with hb'
      subst hb'
      exact blks_size h.bk hge
    · rw [e1] at e
      injection e with e
      have := hlt b hb'
      omega
  · have hlb : lv.ownBlock = some g := by rw [e1]; rfl
    have hvb : v'.ownBlock = some g := by rw [e2]; rfl
    have hmo : OwnR W' base mv lm := ownR_stays h.mo fun b cur h2 _ h3 => by
      rw [hg.block b (Array.getElem?_eq_some_iff.1 h3).1 (fun e => ?_)]
      · exact h3
      · injection e with e
        exact (h.ma b h2).2 (by rw [hlb, e])
    have hma : ∀ b, mv.ownBlock = some b → b ∉ blksO es ∧ v'.ownBlock ≠ some b := fun b hb' => ⟨(h.ma b hb').1, fun e => (h.ma b hb').2 (by rw [hlb, ← hvb]; exact e)⟩
    have hbel : Below base W W' := (Below.refl _ W).grown hg h.bk.bz (fun b hb' => by
      injection hb' with hb'
      exact (h.lo.typ (by rw [hlb, hb'])).1)
    rcases h.la with hla | ⟨e, g', o', m, n', c, he, ho, hl, hmn⟩
    · refine ⟨⟨h.bk.row hg fun b hb' => ?_, h1.toS, hmo, .inl fun b hb' => ?_, hma, h.iu, h.it⟩, hbel⟩
      · injection hb' with hb'
        subst hb'
        exact ⟨hla g hlb, (h.lo.typ hlb).2⟩
      · exact hla b (by rw [hlb, ← hvb]; exact hb')
    · rw [e1] at hl
      injection hl with l1 l2 l3
      injection l1 with l1
      injection l1 with l1 l4
      subst l1 l2 l3 l4
      have hlo := h.lo
      rw [e1] at hlo
      have hro := h.bk.ro e (List.mem_of_getElem? he)
      rw [ho] at hro
      rw [e2] at h1
      have hk : OwnS W' base e.o e.l := by
        rw [ho]
        exact own_shareS hro hlo hmn h1
      refine ⟨⟨h.bk.rowS hg h.iu h.it he (by rw [ho]; rfl) hk, by rw [e2]; exact h1.toS, hmo, .inr ⟨e, g, 0, m, n + 1, k, he, ho, e2, by omega⟩, hma, h.iu, h.it⟩, hbel⟩
/-- the second list grows -/
theorem R30.stepM (h : R30 W base hb ov wv es f u t i lv lo mv lm) {v' : Value} {p : Int × Int} (h1 : OwnR W' base v' (lm ++ [p])) (hv : (W.grownBy W' none ∧ ∃ g, v'.ownBlock = some g ∧ W.heap.size ≤ g) ∨ ∃ g n k, mv = .slice (some ⟨g, 0, none⟩) n k ∧ v' = .slice (some ⟨g, 0, none⟩) (n + 1) k ∧ W.grownBy W' (some g)) : R30 W' base hb ov wv es f u t i lv lo v' (lm ++ [p]) ∧ Below base W W' := by
  have hlt : ∀ b, lv.ownBlock = some b → b < W.heap.size := fun b hb' => h.lo.lt hb'
  rcases hv with ⟨hg, g, e1, hge⟩ | ⟨g, n, k, e1, e2, hg⟩
  · refine ⟨⟨h.bk.row hg (fun b hb' => by cases hb'), ownS_stays h.lo fun b cur h2 _ h3 => ?_, h1, h.la, fun b hb' => ?_, h.iu, h.it⟩, (Below.refl _ W).grown hg h.bk.bz (fun b hb' => by cases hb')⟩
    · rw [hg.block b (Array.getElem?_eq_some_iff.1 h3).1 (fun e => by cases e)]
      exact h3
    · rw [e1] at hb'
      injection hb' with hb'
      subst hb'
      exact ⟨blks_size h.bk hge, fun e => by have := hlt _ e; omega⟩
  · have hlb : mv.ownBlock = some g := by rw [e1]; rfl
    have hvb : v'.ownBlock = some g := by rw [e2]; rfl
    refine ⟨⟨h.bk.row hg fun b hb' => ?_, ownS_stays h.lo fun b cur h2 _ h3 => ?_, h1, h.la, fun b hb' => h.ma b (by rw [hlb, ← hvb]; exact hb'), h.iu, h.it⟩, (Below.refl _ W).grown hg h.bk.bz (fun b hb' => by
      injection hb' with hb'
      exact (row_typ h.mo (by rw [hlb, hb'])).1)⟩
    · injection hb' with hb'
      subst hb'
      exact ⟨(h.ma g hlb).1, (row_typ h.mo hlb).2⟩
    · rw [hg.block b (Array.getElem?_eq_some_iff.1 h3).1 (fun e => ?_)]
      · exact h3
      · injection e with e
        exact (h.ma g hlb).2 (by rw [h2, e])
theorem push_L30 {ops : Array Oper} {rest : List Oper} {o : Oper} {a : Act} {Q : Exit → Act → World → Prop} (hgd : o.guard = none) (s x : Operand) (hop : o.op = .call { callee := .builtin .append, args := #[s, x], argTypes := #[29, 29] })
    (hs : a.eval s = lv) (h : R30 W base hb ov wv es f u t i lv lo mv lm) (gs c : Nat) (p : Int × Int) (hx : a.eval x = .slice (some ⟨gs, 0, none⟩) 1 c) (hc : W.cell? ⟨gs, 0, none⟩ = some (.int .i64 p.1) ∧ W.cell? ⟨gs, 1, none⟩ = some (.int .i64 p.2)) (hl : lo.length ≤ 3000000)
    (hK : ∀ v' w', R30 w' base hb ov wv es f u t i v' (lo ++ [p]) mv lm → Below base W w' → IsSl v' → wpList Tryd.prog ops Q rest (a.put o.dst v') w') : wpList Tryd.prog ops Q (o :: rest) a W := by
  refine wpList_plain hgd fun K hK2 => ?_
  obtain ⟨v', w', hr, h1, h6, h2⟩ := run_pushS W o.type base lv lo gs c p hc hl h.bk.bz h.lo
  unfold Oper.wp execOp
  simp only [hop, resolve, invoke, builtin, Sem.run_bind, Sem.run_pure, Result.andThen_ok, List.map_toArray, List.map_cons, List.map_nil, hs, hx, hr]
  obtain ⟨k1, k2⟩ := h.stepL h1 h2
  exact hK2 _ _ (hK v' w' k1 k2 h6)
theorem push_M30 {ops : Array Oper} {rest : List Oper} {o : Oper} {a : Act} {Q : Exit → Act → World → Prop} (hgd : o.guard = none) (s x : Operand) (hop : o.op = .call { callee := .builtin .append, args := #[s, x], argTypes := #[29, 29] })
    (hs : a.eval s = mv) (h : R30 W base hb ov wv es f u t i lv lo mv lm) (gs c : Nat) (p : Int × Int) (hx : a.eval x = .slice (some ⟨gs, 0, none⟩) 1 c) (hc : W.cell? ⟨gs, 0, none⟩ = some (.int .i64 p.1) ∧ W.cell? ⟨gs, 1, none⟩ = some (.int .i64 p.2)) (hl : lm.length ≤ 3000000)
    (hK : ∀ v' w', R30 w' base hb ov wv es f u t i lv lo v' (lm ++ [p]) → Below base W w' → IsSl v' → wpList Tryd.prog ops Q rest (a.put o.dst v') w') : wpList Tryd.prog ops Q (o :: rest) a W := by
  refine wpList_plain hgd fun K hK2 => ?_
  obtain ⟨v', w', hr, h1, h6, h2⟩ := run_pushS W o.type base mv lm gs c p hc hl h.bk.bz h.mo.toS
  unfold Oper.wp execOp
  simp only [hop, resolve, invoke, builtin, Sem.run_bind, Sem.run_pure, Result.andThen_ok, List.map_toArray, List.map_cons, List.map_nil, hs, hx, hr]
  obtain ⟨k1, k2⟩ := h.stepM h1 h2
  exact hK2 _ _ (hK v' w' k1 k2 h6)
/-- fresh is set: no list from there on -/
theorem Bok.fresh (h : Bok W base hb ov wv es f u t) : Bok (W.setCell ⟨hb, 2, none⟩ (.int .i64 es.length)) base hb ov wv es es.length es.length es.length := by
  have T := turns_set W hb 2 (.int .i64 es.length)
  have K : ∀ (b : Nat) (cur : Array Value) (y : TypeId), W.heap[b]? = some (Obj.cells cur y (0, 0)) → y ≠ 27 → (W.setCell ⟨hb, 2, none⟩ (.int .i64 es.length)).heap[b]? = some (Obj.cells cur y (0, 0)) := fun b cur y hc hy => by
    rw [T b (typ_ne hc h.bk hy)]
    exact hc
  refine ⟨?_, h.hb, ownR_stays h.out fun b cur _ _ h2 => K b cur 29 h2 (by decide), ownR_stays h.want fun b cur _ _ h2 => K b cur 29 h2 (by decide), fun e he => ownS_stays (h.ro e he) fun b cur h1 _ h2 => K b cur 38 h2 (by decide), fun e he => ownR_stays (h.rw e he) fun b cur h1 _ h2 => K b cur 38 h2 (by decide), h.aw, fun i j e e' b h1 h2 => by omega, h.ow, h.few, h.sm, Nat.le_refl _⟩
  have := cells_setS (j := 2) (u := .int .i64 es.length) h.bk
  simpa using this
end
end Go.Proofs
