/-
  The book of lists that were handed out.
-/
import Derived.RangeFuncNested
import Derived.RangeFuncBound
import Derived.RangeFuncCalls
import Derived.RangeFuncLeaves
import Derived.Shelf.Abstract
import Derived.Shelf.RegionOpen
import Derived.WalkKit
import Derived.WalkSpells
import Derived.WalkLawsBesides
import Derived.OwnWalkIn
import Derived.TacticsInMore
import Derived.LoopNIn
import Derived.LoopIn
import Derived.BigQuiet
import Derived.RegionIn
import Derived.Deep.QuietTactic
import Derived.Deep.RegionWith
import Derived.Lib.OthersKept
import Derived.Maps.AppendAt
import Derived.Lib.SmallJoins
import Derived.Shelf.SlSortCmp.QuietGrown
import Derived.Deep.AppendLies
import Derived.Test.YtcfjdijmobgbpaaDoorXb
import Derived.Test.YtcfjdijmobgbpaaDoorWe
import Derived.Test.YtcfjdijmobgbpaaDoorQg
import Derived.Deep.Upon
import Derived.Test.YtcfjdijmobgbpaaDoorGi
import Derived.Test.YtcfjdijmobgbpaaDoorTh
import Derived.ArgAppend
import Derived.Test.YtcfjdijmobgbpaaDoorGr
namespace Go.Proofs
open Go.RowKit Go.Shelf

set_option maxRecDepth 100000
attribute [local go_sem] Oper.semAt_some
attribute [local go_sem ↓] Go.wp_at_zero Go.wp_at_succ

theorem Hid.mk2 {p : Prop} (h : p) : Hid p := h
/-- a list that was handed out, what it must read as, and what both read -/
structure BE where
  o : Value
  w : Value
  l : List Int
def bl (v : Value) : List Nat := v.ownBlock.toList
def blks (es : List BE) : List Nat := es.flatMap fun e => bl e.o ++ bl e.w
theorem own_stays {W W' : World} {base n size : Nat} {e : TypeId} {v : Value} {xs : List Value} (h : W.ownsRow base e size v n xs) (k : ∀ b cur, v.ownBlock = some b → base ≤ b → W.heap[b]? = some (.cells cur e (0, 0)) → W'.heap[b]? = some (.cells cur e (0, 0))) : W'.ownsRow base e size v n xs := by
  refine ⟨h.1, ?_⟩
  rcases h.2 with h | ⟨g, cap, cur, e1, h1, h2, h3⟩
  · exact .inl h
  · exact .inr ⟨g, cap, cur, e1, h1, k g cur (by rw [e1]; rfl) h1 h2, h3⟩
/-- a list whose room is what it holds -/
def Tight (v : Value) : Prop := v = .slice none 0 0 ∨ ∃ g n, v = .slice (some ⟨g, 0, none⟩) n n
/-- the book in memory -/
structure Bk (W : World) (base hb : Nat) (ov wv : Value) (es : List BE) (f t : Nat) : Prop where
  bk : W.heap[hb]? = some (.cells #[ov, wv, .int .i64 f] 43 (0, 0))
  hb : base ≤ hb
  out : W.ownsRow base 39 1 ov es.length (es.map BE.o)
  want : W.ownsRow base 39 1 wv es.length (es.map BE.w)
  ro : ∀ e ∈ es, OwnI W base e.o e.l
  rw : ∀ e ∈ es, OwnI W base e.w e.l
  ti : ∀ (i : Nat) (e : BE), f ≤ i → i < t → es[i]? = some e → Tight e.o
  ap : (blks es).Nodup
  ow : ov.ownBlock = none ∨ ov.ownBlock ≠ wv.ownBlock
  few : es.length ≤ 100
  sm : ∀ e ∈ es, e.l.length ≤ 2000000
  fr : f ≤ es.length
section
variable {W W' : World} {base hb f t : Nat} {ov wv : Value} {es : List BE}
theorem Bk.stays (h : Bk W base hb ov wv es f t) (k : ∀ b cur y, base ≤ b → (y = 3 ∨ y = 39 ∨ y = 43) → W.heap[b]? = some (.cells cur y (0, 0)) → W'.heap[b]? = some (.cells cur y (0, 0))) : Bk W' base hb ov wv es f t :=
  ⟨k _ _ _ h.hb (.inr (.inr rfl)) h.bk, h.hb, own_stays h.out fun b cur _ h1 h2 => k b cur 39 h1 (.inr (.inl rfl)) h2, own_stays h.want fun b cur _ h1 h2 => k b cur 39 h1 (.inr (.inl rfl)) h2, fun e he => own_stays (h.ro e he) fun b cur _ h1 h2 => k b cur 3 h1 (.inl rfl) h2, fun e he => own_stays (h.rw e he) fun b cur _ h1 h2 => k b cur 3 h1 (.inl rfl) h2, h.ti, h.ap, h.ow, h.few, h.sm, h.fr⟩
theorem Bk.below (h : Bk W base hb ov wv es f t) {n : Nat} (hb' : Below n W W') (hn : W.heap.size ≤ n) : Bk W' base hb ov wv es f t :=
  h.stays fun b _ _ _ _ ho => (hb'.block b (Nat.lt_of_lt_of_le (Array.getElem?_eq_some_iff.1 ho).1 hn)).trans ho
theorem Bk.grown (h : Bk W base hb ov wv es f t) (k : Grown W W') : Bk W' base hb ov wv es f t := h.below k.below (Nat.le_refl _)
theorem Bk.cell (h : Bk W base hb ov wv es f t) : W.cell? ⟨hb, 0, none⟩ = some ov ∧ W.cell? ⟨hb, 1, none⟩ = some wv ∧ W.cell? ⟨hb, 2, none⟩ = some (.int .i64 f) := by
  simp [World.cell?, h.bk]
theorem row_some {n : Nat} {e : TypeId} {v : Value} {xs : List Value} (h : W.ownsRow base e 1 v n xs) (hn : n ≠ 0) : ∃ g cap, v = .slice (some ⟨g, 0, none⟩) n cap ∧ base ≤ g ∧ n ≤ cap ∧ ∀ (j : Nat) (u : Value), xs[j]? = some u → W.cell? ⟨g, j, none⟩ = some u := by
  rcases h.2 with ⟨_, h0⟩ | ⟨g, cap, cur, e1, h1, h2, h3, h4, h5, h6⟩
  · exact absurd h0 hn
  · refine ⟨g, cap, e1, h1, h3, fun j u hj => ?_⟩
    rw [← h6] at hj
    simp only [World.cell?, h2]
    have : cur.toList[j]? = some u := by
      rw [List.getElem?_take] at hj
      split at hj
      · exact hj
      · cases hj
    simpa using this
theorem row_nil {n : Nat} {e : TypeId} {v : Value} {xs : List Value} (h : W.ownsRow base e 1 v n xs) : ∃ a cap, v = .slice a n cap := by
  rcases h.2 with ⟨e1, h0⟩ | ⟨g, cap, cur, e1, h1, h2, h3, h4, h5, h6⟩
  · exact ⟨_, _, by rw [e1, h0]⟩
  · exact ⟨_, _, e1⟩
end
set_option maxHeartbeats 1000000 in
theorem holds_nil (hb : Nat) (a b : Option Addr) (c d : Nat) (w : World) (h0 : w.cell? ⟨hb, 0, none⟩ = some (.slice a 0 c)) (h1 : w.cell? ⟨hb, 1, none⟩ = some (.slice b 0 d)) : Calls Tryd.prog 42 #[.pointer (some ⟨hb, 0, none⟩)] w fun e w' => e = .returned (.bool true) ∧ Grown w w' := by
  go_enter Tryd.func42, Tryd.ntmps42
  go_wp2
  go_loopw [10] (fun vi wr => vi = .int .i64 0 ∧ wr = w) (fun _ _ => 0)
  case atStart => exact ⟨rfl, rfl⟩
  case round =>
    obtain ⟨rfl, rfl⟩ := hrel
    go_wp2
    go_ret
    exact ⟨rfl, Grown.refl _⟩
set_option maxHeartbeats 2000000 in
theorem holds_any (base hb : Nat) (ov wv : Value) (es : List BE) (f t : Nat) (w : World) (h : Bk w base hb ov wv es f t) : Calls Tryd.prog 42 #[.pointer (some ⟨hb, 0, none⟩)] w fun e w' => e = .returned (.bool true) ∧ Grown w w' := by
  by_cases hz : es.length = 0
  · have ho := h.out
    have hw := h.want
    rw [hz] at ho hw
    obtain ⟨a, c, rfl⟩ := row_nil ho
    obtain ⟨b, d, rfl⟩ := row_nil hw
    exact holds_nil hb a b c d w h.cell.1 h.cell.2.1
  · obtain ⟨go, co, rfl, _, hoc, hoe⟩ := row_some h.out hz
    obtain ⟨gw, cw, rfl, _, hwc, hwe⟩ := row_some h.want hz
    obtain ⟨n, hnn⟩ : ∃ n, es.length = n := ⟨_, rfl⟩
    have HN : Hid (es.length = n) := hnn
    have hn1 : n ≤ 100 := by rw [← hnn]; exact h.few
    have h0 := h.cell.1
    have h1 := h.cell.2.1
    have HO : Hid (∀ j u, (es.map BE.o)[j]? = some u → w.cell? ⟨go, j, none⟩ = some u) := hoe
    have HW : Hid (∀ j u, (es.map BE.w)[j]? = some u → w.cell? ⟨gw, j, none⟩ = some u) := hwe
    rw [hnn] at h0 h1 hoc hwc
    have HC : Hid (∀ (j : Nat) (hj : j < es.length) (W : World), Grown w W → Calls Tryd.prog 26 #[es[j].o, es[j].w] W fun e w' => e = .returned (.bool true) ∧ Grown W w') := fun j hj W hG => by
      have hm : es[j] ∈ es := List.getElem_mem hj
      have h1 := (h.ro _ hm).ir
      have h2 := (h.rw _ hm).ir
      refine (numbers_any _ _ _ _ W (h1.grown hG) (h2.grown hG) (by have := h.sm _ hm; omega)).mono fun e w' ⟨a, b⟩ => ⟨by rw [a]; simp, b⟩
    have HSL : Hid (∀ (j : Nat) (hj : j < es.length), IsSl es[j].o ∧ IsSl es[j].w) := fun j hj => by
      have hm : es[j] ∈ es := List.getElem_mem hj
      obtain ⟨a1, c1, e1⟩ := row_nil (h.ro _ hm)
      obtain ⟨a2, c2, e2⟩ := row_nil (h.rw _ hm)
      exact ⟨⟨_, _, _, e1⟩, ⟨_, _, _, e2⟩⟩
    clear hoe hwe hnn h hz
    go_enter Tryd.func42, Tryd.ntmps42
    go_wp2
    go_loopw [10] (fun vi wr => ∃ k : Nat, vi = .int .i64 k ∧ k ≤ n ∧ Grown w wr) (fun vi _ => n - (intOf vi).toNat)
    case atStart => exact ⟨0, rfl, by omega, Grown.refl _⟩
    case round =>
      obtain ⟨k, rfl, hk, hB⟩ := hrel
      by_cases hlt : k < n
      · have hlt' : (k : Int) < (n : Int) := by omega
        have hpos : (0 : Int) ≤ (k : Int) := by omega
        have hkl : k < es.length := by rw [HN.out]; exact hlt
        have hc := hB.cellv (HO.out k es[k].o (by simp [hkl]))
        have hi := hB.cellv (HW.out k es[k].w (by simp [hkl]))
        have h0' := hB.cellv h0
        have h1' := hB.cellv h1
        have HCC : Hid (∀ W, Grown w W → Calls Tryd.prog 26 #[es[k].o, es[k].w] W fun e w' => e = .returned (.bool true) ∧ Grown W w') := HC.out k hkl
        obtain ⟨⟨a1, n1, c1, e1⟩, ⟨a2, n2, c2, e2⟩⟩ := HSL.out k hkl
        rw [e1] at hc HCC
        rw [e2] at hi HCC
        clear e1 e2 HSL HC
        go_wp2_with fail
        refine (HCC.out _ hB).mono ?_
        rintro e w5 ⟨rfl, hG2⟩
        go_wp2
        exact ⟨⟨k + 1, by go_num, by omega, hB.trans hG2⟩, by simp [intOf]; omega⟩
      · go_wp2
        go_ret
        exact ⟨rfl, hB⟩

theorem linfo39 : (Tryd.prog.info? 39).map (fun i => (i.zero, i.size, i.bytes)) = some (some (.slice none 0 0), 1, 24) := by kernel_rfl
theorem add_at2 (g o j : Nat) : (⟨g, o, none⟩ : Addr).add j = ⟨g, o + j, none⟩ := by unfold Addr.add; split <;> simp_all
/-- a copy of numbers in a new block (or none) -/
theorem run_copyI (w : World) (ty : TypeId) (xv : Value) (e : List Int) (hi : IR w xv e) (hl : e.length ≤ 1000000000) :
    ∃ v' w', (Builtin.append_ #[39, 39] ty #[.slice none 0 0, xv]).run Tryd.prog w = .ok v' w' ∧ OwnI w' w.heap.size v' e ∧ Below w.heap.size w w' := by
  obtain ⟨i0, hi0, hz0, hz1, hz2⟩ := info_parts iinfo3
  obtain ⟨A, c, rfl, hc, hr⟩ := hi
  by_cases he : e = []
  · subst he
    have hr := run_append_nothing (P := Tryd.prog) w 39 39 ty 3 i0 Tryd.underlying39 hi0 none 0 0 (Nat.le_refl _) (.slice A 0 c) ⟨.inl ⟨3, Tryd.underlying39⟩, fun w' => by cases A <;> simp [Builtin.lenOf, go_sem], by cases A <;> simp [Builtin.firstCells, go_sem], by cases A <;> simp [Builtin.firstCells, go_sem], by simp, by simp⟩
    exact ⟨_, _, hr, OwnI.nil _ _, Below.refl _ _⟩
  · obtain ⟨g, o', rfl, hd⟩ := hr.resolve_left he
    obtain ⟨v', w', h1, h2, h3, _⟩ := run_append_own_at (P := Tryd.prog) w w.heap.size 39 ty 3 i0 (.int .i64 0) 1 8 Tryd.underlying39 hi0 hz0 hz1 hz2 rfl (by decide) (.slice none 0 0) 0 [] (World.ownsRow_nil w _ 3 1) ⟨g, o', none⟩ e.length c (ints e) (by rw [ints_length, Nat.mul_one]) (fun j u hj => by
      simp only [ints, List.getElem?_map, Option.map_eq_some_iff] at hj
      obtain ⟨y, hy, rfl⟩ := hj
      obtain ⟨hj1, hj2⟩ := List.getElem?_eq_some_iff.1 hy
      rw [add_at2, hd j hj1, hj2]) (ints_one _) (by unfold maxLen; omega) (by omega) (Nat.le_refl _)
    refine ⟨v', w', h1, by unfold OwnI; simpa using h2, (Below.refl _ w).grown h3 (Nat.le_refl _) (fun k hk => by cases hk)⟩
theorem step_copyI {ops : Array Oper} {o : Oper} {a : Act} {w : World} {K : Act → World → Prop} {Q : Exit → Act → World → Prop} {E : Prop} (hg : o.guard = none) (x : Operand) (hop : o.op = .call { callee := .builtin .append, args := #[.const (.slice none 0 0), x], argTypes := #[39, 39] })
    (xv : Value) (e : List Int) (hx : a.eval x = xv) (hi : IR w xv e) (hl : e.length ≤ 1000000000) (hK : ∀ v' w', OwnI w' w.heap.size v' e → Below w.heap.size w w' → K (a.put o.dst v') w') :
    if Region.wanted o (yielded ops a.tmps) = true then Oper.wp Tryd.prog o a w K Q else E := by
  have hw : Region.wanted o (yielded ops a.tmps) = true := by simp [Region.wanted, hg]
  rw [if_pos hw]
  obtain ⟨v', w', hr, h1, h2⟩ := run_copyI w o.type xv e hi hl
  have hn : a.eval (.const (.slice none 0 0)) = .slice none 0 0 := rfl
  unfold Oper.wp execOp
  simp only [hop, resolve, invoke, builtin, Sem.run_bind, Sem.run_pure, Result.andThen_ok, List.map_toArray, List.map_cons, List.map_nil, hn, hx, hr]
  exact hK v' w' h1 h2
/-- one list more in a row of lists -/
theorem run_appL (w : World) (ty : TypeId) (base : Nat) (v : Value) (n : Nat) (vs : List Value) (hown : w.ownsRow base 39 1 v n vs) (gs c : Nat) (u : Value) (hc : w.cell? ⟨gs, 0, none⟩ = some u) (hu : IsSl u) (hl : n ≤ 2000000) (hbase : base ≤ w.heap.size) :
    ∃ g cap w', (Builtin.append_ #[41, 41] ty #[v, .slice (some ⟨gs, 0, none⟩) 1 c]).run Tryd.prog w = .ok (.slice (some ⟨g, 0, none⟩) (n + 1) cap) w' ∧ w'.ownsRow base 39 1 (.slice (some ⟨g, 0, none⟩) (n + 1) cap) (n + 1) (vs ++ [u]) ∧ w.grownBy w' v.ownBlock ∧ (v.ownBlock = some g ∨ g = w.heap.size) := by
  obtain ⟨i0, hi0, hz0, hz1, hz2⟩ := info_parts linfo39
  obtain ⟨v', w', h1, h2, h3, h4, h5⟩ := run_append_own_at (P := Tryd.prog) w base 41 ty 39 i0 (.slice none 0 0) 1 24 Tryd.underlying41 hi0 hz0 hz1 hz2 rfl (by decide) v n vs hown ⟨gs, 0, none⟩ 1 c [u] rfl (fun j x hj => by
      match j, hj with
      | 0, hj => simp at hj; subst hj; exact hc) (fun x hx => by simp at hx; subst hx; obtain ⟨A, k, d, rfl⟩ := hu; rfl) (by unfold maxLen; omega) (by omega) hbase
  rcases h2.2 with ⟨e, _⟩ | ⟨g, cap, cur, e, _⟩
  · exact absurd (h4.1 e).2 (by decide)
  · subst e
    refine ⟨g, cap, w', h1, h2, h3, ?_⟩
    rcases h5 with h5 | h5
    · exact .inl h5.symm
    · exact .inr (by simpa [Value.ownBlock] using h5)
theorem step_appL {ops : Array Oper} {o : Oper} {a : Act} {w : World} {K : Act → World → Prop} {Q : Exit → Act → World → Prop} {E : Prop} (hg : o.guard = none) (s x : Operand) (hop : o.op = .call { callee := .builtin .append, args := #[s, x], argTypes := #[41, 41] })
    (base : Nat) (v : Value) (n : Nat) (vs : List Value) (hs : a.eval s = v) (hown : w.ownsRow base 39 1 v n vs) (gs c : Nat) (u : Value) (hx : a.eval x = .slice (some ⟨gs, 0, none⟩) 1 c) (hc : w.cell? ⟨gs, 0, none⟩ = some u) (hu : IsSl u) (hl : n ≤ 2000000) (hbase : base ≤ w.heap.size)
    (hK : ∀ g cap w', w'.ownsRow base 39 1 (.slice (some ⟨g, 0, none⟩) (n + 1) cap) (n + 1) (vs ++ [u]) → w.grownBy w' v.ownBlock → (v.ownBlock = some g ∨ g = w.heap.size) → K (a.put o.dst (.slice (some ⟨g, 0, none⟩) (n + 1) cap)) w') :
    if Region.wanted o (yielded ops a.tmps) = true then Oper.wp Tryd.prog o a w K Q else E := by
  have hw : Region.wanted o (yielded ops a.tmps) = true := by simp [Region.wanted, hg]
  rw [if_pos hw]
  obtain ⟨g, cap, w', hr, h1, h2, h3⟩ := run_appL w o.type base v n vs hown gs c u hc hu hl hbase
  unfold Oper.wp execOp
  simp only [hop, resolve, invoke, builtin, Sem.run_bind, Sem.run_pure, Result.andThen_ok, List.map_toArray, List.map_cons, List.map_nil, hs, hx, hr]
  exact hK g cap w' h1 h2 h3
theorem app_L {ops : Array Oper} {rest : List Oper} {o : Oper} {a : Act} {Q : Exit → Act → World → Prop} {w : World} (hgd : o.guard = none) (s x : Operand) (hop : o.op = .call { callee := .builtin .append, args := #[s, x], argTypes := #[41, 41] })
    (base : Nat) (v : Value) (n : Nat) (vs : List Value) (hs : a.eval s = v) (hown : w.ownsRow base 39 1 v n vs) (gs c : Nat) (u : Value) (hx : a.eval x = .slice (some ⟨gs, 0, none⟩) 1 c) (hc : w.cell? ⟨gs, 0, none⟩ = some u) (hu : IsSl u) (hl : n ≤ 2000000) (hbase : base ≤ w.heap.size)
    (h : ∀ g cap w', w'.ownsRow base 39 1 (.slice (some ⟨g, 0, none⟩) (n + 1) cap) (n + 1) (vs ++ [u]) → w.grownBy w' v.ownBlock → (v.ownBlock = some g ∨ g = w.heap.size) → wpList Tryd.prog ops Q rest (a.put o.dst (.slice (some ⟨g, 0, none⟩) (n + 1) cap)) w') : wpList Tryd.prog ops Q (o :: rest) a w := by
  refine wpList_plain hgd fun K hK => ?_
  obtain ⟨g, cap, w', hr, h1, h2, h3⟩ := run_appL w o.type base v n vs hown gs c u hc hu hl hbase
  unfold Oper.wp execOp
  simp only [hop, resolve, invoke, builtin, Sem.run_bind, Sem.run_pure, Result.andThen_ok, List.map_toArray, List.map_cons, List.map_nil, hs, hx, hr]
  exact hK _ _ (h g cap w' h1 h2 h3)
theorem app_copyI {ops : Array Oper} {rest : List Oper} {o : Oper} {a : Act} {Q : Exit → Act → World → Prop} {w : World} (hgd : o.guard = none) (x : Operand) (hop : o.op = .call { callee := .builtin .append, args := #[.const (.slice none 0 0), x], argTypes := #[39, 39] })
    (xv : Value) (e : List Int) (hx : a.eval x = xv) (hi : IR w xv e) (hl : e.length ≤ 1000000000) (h : ∀ v' w', OwnI w' w.heap.size v' e → Below w.heap.size w w' → wpList Tryd.prog ops Q rest (a.put o.dst v') w') : wpList Tryd.prog ops Q (o :: rest) a w := by
  refine wpList_plain hgd fun K hK => ?_
  obtain ⟨v', w', hr, h1, h2⟩ := run_copyI w o.type xv e hi hl
  have hn : a.eval (.const (.slice none 0 0)) = .slice none 0 0 := rfl
  unfold Oper.wp execOp
  simp only [hop, resolve, invoke, builtin, Sem.run_bind, Sem.run_pure, Result.andThen_ok, List.map_toArray, List.map_cons, List.map_nil, hn, hx, hr]
  exact hK _ _ (h v' w' h1 h2)

/-- what lies where in keep's last region -/
structure KJ (w0 : World) (base hb : Nat) (wv : Value) (n : Nat) (ws : List Value) (lv : Value) (l : List Int) (p : Nat → Bool) (vs : Nat → Value) (W : World) : Prop where
  v0 : p 0 = true → vs 0 = .pointer (some ⟨hb, 0, none⟩)
  v1 : p 1 = true → vs 1 = .pointer (some ⟨hb, 0, none⟩)
  v2 : p 2 = true → vs 2 = .pointer (some ⟨hb, 0, none⟩)
  v3 : p 3 = true → vs 3 = .pointer (some ⟨hb, 1, none⟩)
  v4 : p 4 = true → vs 4 = wv
  v5 : p 5 = true → vs 5 = lv
  v9 : p 9 = true → vs 9 = .pointer (some ⟨hb, 0, none⟩)
  v10 : p 10 = true → vs 10 = .pointer (some ⟨hb, 1, none⟩)
  x0 : p 6 = false → W = w0.drew
  x1 : p 6 = true → p 7 = false → OwnI W w0.heap.size (vs 6) l ∧ Below w0.heap.size w0 W
  x2 : p 7 = true → p 8 = false → OwnI W w0.heap.size (vs 6) l ∧ Below w0.heap.size w0 W ∧ ∃ b, vs 7 = .slice (some ⟨b, 0, none⟩) 1 1 ∧ W.heap[b]? = some (.cells #[vs 6] 39 (0, 0)) ∧ w0.heap.size ≤ b
  x3 : p 8 = true → ∃ g c W3, vs 8 = .slice (some ⟨g, 0, none⟩) (n + 1) c ∧ OwnI W3 w0.heap.size (vs 6) l ∧ W3.ownsRow base 39 1 (.slice (some ⟨g, 0, none⟩) (n + 1) c) (n + 1) (ws ++ [vs 6]) ∧ w0.grownBy W3 wv.ownBlock ∧ (wv.ownBlock = some g ∨ w0.heap.size ≤ g) ∧ (p 11 = false → W = W3) ∧ (p 11 = true → W = W3.setCell ⟨hb, 1, none⟩ (.slice (some ⟨g, 0, none⟩) (n + 1) c))
  o4 : p 8 = true → p 4 = true
  o6 : p 7 = true → p 6 = true
  o7 : p 8 = true → p 7 = true
  o8 : p 11 = true → p 8 = true
  o11 : p 11 = true → p 10 = true
section
variable {w0 : World} {base hb : Nat} {wv : Value} {n : Nat} {ws : List Value} {lv : Value} {l : List Int} {p : Nat → Bool} {vs : Nat → Value} {W : World}
theorem KJ.start : KJ w0 base hb wv n ws lv l (fun _ => false) (fun _ => undef) w0.drew :=
  ⟨by simp, by simp, by simp, by simp, by simp, by simp, by simp, by simp, fun _ => rfl, by simp, by simp, by simp, by simp, by simp, by simp, by simp, by simp⟩
theorem bool_not {a b : Bool} (h : a = true → b = true) (hb : b = false) : a = false := by
  cases a with
  | false => rfl
  | true => rw [h rfl] at hb; cases hb
theorem KJ.pre (h : KJ w0 base hb wv n ws lv l p vs W) (h8 : p 8 = false) : Below w0.heap.size w0 W := by
  cases h6 : p 6 with
  | false => rw [h.x0 h6]; exact (Below.refl _ w0).drew
  | true =>
    cases h7 : p 7 with
    | false => exact (h.x1 h6 h7).2
    | true => exact (h.x2 h7 h8).2.1
theorem KJ.put0 (h : KJ w0 base hb wv n ws lv l p vs W) : KJ w0 base hb wv n ws lv l (fun j => p j || j == 0) (fun j => if j = 0 then .pointer (some ⟨hb, 0, none⟩) else vs j) W :=
  ⟨fun _ => rfl, by simpa using h.v1, by simpa using h.v2, by simpa using h.v3, by simpa using h.v4, by simpa using h.v5, by simpa using h.v9, by simpa using h.v10, by simpa using h.x0, by simpa using h.x1, by simpa using h.x2, by simpa using h.x3, by simpa using h.o4, by simpa using h.o6, by simpa using h.o7, by simpa using h.o8, by simpa using h.o11⟩
theorem KJ.put1 (h : KJ w0 base hb wv n ws lv l p vs W) : KJ w0 base hb wv n ws lv l (fun j => p j || j == 1) (fun j => if j = 1 then .pointer (some ⟨hb, 0, none⟩) else vs j) W :=
  ⟨by simpa using h.v0, fun _ => rfl, by simpa using h.v2, by simpa using h.v3, by simpa using h.v4, by simpa using h.v5, by simpa using h.v9, by simpa using h.v10, by simpa using h.x0, by simpa using h.x1, by simpa using h.x2, by simpa using h.x3, by simpa using h.o4, by simpa using h.o6, by simpa using h.o7, by simpa using h.o8, by simpa using h.o11⟩
theorem KJ.put2 (h : KJ w0 base hb wv n ws lv l p vs W) : KJ w0 base hb wv n ws lv l (fun j => p j || j == 2) (fun j => if j = 2 then .pointer (some ⟨hb, 0, none⟩) else vs j) W :=
  ⟨by simpa using h.v0, by simpa using h.v1, fun _ => rfl, by simpa using h.v3, by simpa using h.v4, by simpa using h.v5, by simpa using h.v9, by simpa using h.v10, by simpa using h.x0, by simpa using h.x1, by simpa using h.x2, by simpa using h.x3, by simpa using h.o4, by simpa using h.o6, by simpa using h.o7, by simpa using h.o8, by simpa using h.o11⟩
theorem KJ.put3 (h : KJ w0 base hb wv n ws lv l p vs W) : KJ w0 base hb wv n ws lv l (fun j => p j || j == 3) (fun j => if j = 3 then .pointer (some ⟨hb, 1, none⟩) else vs j) W :=
  ⟨by simpa using h.v0, by simpa using h.v1, by simpa using h.v2, fun _ => rfl, by simpa using h.v4, by simpa using h.v5, by simpa using h.v9, by simpa using h.v10, by simpa using h.x0, by simpa using h.x1, by simpa using h.x2, by simpa using h.x3, by simpa using h.o4, by simpa using h.o6, by simpa using h.o7, by simpa using h.o8, by simpa using h.o11⟩
theorem KJ.put4 (h : KJ w0 base hb wv n ws lv l p vs W) : KJ w0 base hb wv n ws lv l (fun j => p j || j == 4) (fun j => if j = 4 then wv else vs j) W :=
  ⟨by simpa using h.v0, by simpa using h.v1, by simpa using h.v2, by simpa using h.v3, fun _ => rfl, by simpa using h.v5, by simpa using h.v9, by simpa using h.v10, by simpa using h.x0, by simpa using h.x1, by simpa using h.x2, by simpa using h.x3, fun _ => by simp, by simpa using h.o6, by simpa using h.o7, by simpa using h.o8, by simpa using h.o11⟩
theorem KJ.put5 (h : KJ w0 base hb wv n ws lv l p vs W) : KJ w0 base hb wv n ws lv l (fun j => p j || j == 5) (fun j => if j = 5 then lv else vs j) W :=
  ⟨by simpa using h.v0, by simpa using h.v1, by simpa using h.v2, by simpa using h.v3, by simpa using h.v4, fun _ => rfl, by simpa using h.v9, by simpa using h.v10, by simpa using h.x0, by simpa using h.x1, by simpa using h.x2, by simpa using h.x3, by simpa using h.o4, by simpa using h.o6, by simpa using h.o7, by simpa using h.o8, by simpa using h.o11⟩
theorem KJ.put9 (h : KJ w0 base hb wv n ws lv l p vs W) : KJ w0 base hb wv n ws lv l (fun j => p j || j == 9) (fun j => if j = 9 then .pointer (some ⟨hb, 0, none⟩) else vs j) W :=
  ⟨by simpa using h.v0, by simpa using h.v1, by simpa using h.v2, by simpa using h.v3, by simpa using h.v4, by simpa using h.v5, fun _ => rfl, by simpa using h.v10, by simpa using h.x0, by simpa using h.x1, by simpa using h.x2, by simpa using h.x3, by simpa using h.o4, by simpa using h.o6, by simpa using h.o7, by simpa using h.o8, by simpa using h.o11⟩
theorem KJ.put10 (h : KJ w0 base hb wv n ws lv l p vs W) : KJ w0 base hb wv n ws lv l (fun j => p j || j == 10) (fun j => if j = 10 then .pointer (some ⟨hb, 1, none⟩) else vs j) W :=
  ⟨by simpa using h.v0, by simpa using h.v1, by simpa using h.v2, by simpa using h.v3, by simpa using h.v4, by simpa using h.v5, by simpa using h.v9, fun _ => rfl, by simpa using h.x0, by simpa using h.x1, by simpa using h.x2, by simpa using h.x3, by simpa using h.o4, by simpa using h.o6, by simpa using h.o7, by simpa using h.o8, fun _ => by simp⟩
theorem KJ.put6 (h : KJ w0 base hb wv n ws lv l p vs W) (h6 : p 6 = false) {mv : Value} {W' : World} (ho : OwnI W' w0.heap.size mv l) (hb' : Below w0.heap.size w0 W') : KJ w0 base hb wv n ws lv l (fun j => p j || j == 6) (fun j => if j = 6 then mv else vs j) W' :=
  have h7 := bool_not h.o6 h6
  have h8 := bool_not h.o7 h7
  ⟨by simpa using h.v0, by simpa using h.v1, by simpa using h.v2, by simpa using h.v3, by simpa using h.v4, by simpa using h.v5, by simpa using h.v9, by simpa using h.v10, fun a => by simp at a, fun _ _ => ⟨by simpa using ho, hb'⟩, fun a => by simp [h7] at a, fun a => by simp [h8] at a, by simpa using h.o4, fun a => by simp, by simpa using h.o7, by simpa using h.o8, by simpa using h.o11⟩
theorem KJ.put7 (h : KJ w0 base hb wv n ws lv l p vs W) (h6 : p 6 = true) (h7 : p 7 = false) : KJ w0 base hb wv n ws lv l (fun j => p j || j == 7) (fun j => if j = 7 then .slice (some ⟨W.heap.size, 0, none⟩) 1 1 else vs j) (W.alloc (.cells #[vs 6] 39)) :=
  have h8 := bool_not h.o7 h7
  have hx := h.x1 h6 h7
  ⟨by simpa using h.v0, by simpa using h.v1, by simpa using h.v2, by simpa using h.v3, by simpa using h.v4, by simpa using h.v5, by simpa using h.v9, by simpa using h.v10, fun a => by simp [h6] at a, fun _ a => by simp at a, fun _ _ => ⟨by simpa using OwnI.alloc hx.1 _, hx.2.alloc hx.2.size _, W.heap.size, rfl, by simpa using heap_alloc_new W (.cells #[vs 6] 39), hx.2.size⟩, fun a => by simp [h8] at a, by simpa using h.o4, fun _ => by simpa using h6, fun _ => by simp, by simpa using h.o8, by simpa using h.o11⟩
theorem KJ.put8 (h : KJ w0 base hb wv n ws lv l p vs W) (h4 : p 4 = true) (h7 : p 7 = true) (h8 : p 8 = false) {g c : Nat} {W' : World} (ho : W'.ownsRow base 39 1 (.slice (some ⟨g, 0, none⟩) (n + 1) c) (n + 1) (ws ++ [vs 6])) (hg : W.grownBy W' wv.ownBlock) (hG : wv.ownBlock = some g ∨ g = W.heap.size) (hlt : ∀ b, wv.ownBlock = some b → b < w0.heap.size) : KJ w0 base hb wv n ws lv l (fun j => p j || j == 8) (fun j => if j = 8 then .slice (some ⟨g, 0, none⟩) (n + 1) c else vs j) W' := by
  have h11 := bool_not h.o8 h8
  obtain ⟨hx1, hx2, _⟩ := h.x2 h7 h8
  have hm : OwnI W' w0.heap.size (vs 6) l := own_stays hx1 fun b cur hb1 hb2 hb3 => (hg.block b (Array.getElem?_eq_some_iff.1 hb3).1 (fun e => by have := hlt b e.symm; omega)).trans hb3
  have hgr : w0.grownBy W' wv.ownBlock := ⟨hg.os.trans hx2.os, hg.tape.trans hx2.tape, hg.output.trans hx2.output, Nat.le_trans hx2.size hg.size, fun k hk hne => (hg.block k (Nat.lt_of_lt_of_le hk hx2.size) hne).trans (hx2.block k hk)⟩
  have hG' : wv.ownBlock = some g ∨ w0.heap.size ≤ g := hG.imp id fun e => by rw [e]; exact hx2.size
  exact ⟨by simpa using h.v0, by simpa using h.v1, by simpa using h.v2, by simpa using h.v3, by simpa using h.v4, by simpa using h.v5, by simpa using h.v9, by simpa using h.v10, fun a => by simp [h.o6 h7] at a, fun _ a => by simp [h7] at a, fun _ a => by simp at a, fun _ => ⟨g, c, W', rfl, by simpa using hm, by simpa using ho, hgr, hG', fun _ => rfl, fun a => by simp [h11] at a⟩, fun _ => by simpa using h4, by simpa using h.o6, fun _ => by simpa using h7, fun a => by simp, by simpa using h.o11⟩
theorem KJ.put11 (h : KJ w0 base hb wv n ws lv l p vs W) (h8 : p 8 = true) (h10 : p 10 = true) (h11 : p 11 = false) : ∃ g c, vs 8 = .slice (some ⟨g, 0, none⟩) (n + 1) c ∧ ∀ v, KJ w0 base hb wv n ws lv l (fun j => p j || j == 11) (fun j => if j = 11 then v else vs j) (W.setCell ⟨hb, 1, none⟩ (.slice (some ⟨g, 0, none⟩) (n + 1) c)) := by
  obtain ⟨g, c, W3, e8, hm, ho, hg, hG, w1, w2⟩ := h.x3 h8
  have h7 := h.o7 h8
  have h6 := h.o6 h7
  obtain rfl := w1 h11
  exact ⟨g, c, e8, fun v => ⟨by simpa using h.v0, by simpa using h.v1, by simpa using h.v2, by simpa using h.v3, by simpa using h.v4, by simpa using h.v5, by simpa using h.v9, by simpa using h.v10, fun a => by simp [h6] at a, fun _ a => by simp [h7] at a, fun _ a => by simp [h8] at a, fun _ => ⟨g, c, W, by simpa using e8, by simpa using hm, by simpa using ho, hg, hG, fun a => by simp at a, fun _ => rfl⟩, by simpa using h.o4, by simpa using h.o6, by simpa using h.o7, fun _ => by simpa using h8, fun _ => by simpa using h10⟩⟩
end

section
variable {W W' : World} {base hb f t : Nat} {ov wv : Value} {es : List BE}
theorem row_typ {e : TypeId} {size n : Nat} {v : Value} {xs : List Value} {b : Nat} (h : W.ownsRow base e size v n xs) (hv : v.ownBlock = some b) : base ≤ b ∧ ∃ cur, W.heap[b]? = some (.cells cur e (0, 0)) := by
  rcases h.2 with ⟨e1, _⟩ | ⟨g, cap, cur, e1, h1, h2, _⟩
  · rw [e1] at hv; cases hv
  · rw [e1] at hv
    have : g = b := by simpa [Value.ownBlock] using hv
    subst this
    exact ⟨h1, cur, h2⟩
theorem Bk.no (h : Bk W base hb ov wv es f t) : ov.ownBlock ≠ some hb := fun e => by
  obtain ⟨_, cur, h2⟩ := row_typ h.out e
  rw [h.bk] at h2
  injection h2 with h2
  injection h2 with _ h2 _
  cases h2
theorem Bk.nw (h : Bk W base hb ov wv es f t) : wv.ownBlock ≠ some hb := fun e => by
  obtain ⟨_, cur, h2⟩ := row_typ h.want e
  rw [h.bk] at h2
  injection h2 with h2
  injection h2 with _ h2 _
  cases h2
end
theorem cell_new1 (w : World) (u : Value) (t : TypeId) : (w.alloc (.cells #[u] t)).cell? ⟨w.heap.size, 0, none⟩ = some u := by
  have := heap_alloc_new w (.cells #[u] t)
  simp only [World.cell?]
  rw [this]
  rfl
/-- what keep touches: the book and its two rows -/
structure Tch (hb : Nat) (ov wv : Value) (W W' : World) : Prop where
  size : W.heap.size ≤ W'.heap.size
  block : ∀ b, b < W.heap.size → b ≠ hb → ov.ownBlock ≠ some b → wv.ownBlock ≠ some b → W'.heap[b]? = W.heap[b]?
/-- a row's block is the one it was, or a new one -/
def Mvd (n : Nat) (v v' : Value) : Prop := v'.ownBlock = v.ownBlock ∨ ∃ g, v'.ownBlock = some g ∧ n ≤ g
/-- after the first of keep's two appends -/
structure K1 (w : World) (base hb : Nat) (ov wv : Value) (es : List BE) (f : Nat) (lv : Value) (l : List Int) (ov' : Value) (W : World) : Prop where
  bel : Below base w W
  bk : W.heap[hb]? = some (.cells #[ov', wv, .int .i64 f] 43 (0, 0))
  out : W.ownsRow base 39 1 ov' (es.length + 1) (es.map BE.o ++ [lv])
  ob : ov'.ownBlock = ov.ownBlock ∨ ∃ g, ov'.ownBlock = some g ∧ w.heap.size ≤ g
  blk : ∀ b, b < w.heap.size → b ≠ hb → ov.ownBlock ≠ some b → W.heap[b]? = w.heap[b]?
theorem k1_of {w w5 : World} {base hb : Nat} {ov wv : Value} {es : List BE} {f t : Nat} {lv : Value} {l : List Int} (h : Bk w base hb ov wv es f t) {g c : Nat} {ob : Obj} (ho : w5.ownsRow base 39 1 (.slice (some ⟨g, 0, none⟩) (es.length + 1) c) (es.length + 1) (es.map BE.o ++ [lv])) (hg : (w.alloc ob).grownBy w5 ov.ownBlock) (hG : ov.ownBlock = some g ∨ g = (w.alloc ob).heap.size) :
    w5.heap[hb]? = some (.cells #[ov, wv, .int .i64 f] 43 (0, 0)) ∧ K1 w base hb ov wv es f lv l (.slice (some ⟨g, 0, none⟩) (es.length + 1) c) (w5.setCell ⟨hb, 0, none⟩ (.slice (some ⟨g, 0, none⟩) (es.length + 1) c)) := by
  have hlt := (Array.getElem?_eq_some_iff.1 h.bk).1
  have hB : base ≤ w.heap.size := by have := h.hb; omega
  have hal : ∀ b, b < w.heap.size → (w.alloc ob).heap[b]? = w.heap[b]? := fun b hb => heap_alloc_old w ob b hb
  have hsz : (w.alloc ob).heap.size = w.heap.size + 1 := Array.size_push _
  have h5 : ∀ b, b < w.heap.size → ov.ownBlock ≠ some b → w5.heap[b]? = w.heap[b]? := fun b hb hne => (hg.block b (by omega) (fun e => hne e.symm)).trans (hal b hb)
  have h5b : w5.heap[hb]? = some (.cells #[ov, wv, .int .i64 f] 43 (0, 0)) := (h5 hb hlt h.no).trans h.bk
  refine ⟨h5b, ?_, ?_, ?_, ?_, ?_⟩
  · exact (((Below.refl base w).alloc hB _).grown hg (by omega) (fun k hk => (World.ownsRow.lt h.out k hk).1)).setCell (p := ⟨hb, 0, none⟩) h.hb _
  · have := cells_setS (j := 0) (u := .slice (some ⟨g, 0, none⟩) (es.length + 1) c) h5b
    simpa using this
  · refine own_stays ho fun b cur _ _ h3 => ?_
    rw [turns_set _ hb 0 _ b (fun e => by subst e; rw [h5b] at h3; injection h3 with h3; injection h3 with _ h3 _; cases h3)]
    exact h3
  · rcases hG with hG | hG
    · exact .inl (by rw [hG]; rfl)
    · exact .inr ⟨g, rfl, by rw [hG, hsz]; omega⟩
  · intro b hb1 hb2 hb3
    rw [turns_set _ hb 0 _ b hb2]
    exact h5 b hb1 hb3
theorem mem_bl {v : Value} {b : Nat} : b ∈ bl v ↔ v.ownBlock = some b := by simp [bl]
theorem blks_mem {es : List BE} {b : Nat} : b ∈ blks es ↔ ∃ e ∈ es, e.o.ownBlock = some b ∨ e.w.ownBlock = some b := by
  simp only [blks, List.mem_flatMap, List.mem_append, mem_bl]
theorem blks_lt {w : World} {base hb : Nat} {ov wv : Value} {es : List BE} {f t : Nat} (h : Bk w base hb ov wv es f t) {b : Nat} (hb' : b ∈ blks es) : ∃ cur, w.heap[b]? = some (.cells cur 3 (0, 0)) := by
  obtain ⟨e, he, h1 | h1⟩ := blks_mem.1 hb'
  · exact (row_typ (h.ro e he) h1).2
  · exact (row_typ (h.rw e he) h1).2
theorem typ_ne {w : World} {a b : Nat} {c d : Array Value} {t u : TypeId} (h1 : w.heap[a]? = some (.cells c t (0, 0))) (h2 : w.heap[b]? = some (.cells d u (0, 0))) (hne : t ≠ u) : a ≠ b := fun e => by
  subst e
  rw [h1] at h2
  injection h2 with h2
  injection h2 with _ h2 _
  exact hne h2
theorem k2_of {w w6 W3 : World} {base hb : Nat} {ov wv : Value} {es : List BE} {f t t' : Nat} {lv ov' mv : Value} {l : List Int} (h : Bk w base hb ov wv es f t) (hl : OwnI w base lv l) (ht : ∀ (i : Nat) (e : BE), f ≤ i → i < t' → (es ++ [(⟨lv, mv, l⟩ : BE)])[i]? = some e → Tight e.o) (hap : ∀ b, lv.ownBlock = some b → b ∉ blks es) (hn : l.length ≤ 2000000) (hes : es.length ≤ 99) (k : K1 w base hb ov wv es f lv l ov' w6) (hm : OwnI W3 base mv l) (hmb : ∀ b, mv.ownBlock = some b → b ∉ blks es ∧ lv.ownBlock ≠ some b) {g c : Nat} (ho : W3.ownsRow base 39 1 (.slice (some ⟨g, 0, none⟩) (es.length + 1) c) (es.length + 1) (es.map BE.w ++ [mv])) (hg : w6.grownBy W3 wv.ownBlock) (hG : wv.ownBlock = some g ∨ w6.heap.size ≤ g) :
    Bk (W3.setCell ⟨hb, 1, none⟩ (.slice (some ⟨g, 0, none⟩) (es.length + 1) c)) base hb ov' (.slice (some ⟨g, 0, none⟩) (es.length + 1) c) (es ++ [⟨lv, mv, l⟩]) f t' ∧ Tch hb ov wv w (W3.setCell ⟨hb, 1, none⟩ (.slice (some ⟨g, 0, none⟩) (es.length + 1) c)) ∧ Below base w (W3.setCell ⟨hb, 1, none⟩ (.slice (some ⟨g, 0, none⟩) (es.length + 1) c)) ∧ Mvd w.heap.size ov ov' ∧ Mvd w.heap.size wv (.slice (some ⟨g, 0, none⟩) (es.length + 1) c) := by
  have hbl := (Array.getElem?_eq_some_iff.1 h.bk).1
  have hB : base ≤ w.heap.size := by have := h.hb; omega
  have hs6 := k.bel.size
  have h3b : W3.heap[hb]? = some (.cells #[ov', wv, .int .i64 f] 43 (0, 0)) := (hg.block hb (by omega) (fun e => h.nw e.symm)).trans k.bk
  have T := turns_set W3 hb 1 (.slice (some ⟨g, 0, none⟩) (es.length + 1) c)
  have S : ∀ b, b < w.heap.size → b ≠ hb → ov.ownBlock ≠ some b → wv.ownBlock ≠ some b → (W3.setCell ⟨hb, 1, none⟩ (.slice (some ⟨g, 0, none⟩) (es.length + 1) c)).heap[b]? = w.heap[b]? := fun b h1 h2 h3 h4 => by
    rw [T b h2, hg.block b (by omega) (fun e => h4 e.symm)]
    exact k.blk b h1 h2 h3
  have S3 : ∀ (b : Nat) (cur : Array Value), w.heap[b]? = some (Obj.cells cur 3 (0, 0)) → (W3.setCell ⟨hb, 1, none⟩ (.slice (some ⟨g, 0, none⟩) (es.length + 1) c)).heap[b]? = some (Obj.cells cur 3 (0, 0)) := fun b cur hc =>
    (S b (Array.getElem?_eq_some_iff.1 hc).1 (typ_ne hc h.bk (by decide)) (fun e => by obtain ⟨_, d, h2⟩ := row_typ h.out e; exact typ_ne hc h2 (by decide) rfl) (fun e => by obtain ⟨_, d, h2⟩ := row_typ h.want e; exact typ_ne hc h2 (by decide) rfl)).trans hc
  refine ⟨⟨?_, h.hb, ?_, ?_, ?_, ?_, ?_, ?_, ?_, ?_, ?_, ?_⟩, ⟨?_, S⟩, ?_, k.ob, hG.imp (fun e => e.symm) fun e => ⟨g, rfl, by omega⟩⟩
  · have := cells_setS (j := 1) (u := .slice (some ⟨g, 0, none⟩) (es.length + 1) c) h3b
    simpa using this
  · have e1 : (es ++ [(⟨lv, mv, l⟩ : BE)]).length = es.length + 1 := by simp
    rw [e1, List.map_append]
    refine own_stays k.out fun b cur h1 h2 h3 => ?_
    rw [T b (typ_ne h3 k.bk (by decide)), hg.block b (Array.getElem?_eq_some_iff.1 h3).1 (fun e => ?_)]
    · exact h3
    · rcases k.ob with h4 | ⟨g', h4, h5⟩
      · rw [h1] at h4
        rcases h.ow with h6 | h6
        · rw [h6] at h4; cases h4
        · exact h6 (h4.symm.trans e)
      · rw [h1] at h4
        injection h4 with h4
        have := (World.ownsRow.lt h.want b e.symm).2
        omega
  · have e1 : (es ++ [(⟨lv, mv, l⟩ : BE)]).length = es.length + 1 := by simp
    rw [e1, List.map_append]
    refine own_stays ho fun b cur h1 h2 h3 => ?_
    rw [T b (typ_ne h3 h3b (by decide))]
    exact h3
  · intro e he
    rcases List.mem_append.1 he with he | he
    · exact own_stays (h.ro e he) fun b cur _ _ h3 => S3 b cur h3
    · obtain rfl := List.mem_singleton.1 he
      exact own_stays hl fun b cur _ _ h3 => S3 b cur h3
  · intro e he
    rcases List.mem_append.1 he with he | he
    · exact own_stays (h.rw e he) fun b cur _ _ h3 => S3 b cur h3
    · obtain rfl := List.mem_singleton.1 he
      refine own_stays hm fun b cur _ _ h3 => ?_
      rw [T b (typ_ne h3 h3b (by decide))]
      exact h3
  · exact ht
  · have e1 : blks (es ++ [(⟨lv, mv, l⟩ : BE)]) = blks es ++ (bl lv ++ bl mv) := by simp [blks]
    have hnd : ∀ v : Value, (bl v).Nodup := fun v => by unfold bl; cases v.ownBlock <;> simp
    rw [e1, List.nodup_append, List.nodup_append]
    refine ⟨h.ap, ⟨hnd _, hnd _, fun a ha b hb' e => ?_⟩, fun a ha b hb' e => ?_⟩
    · subst e
      exact (hmb a (mem_bl.1 hb')).2 (mem_bl.1 ha)
    · subst e
      rcases List.mem_append.1 hb' with hb' | hb'
      · exact hap a (mem_bl.1 hb') ha
      · exact (hmb a (mem_bl.1 hb')).1 ha
  · right
    intro e
    have e2 : ov'.ownBlock = some g := e
    rcases hG with hG | hG
    · rcases k.ob with h4 | ⟨g', h4, h5⟩
      · rw [e2] at h4
        rcases h.ow with h6 | h6
        · rw [h6] at h4; cases h4
        · exact h6 (h4.symm.trans hG.symm)
      · rw [e2] at h4
        injection h4 with h4
        have := (World.ownsRow.lt h.want g hG).2
        omega
    · have := (World.ownsRow.lt k.out g e2).2
      omega
  · simp; omega
  · intro e he
    rcases List.mem_append.1 he with he | he
    · exact h.sm e he
    · obtain rfl := List.mem_singleton.1 he
      show l.length ≤ 2000000
      omega
  · have := h.fr
    simp
    omega
  · show w.heap.size ≤ (W3.setCell _ _).heap.size
    have h1 : (W3.setCell ⟨hb, 1, none⟩ (.slice (some ⟨g, 0, none⟩) (es.length + 1) c)).heap.size = W3.heap.size := by simp [World.setCell]
    have := hg.size
    omega
  · exact (k.bel.grown hg (by omega) (fun b hb' => (World.ownsRow.lt h.want b hb').1)).setCell (p := ⟨hb, 1, none⟩) h.hb _
set_option maxHeartbeats 4000000 in
theorem keep_any (base hb : Nat) (ov wv : Value) (es : List BE) (f : Nat) (lv : Value) (l : List Int) (w : World) (h : Bk w base hb ov wv es f es.length) (hl : OwnI w base lv l) (ht : Tight lv) (hap : ∀ b, lv.ownBlock = some b → b ∉ blks es) (hn : l.length ≤ 1500000) (hes : es.length ≤ 99) :
    Calls Tryd.prog 39 #[.pointer (some ⟨hb, 0, none⟩), lv] w fun e w' => (∃ x, e = .returned x) ∧ ∃ ov' wv' mv, Bk w' base hb ov' wv' (es ++ [⟨lv, mv, l⟩]) f (es.length + 1) ∧ Tch hb ov wv w w' ∧ Below base w w' ∧ Mvd w.heap.size ov ov' ∧ Mvd w.heap.size wv wv' ∧ (∀ b, mv.ownBlock = some b → w.heap.size ≤ b) := by
  have HB : Hid (Bk w base hb ov wv es f es.length) := h
  have HL : Hid (OwnI w base lv l) := hl
  have hm := mixed
  obtain ⟨n, hnn⟩ : ∃ n, es.length = n := ⟨_, rfl⟩
  have HN : Hid (es.length = n) := hnn
  obtain ⟨oa, oc, rfl⟩ := row_nil h.out
  obtain ⟨wa, wc, rfl⟩ := row_nil h.want
  obtain ⟨la, ln, lc, rfl⟩ : IsSl lv := by obtain ⟨a, c, e⟩ := row_nil hl; exact ⟨_, _, _, e⟩
  have c0 := h.cell.1
  have hbz : base ≤ w.heap.size := by have := h.hb; have := (Array.getElem?_eq_some_iff.1 h.bk).1; omega
  have HO : Hid (∀ ob, (w.alloc ob).ownsRow base 39 1 (.slice oa n oc) n (es.map BE.o) ∧ base ≤ (w.alloc ob).heap.size) := fun ob => by
    have := h.out
    rw [hnn] at this
    exact ⟨World.ownsRow.alloc this ob, by have : (w.alloc ob).heap.size = w.heap.size + 1 := Array.size_push _; omega⟩
  have HK1 : Hid (∀ (g c : Nat) (ob : Obj) (w5 : World), w5.ownsRow base 39 1 (.slice (some ⟨g, 0, none⟩) (n + 1) c) (n + 1) (es.map BE.o ++ [.slice la ln lc]) → (w.alloc ob).grownBy w5 (Value.slice oa n oc).ownBlock → ((Value.slice oa n oc).ownBlock = some g ∨ g = (w.alloc ob).heap.size) → w5.heap[hb]? = some (.cells #[.slice oa n oc, .slice wa n wc, .int .i64 f] 43 (0, 0)) ∧ K1 w base hb (.slice oa n oc) (.slice wa n wc) es f (.slice la ln lc) l (.slice (some ⟨g, 0, none⟩) (n + 1) c) (w5.setCell ⟨hb, 0, none⟩ (.slice (some ⟨g, 0, none⟩) (n + 1) c))) := fun g c ob w5 a b d => by
    have := k1_of (l := l) (lv := .slice la ln lc) h (g := g) (c := c) (ob := ob) (w5 := w5)
    rw [hnn] at this
    exact this a b d
  rw [hnn] at c0
  rw [hnn] at HB hes
  have hnI : n ≤ 2000000 := by omega
  clear h hl hnn
  go_enter Tryd.func39, Tryd.ntmps39
  go_upto_region 1 with (at_builtin; go_must (refine app_L rfl _ _ rfl base (.slice oa n oc) n (es.map BE.o) rfl (HO.out _).1 _ _ (.slice la ln lc) rfl (cell_new1 _ _ _) ⟨_, _, _, rfl⟩ hnI (HO.out _).2 ?_; intro g c w5 ho5 hg5 hG5; have HX := Hid.mk2 (HK1.out g c _ w5 ho5 hg5 hG5); clear ho5 hg5 hG5; have c5 : w5.cell? ⟨hb, 0, none⟩ = some (.slice oa n oc) := (by simp [World.cell?, HX.out.1]); have f5 : w5.frozen? ⟨hb, 0, none⟩ = false := (by simp [World.frozen?, HX.out.1])))
  obtain ⟨w6, hw6⟩ : ∃ w6, w6 = w5.setCell ⟨hb, 0, none⟩ (.slice (some ⟨g, 0, none⟩) (n + 1) c) := ⟨_, rfl⟩
  rw [← hw6]
  have HK := Hid.mk2 HX.out.2
  rw [← hw6] at HK
  clear hw6 c5 f5 HX HK1 HO c0
  have hB0 := HB.out
  have hK0 := HK.out
  have HB6 : Hid (w6.heap[hb]? = some (.cells #[.slice (some ⟨g, 0, none⟩) (n + 1) c, .slice wa n wc, .int .i64 f] 43 (0, 0))) := hK0.bk
  have HW6 : Hid (w6.ownsRow base 39 1 (.slice wa n wc) n (es.map BE.w)) := by
    have := hB0.want
    rw [HN.out] at this
    refine own_stays this fun b cur h1 _ h3 => ?_
    rw [hK0.blk b (Array.getElem?_eq_some_iff.1 h3).1 (typ_ne h3 hB0.bk (by decide)) (fun e => ?_)]
    · exact h3
    · rcases hB0.ow with h6 | h6
      · rw [h6] at e; cases e
      · exact h6 (e.trans h1.symm)
  have HI6 : Hid (IR w6.drew (.slice la ln lc) l) := by
    have : OwnI w6 base (.slice la ln lc) l := own_stays HL.out fun b cur h1 _ h3 => by
      rw [hK0.blk b (Array.getElem?_eq_some_iff.1 h3).1 (typ_ne h3 hB0.bk (by decide)) (fun e => by obtain ⟨_, d, h2⟩ := row_typ hB0.out e; exact typ_ne h3 h2 (by decide) rfl)]
      exact h3
    exact (this.below ((Below.refl w6.heap.size w6).drew) (Nat.le_refl _)).ir
  have HSz : Hid (base ≤ w6.heap.size) := Nat.le_trans hbz hK0.bel.size
  have HNW : Hid ((Value.slice wa n wc).ownBlock ≠ some hb) := hB0.nw
  have HFin : Hid (∀ (W3 : World) (mv : Value) (g c : Nat), OwnI W3 w6.heap.size mv l → W3.ownsRow base 39 1 (.slice (some ⟨g, 0, none⟩) (n + 1) c) (n + 1) (es.map BE.w ++ [mv]) → w6.grownBy W3 (Value.slice wa n wc).ownBlock → ((Value.slice wa n wc).ownBlock = some g ∨ w6.heap.size ≤ g) → ∃ ov' wv' mv, Bk (W3.setCell ⟨hb, 1, none⟩ (.slice (some ⟨g, 0, none⟩) (n + 1) c)) base hb ov' wv' (es ++ [⟨.slice la ln lc, mv, l⟩]) f (es.length + 1) ∧ Tch hb (.slice oa es.length oc) (.slice wa es.length wc) w (W3.setCell ⟨hb, 1, none⟩ (.slice (some ⟨g, 0, none⟩) (n + 1) c)) ∧ Below base w (W3.setCell ⟨hb, 1, none⟩ (.slice (some ⟨g, 0, none⟩) (n + 1) c)) ∧ Mvd w.heap.size (.slice oa es.length oc) ov' ∧ Mvd w.heap.size (.slice wa es.length wc) wv' ∧ (∀ b, mv.ownBlock = some b → w.heap.size ≤ b)) := fun W3 mv g2 c2 a1 a2 a3 a4 => by
    have hh := k2_of (g := g2) (c := c2) (mv := mv) (W3 := W3) (t' := es.length + 1) hB0 HL.out (fun i e hi _ he => by
      by_cases hil : i < es.length
      · rw [List.getElem?_append_left hil] at he
        exact hB0.ti i e hi (by rw [← HN.out]; exact hil) he
      · rw [List.getElem?_append_right (by omega)] at he
        obtain ⟨h1, h2⟩ := List.getElem?_eq_some_iff.1 he
        simp at h2
        rw [← h2]
        exact ht) hap (by omega) (by rw [HN.out]; exact hes) hK0 (a1.le HSz.out) (fun b hb' => by
        have h1 := (row_typ a1 hb').1
        have h2 := hK0.bel.size
        refine ⟨fun h3 => ?_, fun h3 => ?_⟩
        · obtain ⟨_, h4⟩ := blks_lt hB0 h3
          have := (Array.getElem?_eq_some_iff.1 h4).1
          omega
        · have := (World.ownsRow.lt HL.out b h3).2
          omega)
    rw [HN.out] at hh
    have := hh a2 a3 a4
    rw [HN.out]
    exact ⟨_, _, _, this.1, this.2.1, this.2.2.1, this.2.2.2.1, this.2.2.2.2, fun b hb' => by have h1 := (row_typ a1 hb').1; have h2 := hK0.bel.size; omega⟩
  generalize (.slice (some ⟨g, 0, none⟩) (n + 1) c : Value) = ov' at HB6
  clear hB0 hK0 HB HL HK ht hap
  refine wp_region_inv (by kernel_rfl) (by kernel_rfl) (by kernel_rfl) (by kernel_rfl) (KJ w6 base hb (.slice wa n wc) n (es.map BE.w) (.slice la ln lc) l) KJ.start ⟨?_, ?_, ?_, ?_, ?_, ?_, ?_, ?_, ?_, ?_, ?_, ?_, trivial⟩ ?_
  · as_aux_lemma =>
      intro a wx p vs hJ hdep hpi hval hfr K hK
      have d : a.tmps.getD 0 undef = (.pointer (some ⟨hb, 0, none⟩)) := hfr 0 (by kernel_rfl)
      exact step_value (v := (.pointer (some ⟨hb, 0, none⟩))) (w' := wx) rfl (fun _ _ h => by cases h) (rho [(0, (.pointer (some ⟨hb, 0, none⟩)))]) (rho_of (by intro q hm; simp only [List.mem_cons, List.not_mem_nil, or_false] at hm; rcases hm with rfl; exact d) (by kernel_rfl)) (by kernel_rfl) (hK _ _ hJ.put0)
  · as_aux_lemma =>
      intro a wx p vs hJ hdep hpi hval hfr K hK
      have d : a.tmps.getD 0 undef = (.pointer (some ⟨hb, 0, none⟩)) := hfr 0 (by kernel_rfl)
      exact step_value (v := (.pointer (some ⟨hb, 0, none⟩))) (w' := wx) rfl (fun _ _ h => by cases h) (rho [(0, (.pointer (some ⟨hb, 0, none⟩)))]) (rho_of (by intro q hm; simp only [List.mem_cons, List.not_mem_nil, or_false] at hm; rcases hm with rfl; exact d) (by kernel_rfl)) (by kernel_rfl) (hK _ _ hJ.put1)
  · as_aux_lemma =>
      intro a wx p vs hJ hdep hpi hval hfr K hK
      have h := hdep 1 (by kernel_rfl)
      have d : a.tmps.getD 15 undef = (.pointer (some ⟨hb, 0, none⟩)) := (hval 1 _ 15 h (by rfl) rfl).trans (hJ.v1 h)
      have hJ' := hJ.put2
      clear hval hfr hdep hJ
      simp only [Array.getD_eq_getD_getElem?] at d
      go_simp
      exact hK _ _ hJ'
  · as_aux_lemma =>
      intro a wx p vs hJ hdep hpi hval hfr K hK
      have h := hdep 2 (by kernel_rfl)
      have d : a.tmps.getD 16 undef = (.pointer (some ⟨hb, 0, none⟩)) := (hval 2 _ 16 h (by rfl) rfl).trans (hJ.v2 h)
      have hJ' := hJ.put3
      clear hval hfr hdep hJ
      simp only [Array.getD_eq_getD_getElem?] at d
      go_simp
      exact hK _ _ hJ'
  · as_aux_lemma =>
      intro a wx p vs hJ hdep hpi hval hfr K hK
      have h := hdep 3 (by kernel_rfl)
      have d : a.tmps.getD 17 undef = (.pointer (some ⟨hb, 1, none⟩)) := (hval 3 _ 17 h (by rfl) rfl).trans (hJ.v3 h)
      have h8 : p 8 = false := bool_not hJ.o4 hpi
      have hc : wx.cell? ⟨hb, 1, none⟩ = some (.slice wa n wc) := by
        have := ((hJ.pre h8).block hb (Array.getElem?_eq_some_iff.1 HB6.out).1).trans HB6.out
        simp [World.cell?, this]
      have hJ' := hJ.put4
      clear hval hfr hdep hJ h8
      simp only [Array.getD_eq_getD_getElem?] at d
      go_simp
      exact hK _ _ hJ'
  · as_aux_lemma =>
      intro a wx p vs hJ hdep hpi hval hfr K hK
      have d : a.tmps.getD 1 undef = (.slice la ln lc) := hfr 1 (by kernel_rfl)
      exact step_value (v := (.slice la ln lc)) (w' := wx) rfl (fun _ _ h => by cases h) (rho [(1, (.slice la ln lc))]) (rho_of (by intro q hm; simp only [List.mem_cons, List.not_mem_nil, or_false] at hm; rcases hm with rfl; exact d) (by kernel_rfl)) (by kernel_rfl) (hK _ _ hJ.put5)
  · as_aux_lemma =>
      intro a wx p vs hJ hdep hpi hval hfr K hK
      have h := hdep 5 (by kernel_rfl)
      have d : a.eval (.tmp 19) = .slice la ln lc := (hval 5 _ 19 h (by rfl) rfl).trans (hJ.v5 h)
      have hw := hJ.x0 hpi
      subst hw
      refine step_copyI rfl _ rfl _ l d HI6.out (by omega) ?_
      intro v' w' h1 h2
      exact hK _ _ (hJ.put6 hpi h1 (((Below.refl _ w6).drew).trans h2))
  · as_aux_lemma =>
      intro a wx p vs hJ hdep hpi hval hfr K hK
      have h := hdep 6 (by kernel_rfl)
      have d : a.tmps.getD 20 undef = vs 6 := hval 6 _ 20 h (by rfl) rfl
      have hJ' := hJ.put7 h hpi
      obtain ⟨ma, mc, hm⟩ := row_nil (hJ.x1 h hpi).1
      refine step_slice rfl 41 39 1 _ rfl 1 Tryd.underlying41 (by kernel_rfl) (by kernel_rfl) (by decide) [vs 6] ?_ (by intro v hm2; simp only [List.mem_cons, List.not_mem_nil, or_false] at hm2; rw [hm2, hm]; rfl) rfl (by decide) (by decide) ?_
      · rw [Array.toList_map]
        show [(0, a.tmps.getD 20 undef)] = _
        rw [d]
        rfl
      · have e : ([vs 6].flatMap fun v => v.cells.toList).toArray = #[vs 6] := by rw [hm]; rfl
        rw [e]
        exact hK _ _ hJ'
  · as_aux_lemma =>
      intro a wx p vs hJ hdep hpi hval hfr K hK
      have h4 := hdep 4 (by kernel_rfl)
      have h7 := hdep 7 (by kernel_rfl)
      obtain ⟨hx1, hx2, b, e7, hbb, _⟩ := hJ.x2 h7 hpi
      have d4 : a.eval (.tmp 18) = .slice wa n wc := (hval 4 _ 18 h4 (by rfl) rfl).trans (hJ.v4 h4)
      have d7 : a.eval (.tmp 21) = .slice (some ⟨b, 0, none⟩) 1 1 := (hval 7 _ 21 h7 (by rfl) rfl).trans e7
      obtain ⟨ma, mc, hm⟩ := row_nil hx1
      have hO := ownsRow_below HW6.out hx2 (Nat.le_refl _)
      refine step_appL rfl _ _ rfl base _ n (es.map BE.w) d4 hO b 1 (vs 6) d7 (by simp [World.cell?, hbb]) ⟨_, _, _, hm⟩ (by omega) (by have := hx2.size; have := HSz.out; omega) ?_
      intro g cap w' ho hg hG
      exact hK _ _ (hJ.put8 h4 h7 hpi ho hg hG (fun b hb => (World.ownsRow.lt HW6.out b hb).2))
  · as_aux_lemma =>
      intro a wx p vs hJ hdep hpi hval hfr K hK
      have h := hdep 0 (by kernel_rfl)
      have d : a.tmps.getD 14 undef = (.pointer (some ⟨hb, 0, none⟩)) := (hval 0 _ 14 h (by rfl) rfl).trans (hJ.v0 h)
      have hJ' := hJ.put9
      clear hval hfr hdep hJ
      simp only [Array.getD_eq_getD_getElem?] at d
      go_simp
      exact hK _ _ hJ'
  · as_aux_lemma =>
      intro a wx p vs hJ hdep hpi hval hfr K hK
      have h := hdep 9 (by kernel_rfl)
      have d : a.tmps.getD 23 undef = (.pointer (some ⟨hb, 0, none⟩)) := (hval 9 _ 23 h (by rfl) rfl).trans (hJ.v9 h)
      have hJ' := hJ.put10
      clear hval hfr hdep hJ
      simp only [Array.getD_eq_getD_getElem?] at d
      go_simp
      exact hK _ _ hJ'
  · as_aux_lemma =>
      intro a wx p vs hJ hdep hpi hval hfr K hK
      have h8 := hdep 8 (by kernel_rfl)
      have h10 := hdep 10 (by kernel_rfl)
      obtain ⟨gg, cc, e8, hJ'⟩ := hJ.put11 h8 h10 hpi
      have d8 : a.tmps.getD 22 undef = .slice (some ⟨gg, 0, none⟩) (n + 1) cc := (hval 8 _ 22 h8 (by rfl) rfl).trans e8
      have d10 : a.tmps.getD 24 undef = (.pointer (some ⟨hb, 1, none⟩)) := (hval 10 _ 24 h10 (by rfl) rfl).trans (hJ.v10 h10)
      obtain ⟨_, _, W3, _, _, _, hg3, _, hw3, _⟩ := hJ.x3 h8
      obtain rfl := hw3 hpi
      have htw : wx.heap[hb]? = some (.cells #[ov', .slice wa n wc, .int .i64 f] 43 (0, 0)) := (hg3.block hb (Array.getElem?_eq_some_iff.1 HB6.out).1 (fun e => HNW.out e.symm)).trans HB6.out
      have hc : wx.cell? ⟨hb, 1, none⟩ = some (.slice wa n wc) := by simp [World.cell?, htw]
      have hf : wx.frozen? ⟨hb, 1, none⟩ = false := by simp [World.frozen?, htw]
      have hJ2 := fun v => hK v _ (hJ' v)
      clear hval hfr hdep hJ e8 hJ' hK htw hg3 hw3
      simp only [Array.getD_eq_getD_getElem?] at d8 d10
      go_simp
      exact hJ2 undef
  · intro vs w' hJ
    obtain ⟨gg, cc, W3, h0, h1, h2, h3, h4, h6, h5⟩ := hJ.x3 (by decide)
    have hw := h5 (by decide)
    have HE := Hid.mk2 (HFin.out W3 (vs 6) gg cc h1 h2 h3 h4)
    rw [← hw] at HE
    clear h0 h1 h2 h3 h4 h5 h6 hw hJ HFin HB6 HW6 HI6 HSz HNW
    rw [putL_eq]
    simp only [putsL, List.set_cons_zero, List.set_cons_succ, Nat.zero_add, Nat.reduceAdd]
    generalize vs 0 = y0
    generalize vs 1 = y1
    generalize vs 2 = y2
    generalize vs 3 = y3
    generalize vs 4 = y4
    generalize vs 5 = y5
    generalize vs 6 = y6
    generalize vs 7 = y7
    generalize vs 8 = y8
    generalize vs 9 = y9
    generalize vs 10 = y10
    generalize vs 11 = y11
    clear vs
    go_wp2
    exact bodyPost_end (results_none rfl _ _ _) rfl ⟨⟨_, rfl⟩, HE.out⟩

/-- the same lists, whatever they hold -/
structure Alike (es es' : List BE) : Prop where
  o : es'.map BE.o = es.map BE.o
  w : es'.map BE.w = es.map BE.w
  l : es'.map (fun e => e.l.length) = es.map fun e => e.l.length
theorem Alike.refl (es : List BE) : Alike es es := ⟨rfl, rfl, rfl⟩
theorem Alike.trans {a b c : List BE} (h : Alike a b) (k : Alike b c) : Alike a c := ⟨k.o.trans h.o, k.w.trans h.w, k.l.trans h.l⟩
theorem Alike.len {a b : List BE} (h : Alike a b) : b.length = a.length := by simpa using congrArg List.length h.o
theorem Alike.at {a b : List BE} (h : Alike a b) {i : Nat} {e : BE} (he : a[i]? = some e) : ∃ e', b[i]? = some e' ∧ e'.o = e.o ∧ e'.w = e.w ∧ e'.l.length = e.l.length := by
  have hi := (List.getElem?_eq_some_iff.1 he).1
  have hi' : i < b.length := by rw [h.len]; exact hi
  have h1 := congrArg (·[i]?) h.o
  have h2 := congrArg (·[i]?) h.w
  have h3 := congrArg (·[i]?) h.l
  simp [hi', he] at h1 h2 h3
  exact ⟨b[i], by simp [hi'], h1, h2, h3⟩
theorem alike_set {es : List BE} {i : Nat} {e : BE} (he : es[i]? = some e) (k : Nat) (x : Int) : Alike es (es.set i ⟨e.o, e.w, e.l.set k x⟩) := by
  obtain ⟨hi, rfl⟩ := List.getElem?_eq_some_iff.1 he
  refine ⟨?_, ?_, ?_⟩ <;> apply List.ext_getElem <;> simp <;> intro j hj <;> (simp only [List.getElem_set]; split <;> simp_all)
theorem blks_alike {es es' : List BE} (h : Alike es es') : blks es' = blks es := by
  have e1 : ∀ es : List BE, blks es = ((es.map BE.o).zip (es.map BE.w)).flatMap fun p => bl p.1 ++ bl p.2 := fun es => by
    unfold blks
    induction es with
    | nil => rfl
    | cons a l ih => simp [ih]
  rw [e1, e1, h.o, h.w]
theorem blks_apart {es : List BE} (h : (blks es).Nodup) {i j : Nat} {e e' : BE} (hi : es[i]? = some e) (hj : es[j]? = some e') (hne : i ≠ j) {b : Nat} (h1 : e.o.ownBlock = some b ∨ e.w.ownBlock = some b) : e'.o.ownBlock ≠ some b ∧ e'.w.ownBlock ≠ some b := by
  unfold blks List.Nodup at h
  rw [List.pairwise_flatMap] at h
  obtain ⟨hi1, rfl⟩ := List.getElem?_eq_some_iff.1 hi
  obtain ⟨hj1, rfl⟩ := List.getElem?_eq_some_iff.1 hj
  have hp := List.pairwise_iff_getElem.1 h.2
  have hm : b ∈ bl es[i].o ++ bl es[i].w := by simpa [mem_bl] using h1
  have hn : b ∉ bl es[j].o ++ bl es[j].w := fun hm' => by
    rcases Nat.lt_or_gt_of_ne hne with hl | hl
    · exact hp i j hi1 hj1 hl b hm b hm' rfl
    · exact hp j i hj1 hi1 hl b hm' b hm rfl
  simp [mem_bl] at hn
  exact hn
theorem blks_two {es : List BE} (h : (blks es).Nodup) {i : Nat} {e : BE} (hi : es[i]? = some e) {b : Nat} (h1 : e.o.ownBlock = some b) : e.w.ownBlock ≠ some b := by
  unfold blks List.Nodup at h
  rw [List.pairwise_flatMap] at h
  have := h.1 e (List.mem_of_getElem? hi)
  rw [List.pairwise_append] at this
  exact fun h2 => this.2.2 b (mem_bl.2 h1) b (mem_bl.2 h2) rfl
theorem own_set {W : World} {base g n c k : Nat} {l : List Int} (h : OwnI W base (.slice (some ⟨g, 0, none⟩) n c) l) (x : Int) : OwnI (W.setCell ⟨g, k, none⟩ (.int .i64 x)) base (.slice (some ⟨g, 0, none⟩) n c) (l.set k x) := by
  obtain ⟨h0, h1⟩ := h
  refine ⟨by simp [ints], ?_⟩
  rcases h1 with ⟨e, _⟩ | ⟨g', cap, cur, e, h1, h2, h3, h4, h5, h6⟩
  · cases e
  · injection e with e1 e2 e3
    injection e1 with e1
    injection e1 with e1
    subst e1 e2 e3
    refine .inr ⟨g, c, cur.setIfInBounds k (.int .i64 x), by simp, h1, cells_setS h2, by simpa using h3, h4, by simpa using h5, ?_⟩
    rw [Array.toList_setIfInBounds, List.take_set, List.length_set]
    rw [h6]
    simp [ints, List.map_set]
section
variable {W W' : World} {base hb f t : Nat} {ov wv : Value} {es : List BE}
theorem Bk.mark (h : Bk W base hb ov wv es f t) {i k : Nat} {e : BE} (he : es[i]? = some e) (x : Int) {go no co gw nw cw : Nat} (ho : e.o = .slice (some ⟨go, 0, none⟩) no co) (hw : e.w = .slice (some ⟨gw, 0, none⟩) nw cw) :
    Bk ((W.setCell ⟨go, k, none⟩ (.int .i64 x)).setCell ⟨gw, k, none⟩ (.int .i64 x)) base hb ov wv (es.set i ⟨e.o, e.w, e.l.set k x⟩) f t := by
  have hm := List.mem_of_getElem? he
  have hbo : e.o.ownBlock = some go := by rw [ho]; rfl
  have hbw : e.w.ownBlock = some gw := by rw [hw]; rfl
  obtain ⟨_, d1, ht1⟩ := row_typ (h.ro e hm) hbo
  obtain ⟨_, d2, ht2⟩ := row_typ (h.rw e hm) hbw
  have T : ∀ b, b ≠ go → b ≠ gw → ((W.setCell ⟨go, k, none⟩ (.int .i64 x)).setCell ⟨gw, k, none⟩ (.int .i64 x)).heap[b]? = W.heap[b]? := fun b h1 h2 => by
    rw [turns_set _ gw k _ b h2, turns_set _ go k _ b h1]
  have TO : ∀ (b : Nat) (cur : Array Value) (y : TypeId), W.heap[b]? = some (Obj.cells cur y (0, 0)) → y ≠ 3 → ((W.setCell ⟨go, k, none⟩ (.int .i64 x)).setCell ⟨gw, k, none⟩ (.int .i64 x)).heap[b]? = some (Obj.cells cur y (0, 0)) := fun b cur y hc hy => by
    rw [T b (typ_ne hc ht1 hy) (typ_ne hc ht2 hy)]
    exact hc
  have hA := alike_set he k x
  have hgw : go ≠ gw := fun e1 => blks_two h.ap he hbo (by rw [hbw, e1])
  have hel : ∀ e' ∈ es.set i ⟨e.o, e.w, e.l.set k x⟩, OwnI ((W.setCell ⟨go, k, none⟩ (.int .i64 x)).setCell ⟨gw, k, none⟩ (.int .i64 x)) base e'.o e'.l ∧ OwnI ((W.setCell ⟨go, k, none⟩ (.int .i64 x)).setCell ⟨gw, k, none⟩ (.int .i64 x)) base e'.w e'.l ∧ e'.l.length ≤ 2000000 := fun e' he' => by
    obtain ⟨j, hj⟩ := List.mem_iff_getElem?.1 he'
    by_cases hij : i = j
    · subst hij
      have hi := (List.getElem?_eq_some_iff.1 he).1
      rw [List.getElem?_set_self hi] at hj
      injection hj with hj
      subst hj
      refine ⟨?_, ?_, by simpa using h.sm e hm⟩
      · have h1 := h.ro e hm
        show OwnI _ base e.o _
        rw [ho] at h1 ⊢
        refine own_stays (own_set (k := k) h1 x) fun b cur h2 _ h4 => ?_
        have : go = b := by simpa [Value.ownBlock] using h2
        subst this
        rw [turns_set _ gw k _ go hgw]
        exact h4
      · have h1 : OwnI (W.setCell ⟨go, k, none⟩ (.int .i64 x)) base e.w e.l := own_stays (h.rw e hm) fun b cur h2 _ h4 => by
          rw [hbw] at h2
          injection h2 with h2
          subst h2
          rw [turns_set _ go k _ gw hgw.symm]
          exact h4
        show OwnI _ base e.w _
        rw [hw] at h1 ⊢
        exact own_set (k := k) h1 x
    · rw [List.getElem?_set_ne hij] at hj
      have hm' := List.mem_of_getElem? hj
      have a1 := blks_apart h.ap he hj hij (.inl hbo)
      have a2 := blks_apart h.ap he hj hij (.inr hbw)
      refine ⟨own_stays (h.ro e' hm') fun b cur h2 _ h4 => ?_, own_stays (h.rw e' hm') fun b cur h2 _ h4 => ?_, h.sm e' hm'⟩
      · rw [T b (fun e1 => a1.1 (by rw [h2, e1])) (fun e1 => a2.1 (by rw [h2, e1]))]
        exact h4
      · rw [T b (fun e1 => a1.2 (by rw [h2, e1])) (fun e1 => a2.2 (by rw [h2, e1]))]
        exact h4
  refine ⟨TO _ _ _ h.bk (by decide), h.hb, ?_, ?_, fun e' he' => (hel e' he').1, fun e' he' => (hel e' he').2.1, fun j e' h1 h2 h3 => ?_, by rw [blks_alike hA]; exact h.ap, h.ow, by rw [hA.len]; exact h.few, fun e' he' => (hel e' he').2.2, by rw [hA.len]; exact h.fr⟩
  · rw [hA.len, hA.o]
    exact own_stays h.out fun b cur _ _ h4 => TO b cur _ h4 (by decide)
  · rw [hA.len, hA.w]
    exact own_stays h.want fun b cur _ _ h4 => TO b cur _ h4 (by decide)
  · by_cases hij : i = j
    · subst hij
      have hi := (List.getElem?_eq_some_iff.1 he).1
      rw [List.getElem?_set_self hi] at h3
      injection h3 with h3
      subst h3
      exact h.ti i e h1 h2 he
    · rw [List.getElem?_set_ne hij] at h3
      exact h.ti j e' h1 h2 h3
/-- a row of numbers that is none of the book's grows -/
theorem Bk.row (h : Bk W base hb ov wv es f t) {x : Option Nat} (hg : W.grownBy W' x) (hx : ∀ b, x = some b → b ∉ blks es ∧ ∃ cur, W.heap[b]? = some (.cells cur 3 (0, 0))) : Bk W' base hb ov wv es f t := by
  have K : ∀ (b : Nat) (cur : Array Value) (y : TypeId), W.heap[b]? = some (Obj.cells cur y (0, 0)) → (y ≠ 3 ∨ b ∈ blks es) → W'.heap[b]? = some (Obj.cells cur y (0, 0)) := fun b cur y hc hy => by
    rw [hg.block b (Array.getElem?_eq_some_iff.1 hc).1 (fun e => ?_)]
    · exact hc
    · obtain ⟨h1, d, h2⟩ := hx b e.symm
      rcases hy with hy | hy
      · exact typ_ne hc h2 hy rfl
      · exact h1 hy
  exact ⟨K _ _ _ h.bk (.inl (by decide)), h.hb, own_stays h.out fun b cur _ _ h2 => K b cur 39 h2 (.inl (by decide)), own_stays h.want fun b cur _ _ h2 => K b cur 39 h2 (.inl (by decide)), fun e he => own_stays (h.ro e he) fun b cur h1 _ h2 => K b cur 3 h2 (.inr (blks_mem.2 ⟨e, he, .inl h1⟩)), fun e he => own_stays (h.rw e he) fun b cur h1 _ h2 => K b cur 3 h2 (.inr (blks_mem.2 ⟨e, he, .inr h1⟩)), h.ti, h.ap, h.ow, h.few, h.sm, h.fr⟩
end

/-- one number behind numbers: in their own row, or, where there is no room, in a new one -/
theorem run_pushI (w : World) (ty : TypeId) (base : Nat) (v : Value) (l : List Int) (gs c : Nat) (p : Int) (hc : w.cell? ⟨gs, 0, none⟩ = some (.int .i64 p)) (hl : l.length ≤ 3000000) (hbase : base ≤ w.heap.size) (ho : OwnI w base v l) :
    ∃ v' w' x, (Builtin.append_ #[39, 39] ty #[v, .slice (some ⟨gs, 0, none⟩) 1 c]).run Tryd.prog w = .ok v' w' ∧ OwnI w' base v' (l ++ [p]) ∧ w.grownBy w' x ∧ (x = none ∨ x = v.ownBlock) ∧ (Tight v → x = none ∧ ∃ g, v'.ownBlock = some g ∧ w.heap.size ≤ g) ∧ (v'.ownBlock = v.ownBlock ∨ ∃ g, v'.ownBlock = some g ∧ w.heap.size ≤ g) ∧ IsSl v' := by
  obtain ⟨i0, hi0, hz0, hz1, hz2⟩ := info_parts iinfo3
  have hc' : ∀ j u, (ints [p])[j]? = some u → w.cell? ((⟨gs, 0, none⟩ : Addr).add j) = some u := fun j u hj => by
    match j, hj with
    | 0, hj => simp [ints] at hj; subst hj; exact hc
  have one : ∀ v' w', w'.ownsRow base 3 1 v' (l.length + 1) (ints l ++ ints [p]) → OwnI w' base v' (l ++ [p]) := fun v' w' k => by
    unfold OwnI
    rw [ints_append, List.length_append]
    exact k
  by_cases ht : Tight v
  · rcases ht with hv | ⟨g, n, hv⟩
    · subst hv
      have hl0 : l = [] := by
        rcases ho.2 with ⟨_, e⟩ | ⟨_, _, _, e, _⟩
        · exact List.eq_nil_of_length_eq_zero e
        · cases e
      subst hl0
      obtain ⟨v', w', h1, h2, h3, h4, h5⟩ := run_append_own_at (P := Tryd.prog) w base 39 ty 3 i0 (.int .i64 0) 1 8 Tryd.underlying39 hi0 hz0 hz1 hz2 rfl (by decide) (.slice none 0 0) 0 [] (World.ownsRow_nil w _ 3 1) ⟨gs, 0, none⟩ 1 c (ints [p]) (by simp [ints]) hc' (ints_one _) (by unfold maxLen; omega) (by omega) hbase
      have hO := one v' w' (by simpa [ints] using h2)
      have hx : ∃ g, v'.ownBlock = some g ∧ w.heap.size ≤ g := by
        rcases h5 with h5 | h5
        · rcases h2.2 with ⟨_, e⟩ | ⟨g, cap, cur, e, _⟩
          · cases e
          · rw [e] at h5; cases h5
        · exact ⟨_, h5, Nat.le_refl _⟩
      obtain ⟨a, d, e⟩ := row_nil hO
      exact ⟨v', w', none, h1, hO, h3, .inl rfl, fun _ => ⟨rfl, hx⟩, .inr hx, ⟨_, _, _, e⟩⟩
    · subst hv
      have hn : n = l.length := by
        obtain ⟨a, d, e⟩ := row_nil ho
        injection e
      subst hn
      rcases ho.2 with ⟨e, _⟩ | ⟨g', cap, cur, e, k1, k2, k3, k4, k5, k6⟩
      · cases e
      · injection e with e1 e2 e3
        injection e1 with e1
        injection e1 with e1
        subst e1 e3
        obtain ⟨v', w', h1, h2, h3⟩ := run_append_arg_grows (P := Tryd.prog) w 39 ty 3 i0 (.int .i64 0) 1 8 Tryd.underlying39 hi0 hz0 hz1 hz2 rfl (by decide) ⟨g, 0, none⟩ l.length l.length (ints l) (by rw [ints_length, Nat.mul_one]) (fun j u hj => by
          rw [add_at2, Nat.zero_add]
          obtain ⟨g2, c2, e2, _, _, hcell⟩ := row_some ho (fun h0 => by rw [List.eq_nil_of_length_eq_zero h0] at hj; simp [ints] at hj)
          injection e2 with e2 _ _
          injection e2 with e2
          injection e2 with e2
          subst e2
          exact hcell j u hj) ⟨gs, 0, none⟩ 1 c (ints [p]) (by simp [ints]) hc' (by omega) (by unfold maxLen; omega) (by omega)
        have hO := one v' w' (Joins.ownsRow_le h2 hbase)
        have hx : ∃ g, v'.ownBlock = some g ∧ w.heap.size ≤ g := by
          rcases h2.2 with ⟨_, e⟩ | ⟨g2, cap, cur2, e, q1, q2, _⟩
          · cases e
          · exact ⟨g2, by rw [e]; rfl, q1⟩
        obtain ⟨a, d, e⟩ := row_nil hO
        exact ⟨v', w', none, h1, hO, h3, .inl rfl, fun _ => ⟨rfl, hx⟩, .inr hx, ⟨_, _, _, e⟩⟩
  · obtain ⟨v', w', h1, h2, h3, h4, h5⟩ := run_append_own_at (P := Tryd.prog) w base 39 ty 3 i0 (.int .i64 0) 1 8 Tryd.underlying39 hi0 hz0 hz1 hz2 rfl (by decide) v l.length (ints l) ho ⟨gs, 0, none⟩ 1 c (ints [p]) (by simp [ints]) hc' (ints_one _) (by unfold maxLen; omega) (by omega) hbase
    have hO := one v' w' h2
    obtain ⟨a, d, e⟩ := row_nil hO
    exact ⟨v', w', v.ownBlock, h1, hO, h3, .inr rfl, fun k => absurd k ht, h5.imp id fun k => ⟨_, k, Nat.le_refl _⟩, ⟨_, _, _, e⟩⟩
/-- two lists beside the book: the first one may be one of the book's own that has no room -/
structure R30 (W : World) (base hb : Nat) (ov wv : Value) (es : List BE) (f t : Nat) (lv : Value) (lo : List Int) (mv : Value) (lm : List Int) (own : Bool) : Prop where
  bk : Bk W base hb ov wv es f t
  lo : OwnI W base lv lo
  mo : OwnI W base mv lm
  la : (own = false ∧ Tight lv) ∨ ∀ b, lv.ownBlock = some b → b ∉ blks es
  ma : ∀ b, mv.ownBlock = some b → b ∉ blks es ∧ lv.ownBlock ≠ some b
section
variable {W W' : World} {base hb f t : Nat} {ov wv : Value} {es : List BE} {lv mv : Value} {lo lm : List Int} {own : Bool}
theorem Bk.bz (h : Bk W base hb ov wv es f t) : base ≤ W.heap.size := by have := h.hb; have := (Array.getElem?_eq_some_iff.1 h.bk).1; omega
theorem blks_size (h : Bk W base hb ov wv es f t) {b : Nat} (hb' : W.heap.size ≤ b) : b ∉ blks es := fun k => by
  obtain ⟨_, h4⟩ := blks_lt h k
  have := (Array.getElem?_eq_some_iff.1 h4).1
  omega
theorem R30.grown (h : R30 W base hb ov wv es f t lv lo mv lm own) (k : Grown W W') : R30 W' base hb ov wv es f t lv lo mv lm own :=
  ⟨h.bk.grown k, h.lo.below k.below (Nat.le_refl _), h.mo.below k.below (Nat.le_refl _), h.la, h.ma⟩
theorem R30.stepL (h : R30 W base hb ov wv es f t lv lo mv lm own) {v' : Value} {x : Option Nat} {l' : List Int} (h1 : OwnI W' base v' l') (hg : W.grownBy W' x) (hx : x = none ∨ x = lv.ownBlock) (ht : Tight lv → x = none ∧ ∃ g, v'.ownBlock = some g ∧ W.heap.size ≤ g) (hv : v'.ownBlock = lv.ownBlock ∨ ∃ g, v'.ownBlock = some g ∧ W.heap.size ≤ g) : R30 W' base hb ov wv es f t v' l' mv lm true := by
  have hlt : ∀ b, mv.ownBlock = some b → b < W.heap.size := fun b hb' => (World.ownsRow.lt h.mo b hb').2
  have hno : ¬ Tight lv → ∀ b, lv.ownBlock = some b → b ∉ blks es := fun hn => h.la.resolve_left fun k => hn k.2
  refine ⟨h.bk.row hg fun b hb' => ?_, h1, own_stays h.mo fun b cur h2 _ h3 => ?_, .inr fun b hb' => ?_, fun b hb' => ⟨(h.ma b hb').1, fun e => ?_⟩⟩
  · have hn : ¬ Tight lv := fun k => by rw [(ht k).1] at hb'; cases hb'
    have hl : lv.ownBlock = some b := by
      rcases hx with hx | hx
      · rw [hx] at hb'; cases hb'
      · rw [← hx]; exact hb'
    exact ⟨hno hn b hl, (row_typ h.lo hl).2⟩
  · rw [hg.block b (Array.getElem?_eq_some_iff.1 h3).1 (fun e => ?_)]
    · exact h3
    · rcases hx with hx | hx
      · rw [hx] at e; cases e
      · exact (h.ma b h2).2 (by rw [← hx]; exact e.symm)
  · by_cases hn : Tight lv
    · obtain ⟨_, g, e, hge⟩ := ht hn
      rw [e] at hb'
      injection hb' with hb'
      subst hb'
      exact blks_size h.bk hge
    · rcases hv with hv | ⟨g, e, hge⟩
      · exact hno hn b (by rw [← hv]; exact hb')
      · rw [e] at hb'
        injection hb' with hb'
        subst hb'
        exact blks_size h.bk hge
  · rcases hv with hv | ⟨g, e1, hge⟩
    · exact (h.ma b hb').2 (by rw [← hv]; exact e)
    · rw [e1] at e
      injection e with e
      have := hlt b hb'
      omega
theorem R30.stepM (h : R30 W base hb ov wv es f t lv lo mv lm own) {v' : Value} {x : Option Nat} {l' : List Int} (h1 : OwnI W' base v' l') (hg : W.grownBy W' x) (hx : x = none ∨ x = mv.ownBlock) (hv : v'.ownBlock = mv.ownBlock ∨ ∃ g, v'.ownBlock = some g ∧ W.heap.size ≤ g) : R30 W' base hb ov wv es f t lv lo v' l' own := by
  have hlt : ∀ b, lv.ownBlock = some b → b < W.heap.size := fun b hb' => (World.ownsRow.lt h.lo b hb').2
  refine ⟨h.bk.row hg fun b hb' => ?_, own_stays h.lo fun b cur h2 _ h3 => ?_, h1, h.la, fun b hb' => ?_⟩
  · have hl : mv.ownBlock = some b := by
      rcases hx with hx | hx
      · rw [hx] at hb'; cases hb'
      · rw [← hx]; exact hb'
    exact ⟨(h.ma b hl).1, (row_typ h.mo hl).2⟩
  · rw [hg.block b (Array.getElem?_eq_some_iff.1 h3).1 (fun e => ?_)]
    · exact h3
    · rcases hx with hx | hx
      · rw [hx] at e; cases e
      · exact (h.ma b (by rw [← hx]; exact e.symm)).2 h2
  · rcases hv with hv | ⟨g, e1, hge⟩
    · exact h.ma b (by rw [← hv]; exact hb')
    · rw [e1] at hb'
      injection hb' with hb'
      subst hb'
      exact ⟨blks_size h.bk hge, fun e => by have := hlt _ e; omega⟩
theorem push_L30 {ops : Array Oper} {rest : List Oper} {o : Oper} {a : Act} {Q : Exit → Act → World → Prop} (hgd : o.guard = none) (s x : Operand) (hop : o.op = .call { callee := .builtin .append, args := #[s, x], argTypes := #[39, 39] })
    (hs : a.eval s = lv) (h : R30 W base hb ov wv es f t lv lo mv lm own) (gs c : Nat) (p : Int) (hx : a.eval x = .slice (some ⟨gs, 0, none⟩) 1 c) (hc : W.cell? ⟨gs, 0, none⟩ = some (.int .i64 p)) (hl : lo.length ≤ 3000000)
    (hK : ∀ v' w', R30 w' base hb ov wv es f t v' (lo ++ [p]) mv lm true → Below base W w' → IsSl v' → wpList Tryd.prog ops Q rest (a.put o.dst v') w') : wpList Tryd.prog ops Q (o :: rest) a W := by
  refine wpList_plain hgd fun K hK2 => ?_
  obtain ⟨v', w', y, hr, h1, h2, h3, h4, h5, h6⟩ := run_pushI W o.type base lv lo gs c p hc hl h.bk.bz h.lo
  unfold Oper.wp execOp
  simp only [hop, resolve, invoke, builtin, Sem.run_bind, Sem.run_pure, Result.andThen_ok, List.map_toArray, List.map_cons, List.map_nil, hs, hx, hr]
  exact hK2 _ _ (hK v' w' (h.stepL h1 h2 h3 h4 h5) ((Below.refl _ W).grown h2 h.bk.bz (fun b hb' => by
    rcases h3 with e | e
    · rw [e] at hb'; cases hb'
    · exact (row_typ h.lo (by rw [← e]; exact hb')).1)) h6)
theorem push_M30 {ops : Array Oper} {rest : List Oper} {o : Oper} {a : Act} {Q : Exit → Act → World → Prop} (hgd : o.guard = none) (s x : Operand) (hop : o.op = .call { callee := .builtin .append, args := #[s, x], argTypes := #[39, 39] })
    (hs : a.eval s = mv) (h : R30 W base hb ov wv es f t lv lo mv lm own) (gs c : Nat) (p : Int) (hx : a.eval x = .slice (some ⟨gs, 0, none⟩) 1 c) (hc : W.cell? ⟨gs, 0, none⟩ = some (.int .i64 p)) (hl : lm.length ≤ 3000000)
    (hK : ∀ v' w', R30 w' base hb ov wv es f t lv lo v' (lm ++ [p]) own → Below base W w' → IsSl v' → wpList Tryd.prog ops Q rest (a.put o.dst v') w') : wpList Tryd.prog ops Q (o :: rest) a W := by
  refine wpList_plain hgd fun K hK2 => ?_
  obtain ⟨v', w', y, hr, h1, h2, h3, h4, h5, h6⟩ := run_pushI W o.type base mv lm gs c p hc hl h.bk.bz h.mo
  unfold Oper.wp execOp
  simp only [hop, resolve, invoke, builtin, Sem.run_bind, Sem.run_pure, Result.andThen_ok, List.map_toArray, List.map_cons, List.map_nil, hs, hx, hr]
  exact hK2 _ _ (hK v' w' (h.stepM h1 h2 h3 h5) ((Below.refl _ W).grown h2 h.bk.bz (fun b hb' => by
    rcases h3 with e | e
    · rw [e] at hb'; cases hb'
    · exact (row_typ h.mo (by rw [← e]; exact hb')).1)) h6)
/-- fresh is set -/
theorem Bk.fresh (h : Bk W base hb ov wv es f t) : Bk (W.setCell ⟨hb, 2, none⟩ (.int .i64 es.length)) base hb ov wv es es.length es.length := by
  have T := turns_set W hb 2 (.int .i64 es.length)
  have K : ∀ (b : Nat) (cur : Array Value) (y : TypeId), W.heap[b]? = some (Obj.cells cur y (0, 0)) → y ≠ 43 → (W.setCell ⟨hb, 2, none⟩ (.int .i64 es.length)).heap[b]? = some (Obj.cells cur y (0, 0)) := fun b cur y hc hy => by
    rw [T b (typ_ne hc h.bk hy)]
    exact hc
  refine ⟨?_, h.hb, own_stays h.out fun b cur _ _ h2 => K b cur 39 h2 (by decide), own_stays h.want fun b cur _ _ h2 => K b cur 39 h2 (by decide), fun e he => own_stays (h.ro e he) fun b cur h1 _ h2 => K b cur 3 h2 (by decide), fun e he => own_stays (h.rw e he) fun b cur h1 _ h2 => K b cur 3 h2 (by decide), fun i e h1 h2 _ => by omega, h.ap, h.ow, h.few, h.sm, Nat.le_refl _⟩
  have := cells_setS (j := 2) (u := .int .i64 es.length) h.bk
  simpa using this
end
/-- what lies where while the book is written into -/
structure W1 (w : World) (base hb : Nat) (ov wv : Value) (es : List BE) (f n : Nat) (W : World) : Prop where
  bk : ∃ es', Bk W base hb ov wv es' f n ∧ Alike es es'
  bel : Below base w W
theorem W1.grown {w : World} {base hb : Nat} {ov wv : Value} {es : List BE} {f n : Nat} {W W' : World} (h : W1 w base hb ov wv es f n W) (k : Grown W W') : W1 w base hb ov wv es f n W' := by
  obtain ⟨es', h1, h2⟩ := h.bk
  exact ⟨⟨es', h1.grown k, h2⟩, h.bel.trans (k.below.mono (Nat.le_trans h1.bz (Nat.le_refl _)))⟩
theorem own_at {W : World} {base g n c : Nat} {l : List Int} (h : OwnI W base (.slice (some ⟨g, 0, none⟩) n c) l) {k : Nat} (hk : k < l.length) : (∃ x, W.cell? ⟨g, k, none⟩ = some (.int .i64 x)) ∧ W.frozen? ⟨g, k, none⟩ = false := by
  obtain ⟨g', c', e, _, _, hc⟩ := row_some h (by omega)
  injection e with e1 e2 e3
  injection e1 with e1
  injection e1 with e1
  subst e1
  refine ⟨⟨l[k], hc k _ (by simp [ints, hk])⟩, ?_⟩
  obtain ⟨_, cur, h2⟩ := row_typ h rfl
  simp [World.frozen?, h2]
theorem row_same {W : World} {base n c m : Nat} {a : Option Addr} {e : TypeId} {xs : List Value} (h : W.ownsRow base e 1 (.slice a n c) m xs) (hm : m ≠ 0) : ∃ g, a = some ⟨g, 0, none⟩ ∧ n = m ∧ m ≤ c ∧ ∀ (j : Nat) (u : Value), xs[j]? = some u → W.cell? ⟨g, j, none⟩ = some u := by
  obtain ⟨g, cap, e1, _, h2, h3⟩ := row_some h hm
  injection e1 with e1 e2 e3
  subst e3
  exact ⟨g, e1, e2, h2, h3⟩
theorem W1.mark {w : World} {base hb : Nat} {ov wv : Value} {es es' : List BE} {f n : Nat} {W : World} (h : Bk W base hb ov wv es' f n) (hA : Alike es es') (hb' : Below base w W) {i k : Nat} {e : BE} (he : es'[i]? = some e) (x : Int) {go no co gw nw cw : Nat} (ho : e.o = .slice (some ⟨go, 0, none⟩) no co) (hw : e.w = .slice (some ⟨gw, 0, none⟩) nw cw) : W1 w base hb ov wv es f n ((W.setCell ⟨go, k, none⟩ (.int .i64 x)).setCell ⟨gw, k, none⟩ (.int .i64 x)) := by
  have hm := List.mem_of_getElem? he
  refine ⟨⟨_, h.mark he x ho hw, hA.trans (alike_set he k x)⟩, ?_⟩
  exact (hb'.setCell (p := ⟨go, k, none⟩) (row_typ (h.ro e hm) (b := go) (by rw [ho]; rfl)).1 _).setCell (p := ⟨gw, k, none⟩) (row_typ (h.rw e hm) (b := gw) (by rw [hw]; rfl)).1 _
/-- what the second of two marks finds -/
theorem second {base hb : Nat} {ov wv : Value} {es : List BE} {f n : Nat} {W : World} (h : Bk W base hb ov wv es f n) {i k : Nat} {e : BE} (he : es[i]? = some e) (u : Value) {go no co gw nw cw : Nat} (ho : e.o = .slice (some ⟨go, 0, none⟩) no co) (hw : e.w = .slice (some ⟨gw, 0, none⟩) nw cw) (hk : k < e.l.length) :
    (W.setCell ⟨go, k, none⟩ u).cell? ⟨hb, 1, none⟩ = some wv ∧ (∀ (g1 : Nat), wv.ownBlock = some g1 → ∀ j, (W.setCell ⟨go, k, none⟩ u).cell? ⟨g1, j, none⟩ = W.cell? ⟨g1, j, none⟩) ∧ (∃ x, (W.setCell ⟨go, k, none⟩ u).cell? ⟨gw, k, none⟩ = some (.int .i64 x)) ∧ (W.setCell ⟨go, k, none⟩ u).frozen? ⟨gw, k, none⟩ = false := by
  have hm := List.mem_of_getElem? he
  have hbo : e.o.ownBlock = some go := by rw [ho]; rfl
  have hbw : e.w.ownBlock = some gw := by rw [hw]; rfl
  obtain ⟨_, d1, ht1⟩ := row_typ (h.ro e hm) hbo
  have T := turns_set W go k u
  have hne : gw ≠ go := fun e1 => blks_two h.ap he hbo (by rw [hbw, e1])
  have cs : ∀ b j, b ≠ go → (W.setCell ⟨go, k, none⟩ u).cell? ⟨b, j, none⟩ = W.cell? ⟨b, j, none⟩ := fun b j hb' => by simp only [World.cell?]; rw [T b hb']
  have h1 := h.rw e hm
  rw [hw] at h1
  obtain ⟨⟨x, hx⟩, hf⟩ := own_at h1 hk
  refine ⟨(cs hb 1 (typ_ne h.bk ht1 (by decide))).trans h.cell.2.1, fun g1 hg1 j => ?_, ⟨x, (cs gw k hne).trans hx⟩, ?_⟩
  · obtain ⟨_, d, h2⟩ := row_typ h.want hg1
    exact cs g1 j (typ_ne h2 ht1 (by decide))
  · simp only [World.frozen?] at hf ⊢
    rw [T gw hne]
    exact hf
section
variable {W w6 W3 : World} {base hb f t : Nat} {ov wv : Value} {es : List BE} {lv mv ov' : Value} {ll : List Int}
theorem K1.want (h : Bk W base hb ov wv es f t) (k : K1 W base hb ov wv es f lv ll ov' w6) : w6.ownsRow base 39 1 wv es.length (es.map BE.w) := by
  refine own_stays h.want fun b cur h1 _ h3 => ?_
  rw [k.blk b (Array.getElem?_eq_some_iff.1 h3).1 (typ_ne h3 h.bk (by decide)) (fun e => ?_)]
  · exact h3
  · rcases h.ow with h6 | h6
    · rw [h6] at e; cases e
    · exact h6 (e.trans h1.symm)
theorem R30.done (h : R30 W base hb ov wv es f t lv ll mv ll true) (ht : t ≤ es.length) (hn : ll.length ≤ 2000000) (hes : es.length ≤ 99) (k : K1 W base hb ov wv es f lv ll ov' w6) {g c : Nat} {ob : Obj} (ho : W3.ownsRow base 39 1 (.slice (some ⟨g, 0, none⟩) (es.length + 1) c) (es.length + 1) (es.map BE.w ++ [mv])) (hg : (w6.alloc ob).grownBy W3 wv.ownBlock) (hG : wv.ownBlock = some g ∨ g = (w6.alloc ob).heap.size) :
    W3.heap[hb]? = some (.cells #[ov', wv, .int .i64 f] 43 (0, 0)) ∧ Bk (W3.setCell ⟨hb, 1, none⟩ (.slice (some ⟨g, 0, none⟩) (es.length + 1) c)) base hb ov' (.slice (some ⟨g, 0, none⟩) (es.length + 1) c) (es ++ [⟨lv, mv, ll⟩]) f t ∧ Below base W (W3.setCell ⟨hb, 1, none⟩ (.slice (some ⟨g, 0, none⟩) (es.length + 1) c)) := by
  have hb6 := (Array.getElem?_eq_some_iff.1 k.bk).1
  have hsz : (w6.alloc ob).heap.size = w6.heap.size + 1 := Array.size_push _
  have hg' : w6.grownBy W3 wv.ownBlock := ⟨hg.os, hg.tape, hg.output, by have := hg.size; omega, fun b hb' hne => (hg.block b (by omega) hne).trans (heap_alloc_old w6 ob b hb')⟩
  have h3b : W3.heap[hb]? = some (.cells #[ov', wv, .int .i64 f] 43 (0, 0)) := (hg'.block hb hb6 (fun e => h.bk.nw e.symm)).trans k.bk
  have hl : ∀ b, lv.ownBlock = some b → b ∉ blks es := h.la.resolve_left fun e => by cases e.1
  have hm : OwnI W3 base mv ll := own_stays h.mo fun b cur h1 _ h3 => by
    have e1 := k.blk b (Array.getElem?_eq_some_iff.1 h3).1 (typ_ne h3 h.bk.bk (by decide)) (fun e => by obtain ⟨_, d, h2⟩ := row_typ h.bk.out e; exact typ_ne h3 h2 (by decide) rfl)
    have h6 := e1.trans h3
    rw [hg'.block b (Array.getElem?_eq_some_iff.1 h6).1 (fun e => by obtain ⟨_, d, h2⟩ := row_typ h.bk.want e.symm; exact typ_ne h3 h2 (by decide) rfl)]
    exact h6
  have := k2_of (t' := t) h.bk h.lo (fun i e hi hit he => by
    rw [List.getElem?_append_left (by omega)] at he
    exact h.bk.ti i e hi hit he) hl hn hes k hm h.ma ho hg' (hG.imp id fun e => by omega)
  exact ⟨h3b, this.1, this.2.2.1⟩
end
/-- what lies where while the lists of the book grow -/
def W2 (w : World) (base hb f n N i : Nat) (W : World) : Prop :=
  ∃ ov wv es, Bk W base hb ov wv es f n ∧ es.length = n + (i - f) ∧ (∀ (j : Nat) (e : BE), j < n → es[j]? = some e → e.l.length ≤ N) ∧ (∀ e ∈ es, e.l.length ≤ N + 30) ∧ Below base w W
theorem W1.w2 {w : World} {base hb : Nat} {ov wv : Value} {es : List BE} {f n N : Nat} {W : World} (h : W1 w base hb ov wv es f n W) (hn : es.length = n) (hs : ∀ e ∈ es, e.l.length ≤ N) : W2 w base hb f n N f W := by
  obtain ⟨es', h1, h2⟩ := h.bk
  have hl : ∀ (j : Nat) (e : BE), es'[j]? = some e → e.l.length ≤ N := fun j e he => by
    have hj : j < es.length := by rw [← h2.len]; exact (List.getElem?_eq_some_iff.1 he).1
    obtain ⟨e', h3, _, _, h4⟩ := h2.at (i := j) (e := es[j]) (by simp [hj])
    rw [he] at h3
    injection h3 with h3
    rw [h3, h4]
    exact hs _ (List.getElem_mem hj)
  refine ⟨ov, wv, es', h1, by rw [h2.len]; omega, fun j e _ he => hl j e he, fun e he => ?_, h.bel⟩
  obtain ⟨j, hj⟩ := List.mem_iff_getElem?.1 he
  have := hl j e hj
  omega
/-- the region that takes a list and copies what it must read as -/
def I15 (w0 : World) (hb g0 g1 i : Nat) (ov wv eo ew : Value) (l : List Int) : Nat → Value → World → Prop
  | 0, v, _ => v = .pointer (some ⟨hb, 0, none⟩)
  | 1, v, _ => v = .pointer (some ⟨hb, 0, none⟩)
  | 2, v, _ => v = .pointer (some ⟨hb, 0, none⟩)
  | 3, v, _ => v = ov
  | 4, v, _ => v = .int .i64 i
  | 5, v, _ => v = .pointer (some ⟨g0, i, none⟩)
  | 6, v, _ => v = eo
  | 7, v, _ => v = .pointer (some ⟨hb, 0, none⟩)
  | 8, v, _ => v = .pointer (some ⟨hb, 0, none⟩)
  | 9, v, _ => v = .pointer (some ⟨hb, 1, none⟩)
  | 10, v, _ => v = wv
  | 11, v, _ => v = .int .i64 i
  | 12, v, _ => v = .pointer (some ⟨g1, i, none⟩)
  | 13, v, _ => v = ew
  | 14, v, w => OwnI w w0.heap.size v l
  | 15, v, _ => v = eo
  | 16, v, w => OwnI w w0.heap.size v l
  | _, _, _ => True
theorem I15.ext {w0 : World} {hb g0 g1 i : Nat} {ov wv eo ew : Value} {l : List Int} (j : Nat) (v : Value) (w w' : World) (h : I15 w0 hb g0 g1 i ov wv eo ew l j v w) (he : Ext w w') : I15 w0 hb g0 g1 i ov wv eo ew l j v w' := by
  match j, h with
  | 0, h => exact h
  | 1, h => exact h
  | 2, h => exact h
  | 3, h => exact h
  | 4, h => exact h
  | 5, h => exact h
  | 6, h => exact h
  | 7, h => exact h
  | 8, h => exact h
  | 9, h => exact h
  | 10, h => exact h
  | 11, h => exact h
  | 12, h => exact h
  | 13, h => exact h
  | 14, h => exact OwnI.below h he (Nat.le_refl _)
  | 15, h => exact h
  | 16, h => exact OwnI.below h he (Nat.le_refl _)
  | _ + 17, _ => trivial
/-- two lists that grow side by side, so many steps -/
def T30 (w : World) (base hb : Nat) (ov wv : Value) (es : List BE) (f n L : Nat) (lv mv : Value) (k : Nat) (W : World) : Prop :=
  ∃ ll, R30 W base hb ov wv es f n lv ll mv ll (decide (0 < k)) ∧ ll.length = L + k ∧ Below base w W
end Go.Proofs
