/-
  Several texts in one (B1 Q0 B2).
-/
import Derived.RangeFuncNested
import Derived.RangeFuncBound
import Derived.RangeFuncCalls
import Derived.RangeFuncLeaves
import Derived.Shelf.Abstract
import Derived.Shelf.RegionOpen
import Derived.WalkKit
import Derived.WalkSpells
import Derived.WalkLawsBesides
import Derived.OwnWalkIn
import Derived.TacticsInMore
import Derived.LoopNIn
import Derived.LoopIn
import Derived.BigQuiet
import Derived.RegionIn
import Derived.Deep.QuietTactic
import Derived.Deep.RegionWith
import Derived.Lib.OthersKept
import Derived.Maps.AppendAt
import Derived.Lib.SmallJoins
import Derived.Shelf.SlSortCmp.QuietGrown
import Derived.RangeFuncWrites
import Derived.RangeFuncBox
import Derived.Maps.OwnIn
import Derived.Deep.Upon
import Derived.Deep.AppendLies
import Derived.Test.YtknaoahokopplaaGreatDoorSmc
import Derived.Test.YtknaoahokopplaaGreatDoorXgc
import Derived.Test.YtknaoahokopplaaGreatDoorKqc
import Derived.Test.YtknaoahokopplaaGreatDoorLec
namespace Go.Proofs
open Go.RowKit Go.Shelf

set_option maxRecDepth 100000
attribute [local go_sem] Oper.semAt_some
attribute [local go_sem ↓] Go.wp_at_zero Go.wp_at_succ
def IsSl (v : Value) : Prop := ∃ a n c, v = .slice a n c
theorem heap_new (w : World) (o : Obj) : (w.alloc o).heap[w.heap.size]? = some o := World.alloc_heap_new _ _
theorem turns_set (W : World) (B j : Nat) (u : Value) (b : Nat) (hb : b ≠ B) : (W.setCell ⟨B, j, none⟩ u).heap[b]? = W.heap[b]? := by
  show (W.heap.modify B _)[b]? = _
  rw [Array.getElem?_modify]
  rw [if_neg (fun e => hb e.symm)]
theorem OwnT.form {w : World} {base : Nat} {v : Value} {l : List Tok} (h : OwnT w base v l) : ∃ a c, v = .slice a l.length c := formT h
theorem OwnT.kr {w : World} {base : Nat} {v : Value} {l : List Tok} (h : OwnT w base v l) : RT w v l := h.rt
theorem RT.grown {w w' : World} {v : Value} {l : List Tok} (h : RT w v l) (k : Grown w w') : RT w' v l := h.below k.below (Nat.le_refl _)
/-- a token lies at a place -/
def KAt (w : World) (g o : Nat) (x : Tok) : Prop := w.cell? ⟨g, o, none⟩ = some (.int .i64 x.k) ∧ w.cell? ⟨g, o + 1, none⟩ = some (.int .i64 x.a) ∧ w.cell? ⟨g, o + 2, none⟩ = some (.int .i64 x.l) ∧ w.cell? ⟨g, o + 3, none⟩ = some (.int .i64 x.u) ∧ w.cell? ⟨g, o + 4, none⟩ = some (.string x.t) ∧ w.cell? ⟨g, o + 5, none⟩ = some (.int .i64 x.n)
theorem reads_ft {w : World} {g : Nat} {l : List Tok} (h : ReadsT w g l) {j : Nat} {u : Value} (hj : (ft l)[j]? = some u) : w.cell? ⟨g, j, none⟩ = some u := by
  have hl : j < (ft l).length := (List.getElem?_eq_some_iff.1 hj).1
  rw [ft_length] at hl
  have hk : j / 6 < l.length := by omega
  have hx : l[j / 6]? = some l[j / 6] := List.getElem?_eq_getElem hk
  obtain ⟨a0, a1, a2, a3, a4, a5⟩ := ft_at l hx
  obtain ⟨b0, b1, b2, b3, b4, b5⟩ := h _ _ hx
  have h6 : j % 6 = 0 ∨ j % 6 = 1 ∨ j % 6 = 2 ∨ j % 6 = 3 ∨ j % 6 = 4 ∨ j % 6 = 5 := by omega
  rcases h6 with h6 | h6 | h6 | h6 | h6 | h6
  · have e : j / 6 * 6 = j := by omega
    rw [e] at a0 b0; rw [a0] at hj; cases hj; exact b0
  · have e : j / 6 * 6 + 1 = j := by omega
    rw [e] at a1 b1; rw [a1] at hj; cases hj; exact b1
  · have e : j / 6 * 6 + 2 = j := by omega
    rw [e] at a2 b2; rw [a2] at hj; cases hj; exact b2
  · have e : j / 6 * 6 + 3 = j := by omega
    rw [e] at a3 b3; rw [a3] at hj; cases hj; exact b3
  · have e : j / 6 * 6 + 4 = j := by omega
    rw [e] at a4 b4; rw [a4] at hj; cases hj; exact b4
  · have e : j / 6 * 6 + 5 = j := by omega
    rw [e] at a5 b5; rw [a5] at hj; cases hj; exact b5
theorem Hid.mk2 {p : Prop} (h : p) : Hid p := h
/-- a list that was handed out, what it must read as, and what both read -/
structure BE where
  o : Value
  w : Value
  l : List Tok
def blO (v : Value) : List Nat := v.ownBlock.toList
def blksO (es : List BE) : List Nat := es.flatMap fun e => blO e.o ++ blO e.w
theorem own_stays {W W' : World} {base n size : Nat} {e : TypeId} {v : Value} {xs : List Value} (h : W.ownsRow base e size v n xs) (k : ∀ b cur, v.ownBlock = some b → base ≤ b → W.heap[b]? = some (.cells cur e (0, 0)) → W'.heap[b]? = some (.cells cur e (0, 0))) : W'.ownsRow base e size v n xs := by
  refine ⟨h.1, ?_⟩
  rcases h.2 with h | ⟨g, cap, cur, e1, h1, h2, h3⟩
  · exact .inl h
  · exact .inr ⟨g, cap, cur, e1, h1, k g cur (by rw [e1]; rfl) h1 h2, h3⟩
/-- what the lists must read as lies in blocks of their own -/
def AW (es : List BE) : Prop := ∀ (i j : Nat) (e e' : BE) (b : Nat), es[i]? = some e → es[j]? = some e' → e.w.ownBlock = some b → (i ≠ j → e'.w.ownBlock ≠ some b) ∧ e'.o.ownBlock ≠ some b
/-- lists from u to t lie in blocks of their own -/
def AO (es : List BE) (u t : Nat) : Prop := ∀ (i j : Nat) (e e' : BE) (b : Nat), u ≤ i → i < t → i ≠ j → es[i]? = some e → es[j]? = some e' → e.o.ownBlock = some b → e'.o.ownBlock ≠ some b
/-- the book in memory -/
structure Bok (W : World) (base hb : Nat) (ov wv : Value) (es : List BE) (f u t : Nat) : Prop where
  bk : W.heap[hb]? = some (.cells #[ov, wv, .int .i64 f] 26 (0, 0))
  hb : base ≤ hb
  out : W.ownsRow base 47 1 ov es.length (es.map BE.o)
  want : W.ownsRow base 47 1 wv es.length (es.map BE.w)
  ro : ∀ e ∈ es, OwnT W base e.o e.l
  rw : ∀ e ∈ es, OwnT W base e.w e.l
  aw : AW es
  ao : AO es u t
  ow : ov.ownBlock = none ∨ ov.ownBlock ≠ wv.ownBlock
  few : es.length ≤ 100
  sm : ∀ e ∈ es, e.l.length ≤ 900000
  fr : f ≤ es.length
section
variable {W W' : World} {base hb f u t : Nat} {ov wv : Value} {es : List BE}
theorem Bok.stays (h : Bok W base hb ov wv es f u t) (k : ∀ b cur y, base ≤ b → (y = 52 ∨ y = 47 ∨ y = 26) → W.heap[b]? = some (.cells cur y (0, 0)) → W'.heap[b]? = some (.cells cur y (0, 0))) : Bok W' base hb ov wv es f u t :=
  ⟨k _ _ _ h.hb (.inr (.inr rfl)) h.bk, h.hb, own_stays h.out fun b cur _ h1 h2 => k b cur 47 h1 (.inr (.inl rfl)) h2, own_stays h.want fun b cur _ h1 h2 => k b cur 47 h1 (.inr (.inl rfl)) h2, fun e he => own_stays (h.ro e he) fun b cur _ h1 h2 => k b cur 52 h1 (.inl rfl) h2, fun e he => own_stays (h.rw e he) fun b cur _ h1 h2 => k b cur 52 h1 (.inl rfl) h2, h.aw, h.ao, h.ow, h.few, h.sm, h.fr⟩
theorem Bok.below (h : Bok W base hb ov wv es f u t) {n : Nat} (hb' : Below n W W') (hn : W.heap.size ≤ n) : Bok W' base hb ov wv es f u t :=
  h.stays fun b _ _ _ _ ho => (hb'.block b (Nat.lt_of_lt_of_le (Array.getElem?_eq_some_iff.1 ho).1 hn)).trans ho
theorem Bok.grown (h : Bok W base hb ov wv es f u t) (k : Grown W W') : Bok W' base hb ov wv es f u t := h.below k.below (Nat.le_refl _)
theorem Bok.cell (h : Bok W base hb ov wv es f u t) : W.cell? ⟨hb, 0, none⟩ = some ov ∧ W.cell? ⟨hb, 1, none⟩ = some wv ∧ W.cell? ⟨hb, 2, none⟩ = some (.int .i64 f) := by
  simp [World.cell?, h.bk]
theorem row_some {n : Nat} {e : TypeId} {v : Value} {xs : List Value} (h : W.ownsRow base e 1 v n xs) (hn : n ≠ 0) : ∃ g cap, v = .slice (some ⟨g, 0, none⟩) n cap ∧ base ≤ g ∧ n ≤ cap ∧ ∀ (j : Nat) (u : Value), xs[j]? = some u → W.cell? ⟨g, j, none⟩ = some u := by
  rcases h.2 with ⟨_, h0⟩ | ⟨g, cap, cur, e1, h1, h2, h3, h4, h5, h6⟩
  · exact absurd h0 hn
  · refine ⟨g, cap, e1, h1, h3, fun j u hj => ?_⟩
    rw [← h6] at hj
    simp only [World.cell?, h2]
    have : cur.toList[j]? = some u := by
      rw [List.getElem?_take] at hj
      split at hj
      · exact hj
      · cases hj
    simpa using this
theorem row_nil {n : Nat} {e : TypeId} {v : Value} {xs : List Value} (h : W.ownsRow base e 1 v n xs) : ∃ a cap, v = .slice a n cap := by
  rcases h.2 with ⟨e1, h0⟩ | ⟨g, cap, cur, e1, h1, h2, h3, h4, h5, h6⟩
  · exact ⟨_, _, by rw [e1, h0]⟩
  · exact ⟨_, _, e1⟩
end
set_option maxHeartbeats 1000000 in
theorem holds_nil (hb : Nat) (a b : Option Addr) (c d : Nat) (w : World) (h0 : w.cell? ⟨hb, 0, none⟩ = some (.slice a 0 c)) (h1 : w.cell? ⟨hb, 1, none⟩ = some (.slice b 0 d)) : Calls Tryz.prog 27 #[.pointer (some ⟨hb, 0, none⟩)] w fun e w' => e = .returned (.bool true) ∧ Grown w w' := by
  go_enter Tryz.func27, Tryz.ntmps27
  go_wp2
  go_loopw [10] (fun vi wr => vi = .int .i64 0 ∧ wr = w) (fun _ _ => 0)
  case atStart => exact ⟨rfl, rfl⟩
  case round =>
    obtain ⟨rfl, rfl⟩ := hrel
    go_wp2
    go_ret
    exact ⟨rfl, Grown.refl _⟩
set_option maxHeartbeats 2000000 in
theorem holds_any (base hb : Nat) (ov wv : Value) (es : List BE) (f u t : Nat) (w : World) (h : Bok w base hb ov wv es f u t) : Calls Tryz.prog 27 #[.pointer (some ⟨hb, 0, none⟩)] w fun e w' => e = .returned (.bool true) ∧ Grown w w' := by
  by_cases hz : es.length = 0
  · have ho := h.out
    have hw := h.want
    rw [hz] at ho hw
    obtain ⟨a, c, rfl⟩ := row_nil ho
    obtain ⟨b, d, rfl⟩ := row_nil hw
    exact holds_nil hb a b c d w h.cell.1 h.cell.2.1
  · obtain ⟨go, co, rfl, _, hoc, hoe⟩ := row_some h.out hz
    obtain ⟨gw, cw, rfl, _, hwc, hwe⟩ := row_some h.want hz
    obtain ⟨n, hnn⟩ : ∃ n, es.length = n := ⟨_, rfl⟩
    have HN : Hid (es.length = n) := hnn
    have hn1 : n ≤ 100 := by rw [← hnn]; exact h.few
    have h0 := h.cell.1
    have h1 := h.cell.2.1
    have HO : Hid (∀ j u, (es.map BE.o)[j]? = some u → w.cell? ⟨go, j, none⟩ = some u) := hoe
    have HW : Hid (∀ j u, (es.map BE.w)[j]? = some u → w.cell? ⟨gw, j, none⟩ = some u) := hwe
    rw [hnn] at h0 h1 hoc hwc
    have HC : Hid (∀ (j : Nat) (hj : j < es.length) (W : World), Grown w W → Calls Tryz.prog 25 #[es[j].o, es[j].w] W fun e w' => e = .returned (.bool true) ∧ Grown W w') := fun j hj W hG => by
      have hm : es[j] ∈ es := List.getElem_mem hj
      have h1 := (h.ro _ hm).kr
      have h2 := (h.rw _ hm).kr
      exact same_any _ _ _ W (by have := h.sm _ hm; omega) (h1.grown hG) (h2.grown hG)
    have HSL : Hid (∀ (j : Nat) (hj : j < es.length), IsSl es[j].o ∧ IsSl es[j].w) := fun j hj => by
      have hm : es[j] ∈ es := List.getElem_mem hj
      obtain ⟨a1, c1, e1⟩ := (h.ro _ hm).form
      obtain ⟨a2, c2, e2⟩ := (h.rw _ hm).form
      exact ⟨⟨_, _, _, e1⟩, ⟨_, _, _, e2⟩⟩
    clear hoe hwe hnn h hz
    go_enter Tryz.func27, Tryz.ntmps27
    go_wp2
    go_loopw [10] (fun vi wr => ∃ k : Nat, vi = .int .i64 k ∧ k ≤ n ∧ Grown w wr) (fun vi _ => n - (intOf vi).toNat)
    case atStart => exact ⟨0, rfl, by omega, Grown.refl _⟩
    case round =>
      obtain ⟨k, rfl, hk, hB⟩ := hrel
      by_cases hlt : k < n
      · have hlt' : (k : Int) < (n : Int) := by omega
        have hpos : (0 : Int) ≤ (k : Int) := by omega
        have hkl : k < es.length := by rw [HN.out]; exact hlt
        have hc := hB.cellv (HO.out k es[k].o (by simp [hkl]))
        have hi := hB.cellv (HW.out k es[k].w (by simp [hkl]))
        have h0' := hB.cellv h0
        have h1' := hB.cellv h1
        have HCC : Hid (∀ W, Grown w W → Calls Tryz.prog 25 #[es[k].o, es[k].w] W fun e w' => e = .returned (.bool true) ∧ Grown W w') := HC.out k hkl
        obtain ⟨⟨a1, n1, c1, e1⟩, ⟨a2, n2, c2, e2⟩⟩ := HSL.out k hkl
        rw [e1] at hc HCC
        rw [e2] at hi HCC
        clear e1 e2 HSL HC
        go_wp2_with fail
        refine (HCC.out _ hB).mono ?_
        rintro e w5 ⟨rfl, hG2⟩
        go_wp2
        exact ⟨⟨k + 1, by go_num, by omega, hB.trans hG2⟩, by simp [intOf]; omega⟩
      · go_wp2
        go_ret
        exact ⟨rfl, hB⟩
theorem Run.len {s : ByteArray} {p : Nat} {fresh : Bool} {toks : List Tok} {fa : Nat} {fe : Int} (h : Run s p fresh toks fa fe) : toks.length ≤ s.size - p := by
  induction h with
  | fin h => simp
  | bad hq hlt hb he => simp
  | step hq hlt hb h0 hl hr ih =>
    simp only [List.length_cons]
    omega
set_option maxHeartbeats 1000000 in
theorem rscan_long (s : ByteArray) (hs : 32768 < s.size) (w : World) : Calls Tryz.prog 22 #[.string s] w fun e w' => e = .returned (.tuple #[.slice none 0 0, .agg #[.int .i64 32768, .int .i64 2]]) ∧ Below w.heap.size w w' := by
  have hd : (32768 : Int) < (s.size : Int) := by omega
  go_enter Tryz.func22, Tryz.ntmps22
  go_wp2
  exact bodyPost_ret (v := .tuple #[.slice none 0 0, .agg #[.int .i64 32768, .int .i64 2]]) (by simp [results, Tryz.f22, go_sem]) rfl ⟨rfl, (Below.refl _ _).alloc (Nat.le_refl _) _⟩
/-- what both scanners tell of a text -/
def ScB (s : ByteArray) (L : List Tok) (fa : Nat) (fe : Int) : Prop :=
  L.length ≤ 32768 ∧ (∀ w, Calls Tryz.prog 23 #[.string s] w fun e w' => ∃ v, e = .returned (.tuple #[v, .agg #[.int .i64 fa, .int .i64 fe]]) ∧ OwnT w' w.heap.size v L ∧ Below w.heap.size w w') ∧ (∀ w, Calls Tryz.prog 22 #[.string s] w fun e w' => ∃ v, e = .returned (.tuple #[v, .agg #[.int .i64 fa, .int .i64 fe]]) ∧ OwnT w' w.heap.size v L ∧ Below w.heap.size w w')
theorem scan_any (s : ByteArray) : ∃ L fa fe, ScB s L fa fe := by
  by_cases hs : s.size ≤ 32768
  · obtain ⟨toks, fa, fe, h1, h2, _⟩ := scan_both s hs
    have hl := h1.len
    by_cases he : fe = 0
    · refine ⟨toks, fa, fe, by omega, fun w => ?_, fun w => ?_⟩
      · refine (scan_run s toks fa fe hs h1 w).mono ?_
        rintro e w' ⟨v, k1, k2, k3⟩
        rw [if_pos he] at k2
        exact ⟨v, k1, k2, k3⟩
      · refine (rscan_run s toks fa fe hs h2 w).mono ?_
        rintro e w' ⟨v, k1, k2, k3⟩
        rw [if_pos he] at k2
        exact ⟨v, k1, k2, k3⟩
    · refine ⟨[], fa, fe, by simp, fun w => ?_, fun w => ?_⟩
      · refine (scan_run s toks fa fe hs h1 w).mono ?_
        rintro e w' ⟨v, k1, k2, k3⟩
        rw [if_neg he] at k2
        exact ⟨v, k1, by rw [k2]; exact OwnT.nil _ _, k3⟩
      · refine (rscan_run s toks fa fe hs h2 w).mono ?_
        rintro e w' ⟨v, k1, k2, k3⟩
        rw [if_neg he] at k2
        exact ⟨v, k1, by rw [k2]; exact OwnT.nil _ _, k3⟩
  · refine ⟨[], 32768, 2, by simp, fun w => ?_, fun w => ?_⟩
    · refine (scan_long s (by omega) w).mono ?_
      rintro e w' ⟨rfl, k3⟩
      exact ⟨_, rfl, OwnT.nil _ _, k3⟩
    · refine (rscan_long s (by omega) w).mono ?_
      rintro e w' ⟨rfl, k3⟩
      exact ⟨_, rfl, OwnT.nil _ _, k3⟩
theorem linfo47 : (Tryz.prog.info? 47).map (fun i => (i.zero, i.size, i.bytes)) = some (some (.slice none 0 0), 1, 24) := by kernel_rfl
theorem add_at2 (g o j : Nat) : (⟨g, o, none⟩ : Addr).add j = ⟨g, o + j, none⟩ := by unfold Addr.add; split <;> simp_all
/-- a copy of numbers in a new block (or none) -/
theorem run_copyI (w : World) (ty : TypeId) (xv : Value) (e : List Tok) (hi : RT w xv e) (hl : e.length ≤ 100000000) :
    ∃ v' w', (Builtin.append_ #[47, 47] ty #[.slice none 0 0, xv]).run Tryz.prog w = .ok v' w' ∧ OwnT w' w.heap.size v' e ∧ Below w.heap.size w w' := by
  obtain ⟨i0, hi0, hz0, hz1, hz2⟩ := info_parts info47
  obtain ⟨A, c, rfl, hr⟩ := hi
  by_cases he : e = []
  · subst he
    have hr := run_append_nothing (P := Tryz.prog) w 47 47 ty 52 i0 Tryz.underlying47 hi0 none 0 0 (Nat.le_refl _) (.slice A 0 c) ⟨.inl ⟨52, Tryz.underlying47⟩, fun w' => by cases A <;> simp [Builtin.lenOf, go_sem], by cases A <;> simp [Builtin.firstCells, go_sem], by cases A <;> simp [Builtin.firstCells, go_sem], by simp, by simp⟩
    exact ⟨_, _, hr, OwnT.nil _ _, Below.refl _ _⟩
  · obtain ⟨g, rfl, hd⟩ := hr.resolve_left he
    obtain ⟨v', w', h1, h2, h3, _⟩ := run_append_own_at (P := Tryz.prog) w w.heap.size 47 ty 52 i0 _ 6 56 Tryz.underlying47 hi0 hz0 hz1 hz2 rfl (by decide) (.slice none 0 0) 0 [] (World.ownsRow_nil w _ 52 6) ⟨g, 0, none⟩ e.length c (ft e) (ft_length e) (fun j u hj => by
      rw [add_at2, Nat.zero_add]
      exact reads_ft hd hj) (ft_one _) (by unfold maxLen; omega) (by omega) (Nat.le_refl _)
    refine ⟨v', w', h1, by unfold OwnT; simpa using h2, (Below.refl _ w).grown h3 (Nat.le_refl _) (fun k hk => by cases hk)⟩
theorem step_copyI {ops : Array Oper} {o : Oper} {a : Act} {w : World} {K : Act → World → Prop} {Q : Exit → Act → World → Prop} {E : Prop} (hg : o.guard = none) (x : Operand) (hop : o.op = .call { callee := .builtin .append, args := #[.const (.slice none 0 0), x], argTypes := #[47, 47] })
    (xv : Value) (e : List Tok) (hx : a.eval x = xv) (hi : RT w xv e) (hl : e.length ≤ 100000000) (hK : ∀ v' w', OwnT w' w.heap.size v' e → Below w.heap.size w w' → K (a.put o.dst v') w') :
    if Region.wanted o (yielded ops a.tmps) = true then Oper.wp Tryz.prog o a w K Q else E := by
  have hw : Region.wanted o (yielded ops a.tmps) = true := by simp [Region.wanted, hg]
  rw [if_pos hw]
  obtain ⟨v', w', hr, h1, h2⟩ := run_copyI w o.type xv e hi hl
  have hn : a.eval (.const (.slice none 0 0)) = .slice none 0 0 := rfl
  unfold Oper.wp execOp
  simp only [hop, resolve, invoke, builtin, Sem.run_bind, Sem.run_pure, Result.andThen_ok, List.map_toArray, List.map_cons, List.map_nil, hn, hx, hr]
  exact hK v' w' h1 h2
/-- one list more in a row of lists -/
theorem run_appL (w : World) (ty : TypeId) (base : Nat) (v : Value) (n : Nat) (vs : List Value) (hown : w.ownsRow base 47 1 v n vs) (gs c : Nat) (u : Value) (hc : w.cell? ⟨gs, 0, none⟩ = some u) (hu : IsSl u) (hl : n ≤ 2000000) (hbase : base ≤ w.heap.size) :
    ∃ g cap w', (Builtin.append_ #[24, 24] ty #[v, .slice (some ⟨gs, 0, none⟩) 1 c]).run Tryz.prog w = .ok (.slice (some ⟨g, 0, none⟩) (n + 1) cap) w' ∧ w'.ownsRow base 47 1 (.slice (some ⟨g, 0, none⟩) (n + 1) cap) (n + 1) (vs ++ [u]) ∧ w.grownBy w' v.ownBlock ∧ (v.ownBlock = some g ∨ g = w.heap.size) := by
  obtain ⟨i0, hi0, hz0, hz1, hz2⟩ := info_parts linfo47
  obtain ⟨v', w', h1, h2, h3, h4, h5⟩ := run_append_own_at (P := Tryz.prog) w base 24 ty 47 i0 (.slice none 0 0) 1 24 Tryz.underlying24 hi0 hz0 hz1 hz2 rfl (by decide) v n vs hown ⟨gs, 0, none⟩ 1 c [u] rfl (fun j x hj => by
      match j, hj with
      | 0, hj => simp at hj; subst hj; exact hc) (fun x hx => by simp at hx; subst hx; obtain ⟨A, k, d, rfl⟩ := hu; rfl) (by unfold maxLen; omega) (by omega) hbase
  rcases h2.2 with ⟨e, _⟩ | ⟨g, cap, cur, e, _⟩
  · exact absurd (h4.1 e).2 (by decide)
  · subst e
    refine ⟨g, cap, w', h1, h2, h3, ?_⟩
    rcases h5 with h5 | h5
    · exact .inl h5.symm
    · exact .inr (by simpa [Value.ownBlock] using h5)
theorem step_appL {ops : Array Oper} {o : Oper} {a : Act} {w : World} {K : Act → World → Prop} {Q : Exit → Act → World → Prop} {E : Prop} (hg : o.guard = none) (s x : Operand) (hop : o.op = .call { callee := .builtin .append, args := #[s, x], argTypes := #[24, 24] })
    (base : Nat) (v : Value) (n : Nat) (vs : List Value) (hs : a.eval s = v) (hown : w.ownsRow base 47 1 v n vs) (gs c : Nat) (u : Value) (hx : a.eval x = .slice (some ⟨gs, 0, none⟩) 1 c) (hc : w.cell? ⟨gs, 0, none⟩ = some u) (hu : IsSl u) (hl : n ≤ 2000000) (hbase : base ≤ w.heap.size)
    (hK : ∀ g cap w', w'.ownsRow base 47 1 (.slice (some ⟨g, 0, none⟩) (n + 1) cap) (n + 1) (vs ++ [u]) → w.grownBy w' v.ownBlock → (v.ownBlock = some g ∨ g = w.heap.size) → K (a.put o.dst (.slice (some ⟨g, 0, none⟩) (n + 1) cap)) w') :
    if Region.wanted o (yielded ops a.tmps) = true then Oper.wp Tryz.prog o a w K Q else E := by
  have hw : Region.wanted o (yielded ops a.tmps) = true := by simp [Region.wanted, hg]
  rw [if_pos hw]
  obtain ⟨g, cap, w', hr, h1, h2, h3⟩ := run_appL w o.type base v n vs hown gs c u hc hu hl hbase
  unfold Oper.wp execOp
  simp only [hop, resolve, invoke, builtin, Sem.run_bind, Sem.run_pure, Result.andThen_ok, List.map_toArray, List.map_cons, List.map_nil, hs, hx, hr]
  exact hK g cap w' h1 h2 h3
theorem app_L {ops : Array Oper} {rest : List Oper} {o : Oper} {a : Act} {Q : Exit → Act → World → Prop} {w : World} (hgd : o.guard = none) (s x : Operand) (hop : o.op = .call { callee := .builtin .append, args := #[s, x], argTypes := #[24, 24] })
    (base : Nat) (v : Value) (n : Nat) (vs : List Value) (hs : a.eval s = v) (hown : w.ownsRow base 47 1 v n vs) (gs c : Nat) (u : Value) (hx : a.eval x = .slice (some ⟨gs, 0, none⟩) 1 c) (hc : w.cell? ⟨gs, 0, none⟩ = some u) (hu : IsSl u) (hl : n ≤ 2000000) (hbase : base ≤ w.heap.size)
    (h : ∀ g cap w', w'.ownsRow base 47 1 (.slice (some ⟨g, 0, none⟩) (n + 1) cap) (n + 1) (vs ++ [u]) → w.grownBy w' v.ownBlock → (v.ownBlock = some g ∨ g = w.heap.size) → wpList Tryz.prog ops Q rest (a.put o.dst (.slice (some ⟨g, 0, none⟩) (n + 1) cap)) w') : wpList Tryz.prog ops Q (o :: rest) a w := by
  refine wpList_plain hgd fun K hK => ?_
  obtain ⟨g, cap, w', hr, h1, h2, h3⟩ := run_appL w o.type base v n vs hown gs c u hc hu hl hbase
  unfold Oper.wp execOp
  simp only [hop, resolve, invoke, builtin, Sem.run_bind, Sem.run_pure, Result.andThen_ok, List.map_toArray, List.map_cons, List.map_nil, hs, hx, hr]
  exact hK _ _ (h g cap w' h1 h2 h3)
end Go.Proofs
