/-
  Pieces that are lent.
-/
import Derived.RangeFuncNested
import Derived.RangeFuncBound
import Derived.RangeFuncCalls
import Derived.RangeFuncLeaves
import Derived.Shelf.Abstract
import Derived.Shelf.RegionOpen
import Derived.WalkKit
import Derived.WalkSpells
import Derived.WalkLawsBesides
import Derived.OwnWalkIn
import Derived.TacticsInMore
import Derived.LoopNIn
import Derived.LoopIn
import Derived.BigQuiet
import Derived.RegionIn
import Derived.Deep.QuietTactic
import Derived.Deep.RegionWith
import Derived.Lib.OthersKept
import Derived.Maps.AppendAt
import Derived.Lib.SmallJoins
import Derived.Shelf.SlSortCmp.QuietGrown
import Derived.Deep.LoopGhost
import Derived.Test.YtcfjdijmobgbpaaDoorTc
namespace Go.Proofs
open Go.RowKit Go.Shelf

set_option maxRecDepth 100000
attribute [local go_sem] Oper.semAt_some
attribute [local go_sem ↓] Go.wp_at_zero Go.wp_at_succ
theorem KT.set {t : TypeId} (W : World) (B i : Nat) (v : Value) (h : ∀ cs m, W.heap[B]? ≠ some (.cells cs t m)) : KT t W (W.setCell ⟨B, i, none⟩ v) := fun b cs m hb => by
  have hne : B ≠ b := fun e => h cs m (e ▸ hb)
  show (W.heap.modify B _)[b]? = _
  rw [Array.getElem?_modify, if_neg hne]
  exact hb
theorem cells_setS {w : World} {g : Nat} {cur : Array Value} {t : TypeId} {j : Nat} {u : Value} (h : w.heap[g]? = some (.cells cur t (0, 0))) : (w.setCell ⟨g, j, none⟩ u).heap[g]? = some (.cells (cur.setIfInBounds j u) t (0, 0)) := by
  have hlt := (Array.getElem?_eq_some_iff.1 h).1
  have h' : w.heap[g] = .cells cur t (0, 0) := by simpa [Array.getElem?_eq_getElem hlt] using h
  show (w.heap.modify g _)[g]? = _
  rw [Array.getElem?_eq_getElem (by simpa using hlt), Array.getElem_modify_self, h']
  rfl
/-- a row of pieces that came in, value by value -/
structure PRv (w : World) (v : Value) (tvs : List Value) (ps : List Pc) : Prop where
  len : tvs.length = ps.length
  el : ∀ (j : Nat) (h1 : j < tvs.length) (h2 : j < ps.length), Rs w tvs[j] ps[j].tl ∧ NilOk tvs[j]
  nil : NilOk v
  cell : ∃ a cap, v = .slice a ps.length cap ∧ ps.length ≤ cap ∧ (ps = [] ∨ ∃ g o, a = some ⟨g, o, none⟩ ∧ ∀ (j : Nat) (h : j < tvs.length) (h2 : j < ps.length), w.cell? ⟨g, o + j * 4, none⟩ = some (.int .i64 ps[j].k) ∧ w.cell? ⟨g, o + j * 4 + 1, none⟩ = some (.int .i64 ps[j].u) ∧ w.cell? ⟨g, o + j * 4 + 2, none⟩ = some (.int .i64 ps[j].y) ∧ w.cell? ⟨g, o + j * 4 + 3, none⟩ = some tvs[j])
theorem PRv.below {w w' : World} {n : Nat} {v : Value} {tvs : List Value} {ps : List Pc} (h : PRv w v tvs ps) (hb : Below n w w') (hn : w.heap.size ≤ n) : PRv w' v tvs ps := by
  obtain ⟨h1, h2, h3, a, cap, h4, h5, h6⟩ := h
  refine ⟨h1, fun j a b => ⟨(h2 j a b).1.below hb hn, (h2 j a b).2⟩, h3, a, cap, h4, h5, h6.imp id ?_⟩
  rintro ⟨g, o, e, h⟩
  refine ⟨g, o, e, fun j hj hj2 => ?_⟩
  obtain ⟨k0, k1, k2, k3⟩ := h j hj hj2
  exact ⟨cell_below k0 hb hn, cell_below k1 hb hn, cell_below k2 hb hn, cell_below k3 hb hn⟩
theorem PRv.grown {w w' : World} {v : Value} {tvs : List Value} {ps : List Pc} (h : PRv w v tvs ps) (k : Grown w w') : PRv w' v tvs ps := h.below k.below (Nat.le_refl _)
theorem PRv.pr {w : World} {v : Value} {tvs : List Value} {ps : List Pc} (h : PRv w v tvs ps) : PR w v ps := by
  obtain ⟨h1, h2, _, a, cap, h4, h5, h6⟩ := h
  refine ⟨a, cap, h4, h5, h6.imp id ?_⟩
  rintro ⟨g, o, e, h⟩
  refine ⟨g, o, e, fun j hj => ?_⟩
  obtain ⟨k0, k1, k2, k3⟩ := h j (by omega) hj
  exact ⟨tvs[j]'(by omega), k0, k1, k2, k3, (h2 j (by omega) hj).1⟩
def fp1 (e : Pc × Value) : List Value := [.int .i64 e.1.k, .int .i64 e.1.u, .int .i64 e.1.y, e.2]
def fp (l : List (Pc × Value)) : List Value := l.flatMap fp1
theorem fp_length (l : List (Pc × Value)) : (fp l).length = l.length * 4 := by
  induction l with
  | nil => rfl
  | cons a l ih => simp [fp, fp1] at ih ⊢; omega
theorem fp_append (l k : List (Pc × Value)) : fp (l ++ k) = fp l ++ fp k := by simp [fp]
theorem fp_at (l : List (Pc × Value)) {j : Nat} (hj : j < l.length) : (fp l)[j * 4]? = some (.int .i64 l[j].1.k) ∧ (fp l)[j * 4 + 1]? = some (.int .i64 l[j].1.u) ∧ (fp l)[j * 4 + 2]? = some (.int .i64 l[j].1.y) ∧ (fp l)[j * 4 + 3]? = some l[j].2 := by
  induction l generalizing j with
  | nil => simp at hj
  | cons a l ih =>
    cases j with
    | zero => simp [fp, fp1]
    | succ j =>
      have := ih (j := j) (by simpa using hj)
      rw [show (j + 1) * 4 = j * 4 + 1 + 1 + 1 + 1 by omega]
      simpa [fp, fp1] using this
def markP : Pc × Value := (⟨-9, 0, 0, []⟩, .slice none 0 0)
/-- a row of pieces that was lent -/
def LP (W : World) (base : Nat) (ov v : Value) (tvs : List Value) (ps : List Pc) : Prop :=
  (v = .slice none 0 0 ∧ ov = .slice none 0 0 ∧ ps = []) ∨ ((∃ ad c, v = .slice (some ad) ps.length c) ∧ ∃ g cap es, ov = .slice (some ⟨g, 0, none⟩) ps.length cap ∧ ps.length + 1 ≤ cap ∧ es.map Prod.fst = ps ∧ W.ownsRow base 53 4 (.slice (some ⟨g, 0, none⟩) (ps.length + 1) cap) (ps.length + 1) (fp (es ++ [markP])) ∧ ∀ (j : Nat) (h1 : j < es.length) (h2 : j < tvs.length), LS W base es[j].2 tvs[j] es[j].1.tl)
theorem LP.below {W W' : World} {base n : Nat} {ov v : Value} {tvs : List Value} {ps : List Pc} (h : LP W base ov v tvs ps) (hb : Below n W W') (hn : W.heap.size ≤ n) : LP W' base ov v tvs ps := by
  rcases h with h | ⟨h1, g, cap, es, h2, h3, h4, h5, h6⟩
  · exact .inl h
  · exact .inr ⟨h1, g, cap, es, h2, h3, h4, ownsRow_below h5 hb hn, fun j a b => (h6 j a b).below hb hn⟩
theorem LP.le {W : World} {base base' : Nat} {ov v : Value} {tvs : List Value} {ps : List Pc} (h : LP W base ov v tvs ps) (hb : base' ≤ base) : LP W base' ov v tvs ps := by
  rcases h with h | ⟨h1, g, cap, es, h2, h3, h4, h5, h6⟩
  · exact .inl h
  · exact .inr ⟨h1, g, cap, es, h2, h3, h4, Joins.ownsRow_le h5 hb, fun j a b => (h6 j a b).le hb⟩
theorem LP.sl {W : World} {base : Nat} {ov v : Value} {tvs : List Value} {ps : List Pc} (h : LP W base ov v tvs ps) : IsSl ov := by
  rcases h with ⟨_, h, _⟩ | ⟨_, g, cap, _, h, _⟩
  · exact ⟨_, _, _, h⟩
  · exact ⟨_, _, _, h⟩
theorem own_cell4 {W : World} {base : Nat} {e : TypeId} {n c g : Nat} {xs : List Value} (h : W.ownsRow base e 4 (.slice (some ⟨g, 0, none⟩) n c) n xs) {j : Nat} {u : Value} (hj : xs[j]? = some u) : W.cell? ⟨g, j, none⟩ = some u := by
  have := World.ownsRow.cells h rfl j u hj
  rwa [add_zero_at] at this
theorem lp_cells {W : World} {base g cap n : Nat} {es : List (Pc × Value)} {x : Pc × Value} (h : W.ownsRow base 53 4 (.slice (some ⟨g, 0, none⟩) n cap) n (fp (es ++ [x]))) {j : Nat} (hj : j < es.length) :
    W.cell? ⟨g, j * 4, none⟩ = some (.int .i64 es[j].1.k) ∧ W.cell? ⟨g, j * 4 + 1, none⟩ = some (.int .i64 es[j].1.u) ∧ W.cell? ⟨g, j * 4 + 2, none⟩ = some (.int .i64 es[j].1.y) ∧ W.cell? ⟨g, j * 4 + 3, none⟩ = some es[j].2 := by
  have := fp_at (es ++ [x]) (j := j) (by simp; omega)
  rw [List.getElem_append_left hj] at this
  exact ⟨own_cell4 h this.1, own_cell4 h this.2.1, own_cell4 h this.2.2.1, own_cell4 h this.2.2.2⟩
theorem LP.pr {W : World} {base : Nat} {ov v : Value} {tvs : List Value} {ps : List Pc} (h : LP W base ov v tvs ps) (hl : tvs.length = ps.length) : PR W ov ps := by
  rcases h with ⟨_, rfl, rfl⟩ | ⟨_, g, cap, es, rfl, h3, h4, h5, h7⟩
  · exact ⟨none, 0, rfl, Nat.le_refl _, .inl rfl⟩
  · refine ⟨_, cap, rfl, by omega, .inr ⟨g, 0, rfl, fun j hj => ?_⟩⟩
    have hje : j < es.length := by rw [← h4] at hj; simpa using hj
    obtain ⟨k0, k1, k2, k3⟩ := lp_cells h5 hje
    have e : ps[j] = es[j].1 := by subst h4; simp
    rw [e]
    rw [Nat.zero_add]
    exact ⟨es[j].2, k0, k1, k2, k3, (h7 j hje (by omega)).rs⟩
theorem pinfo53 : (Tryd.prog.info? 53).map (fun i => (i.zero, i.size, i.bytes)) = some (some (.agg #[.int .i64 0, .int .i64 0, .int .i64 0, .slice none 0 0]), 4, 48) := by kernel_rfl
theorem nil23 (W : World) : (binOp .eql 23 (.slice none 0 0) (.slice none 0 0)).run Tryd.prog W = .ok (.bool true) W := by kernel_rfl
theorem some23 (W : World) (a : Addr) (n c : Nat) : (binOp .eql 23 (.slice (some a) n c) (.slice none 0 0)).run Tryd.prog W = .ok (.bool false) W := by kernel_rfl
/-- one piece more behind a row of the call's own -/
theorem app_P {ops : Array Oper} {rest : List Oper} {o : Oper} {a : Act} {Q : Exit → Act → World → Prop} {w : World} (hgd : o.guard = none) (s x : Operand)
    (ho : o.op = .call { callee := .builtin .append, args := #[s, x], argTypes := #[23, 23] }) (base : Nat) (v : Value) (n : Nat) (es : List (Pc × Value)) (hn : es.length = n) (hs : a.eval s = v) (hown : w.ownsRow base 53 4 v n (fp es)) (hv : v ≠ .slice none 0 0) (gs c : Nat) (e : Pc × Value) (hx : a.eval x = .slice (some ⟨gs, 0, none⟩) 1 c)
    (hc0 : w.cell? ⟨gs, 0, none⟩ = some (.int .i64 e.1.k)) (hc1 : w.cell? ⟨gs, 1, none⟩ = some (.int .i64 e.1.u)) (hc2 : w.cell? ⟨gs, 2, none⟩ = some (.int .i64 e.1.y)) (hc3 : w.cell? ⟨gs, 3, none⟩ = some e.2) (hsl : IsSl e.2) (hl : n ≤ 2000000) (hbase : base ≤ w.heap.size)
    (h : ∀ g cap w', n + 1 ≤ cap → w'.ownsRow base 53 4 (.slice (some ⟨g, 0, none⟩) (n + 1) cap) (n + 1) (fp (es ++ [e])) → KT 70 w w' → Below base w w' → wpList Tryd.prog ops Q rest (a.put o.dst (.slice (some ⟨g, 0, none⟩) (n + 1) cap)) w') : wpList Tryd.prog ops Q (o :: rest) a w := by
  obtain ⟨i0, hi, hz0, hz1, hz2⟩ := info_parts pinfo53
  subst hn
  refine wpList_append_own w hgd s x 23 ho base 53 i0 (.agg #[.int .i64 0, .int .i64 0, .int .i64 0, .slice none 0 0]) 4 48 Tryd.underlying23 hi hz0 hz1 hz2 rfl (by decide) v es.length (fp es) hs hown ⟨gs, 0, none⟩ 1 c (fp1 e) hx rfl ?_ ?_ (by unfold maxLen; omega) (by omega) hbase (fun v' w' h2 h3 h4 => ?_)
  · intro j u hj
    rw [add_zero_at]
    match j, hj with
    | 0, hj => simp [fp1] at hj; subst hj; exact hc0
    | 1, hj => simp [fp1] at hj; subst hj; exact hc1
    | 2, hj => simp [fp1] at hj; subst hj; exact hc2
    | 3, hj => simp [fp1] at hj; subst hj; exact hc3
    | j + 4, hj => simp [fp1] at hj
  · intro u hu
    simp [fp1] at hu
    obtain ⟨A, n, c, hsv⟩ := hsl
    rcases hu with rfl | rfl | rfl | rfl
    · rfl
    · rfl
    · rfl
    · rw [hsv]; rfl
  · have h2' : w'.ownsRow base 53 4 v' (es.length + 1) (fp (es ++ [e])) := by
      rw [fp_append]
      simpa [fp] using h2
    rcases h2'.2 with ⟨e', _⟩ | ⟨g, cap, cur, e', _, _, hcp, _⟩
    · exact absurd (h4.1 e').1 hv
    · subst e'
      exact h g cap w' hcp h2' (own_kt hown h3 (by decide)) ((Below.refl _ w).grown h3 hbase (fun k hk => (World.ownsRow.lt hown k hk).1))
theorem lentPieces_nil (w : World) : Calls Tryd.prog 30 #[.slice none 0 0] w fun e w' => e = .returned (.slice none 0 0) ∧ w' = w := by
  have he := nil23
  go_enter Tryd.func30, Tryd.ntmps30
  go_wp2
  go_ret
  exact ⟨rfl, rfl⟩
/-- how far lentPieces is -/
def LI3 (w : World) (tvs : List Value) (ps : List Pc) (k : Nat) (va : Value) (W : World) : Prop :=
  ∃ es : List (Pc × Value), es.map Prod.fst = ps.take k ∧ va ≠ .slice none 0 0 ∧ W.ownsRow w.heap.size 53 4 va k (fp es) ∧ (∀ (j : Nat) (h1 : j < es.length) (h2 : j < tvs.length), LS W w.heap.size es[j].2 tvs[j] es[j].1.tl) ∧ Below w.heap.size w W
set_option maxHeartbeats 4000000 in
theorem lentPieces_some (ad : Addr) (c : Nat) (tvs : List Value) (ps : List Pc) (w : World) (hr : PRv w (.slice (some ad) ps.length c) tvs ps) (hn : ps.length ≤ 1048576) (hs : ∀ p ∈ ps, p.tl.length ≤ 1048576) :
    Calls Tryd.prog 30 #[.slice (some ad) ps.length c] w fun e w' => ∃ ov, e = .returned ov ∧ LP w' w.heap.size ov (.slice (some ad) ps.length c) tvs ps ∧ Below w.heap.size w w' := by
  have he := some23
  obtain ⟨n, hnn⟩ : ∃ n, ps.length = n := ⟨_, rfl⟩
  have HN : Hid (ps.length = n) := hnn
  have HR : Hid (PRv w (.slice (some ad) n c) tvs ps) := by rw [hnn] at hr; exact hr
  have HSm : Hid (∀ p ∈ ps, p.tl.length ≤ 1048576) := hs
  rw [hnn] at hn ⊢
  have hnI : (n : Int) ≤ 1048576 := by omega
  have HS0 : Hid (LI3 w tvs ps 0 (.slice (some ⟨w.heap.size, 0, none⟩) 0 0) (w.alloc (.cells #[] 53))) := ⟨[], rfl, (by intro e; cases e), ⟨rfl, .inr ⟨w.heap.size, 0, #[], rfl, Nat.le_refl _, heap_alloc_new w _, Nat.le_refl _, Nat.zero_le _, rfl, rfl⟩⟩, fun j h => by simp at h, (Below.refl _ w).alloc (Nat.le_refl _) _⟩
  clear hr hnn hs
  go_enter Tryd.func30, Tryd.ntmps30
  go_wp2
  go_loopw [3, 11] (fun sa vi wr => ∃ (va : Value) (k : Nat), va = sa ∧ vi = .int .i64 k ∧ k ≤ n ∧ Hid (LI3 w tvs ps k va wr)) (fun _ vi _ => n - (intOf vi).toNat)
  case atStart => exact ⟨_, 0, rfl, rfl, Nat.zero_le _, HS0⟩
  case round =>
    obtain ⟨va, k, rfl, rfl, hk, HG⟩ := hrel
    have hpos : (0 : Int) ≤ (k : Int) := by omega
    have hkI : (k : Int) ≤ 1048576 := by omega
    clear HS0
    by_cases hlt : k < n
    · have hlt' : (k : Int) < (n : Int) := by omega
      have hkl : k < ps.length := by rw [HN.out]; exact hlt
      obtain ⟨es, g1, g2, g3, g4, g5⟩ := HG.out
      have hW := HR.out.below g5 (Nat.le_refl _)
      have hks : k < tvs.length := by rw [hW.len]; exact hkl
      obtain ⟨a', c', e', _, hcl⟩ := hW.cell
      obtain ⟨gg, oo, ha', hcl2⟩ := hcl.resolve_left (fun e => by rw [e] at hkl; simp at hkl)
      injection e' with e1 e2 e3
      clear e2 e3
      rw [ha'] at e1
      injection e1 with e1
      subst e1
      obtain ⟨q0, q1, q2, q3⟩ := hcl2 k hks hkl
      have hel := hW.el k hks hkl
      obtain ⟨sa, sn, sc, hsv⟩ : IsSl tvs[k] := hel.1.sl
      have HSV : Hid (tvs[k] = .slice sa sn sc) := hsv
      have HC : Hid (∀ W, Grown wr W → Calls Tryd.prog 56 #[tvs[k]] W fun e w' => ∃ ov, e = .returned ov ∧ LS w' W.heap.size ov tvs[k] ps[k].tl ∧ Below W.heap.size W w') := fun W hG => lentSet_any _ _ W (hel.1.grown hG) hel.2 (HSm.out _ (List.getElem_mem hkl))
      rw [hsv] at q3 HC
      have HPk : Hid (ps.take (k + 1) = ps.take k ++ [ps[k]]) := List.take_succ_eq_append_getElem hkl
      obtain ⟨pk, hpk⟩ : ∃ pk, ps[k] = pk := ⟨_, rfl⟩
      rw [hpk] at q0 q1 q2 HC HPk
      obtain ⟨xk, xu, xy, xtl⟩ := pk
      simp only at q0 q1 q2 HC
      clear hcl hcl2 hel hsv hW ha' hpk
      go_wp2_with fail
      refine (HC.out _ ((Grown.refl _).alloc _)).mono ?_
      rintro e w4 ⟨ov, rfl, hLS, hb4⟩
      obtain ⟨oa, on, oc, hov⟩ := hLS.sl
      subst hov
      have hpb : w4.heap[wr.heap.size]? = some (.cells #[.int .i64 xk, .int .i64 xu, .int .i64 xy, .slice sa sn sc] 53 (0, 0)) := (hb4.block wr.heap.size (by rw [World.size_alloc]; exact Nat.lt_succ_self _)).trans (heap_alloc_new wr _)
      have f3 : w4.frozen? ⟨wr.heap.size, 3, none⟩ = false := by simp [World.frozen?, hpb]
      have p3 : w4.cell? ⟨wr.heap.size, 3, none⟩ = some (.slice sa sn sc) := by simp [World.cell?, hpb]
      have hpb2 : (w4.setCell ⟨wr.heap.size, 3, none⟩ (.slice oa on oc)).heap[wr.heap.size]? = some (.cells #[.int .i64 xk, .int .i64 xu, .int .i64 xy, .slice oa on oc] 53 (0, 0)) := by simpa using cells_setS (j := 3) (u := .slice oa on oc) hpb
      have s0 : (w4.setCell ⟨wr.heap.size, 3, none⟩ (.slice oa on oc)).cell? ⟨wr.heap.size, 0, none⟩ = some (.int .i64 xk) := by simp [World.cell?, hpb2]
      have s1 : (w4.setCell ⟨wr.heap.size, 3, none⟩ (.slice oa on oc)).cell? ⟨wr.heap.size, 1, none⟩ = some (.int .i64 xu) := by simp [World.cell?, hpb2]
      have s2 : (w4.setCell ⟨wr.heap.size, 3, none⟩ (.slice oa on oc)).cell? ⟨wr.heap.size, 2, none⟩ = some (.int .i64 xy) := by simp [World.cell?, hpb2]
      have s3 : (w4.setCell ⟨wr.heap.size, 3, none⟩ (.slice oa on oc)).cell? ⟨wr.heap.size, 3, none⟩ = some (.slice oa on oc) := by simp [World.cell?, hpb2]
      have hK : KT 70 w4 (w4.setCell ⟨wr.heap.size, 3, none⟩ (.slice oa on oc)) := KT.set w4 _ _ _ (fun cs m e => by rw [hpb] at e; cases e)
      have hB4 : Below wr.heap.size wr w4 := ((Below.refl _ wr).alloc (Nat.le_refl _) _).trans (hb4.mono (by simp))
      have hB5 : Below wr.heap.size wr (w4.setCell ⟨wr.heap.size, 3, none⟩ (.slice oa on oc)) := hB4.setCell (p := ⟨wr.heap.size, 3, none⟩) (Nat.le_refl _) _
      have HLS : Hid (LS (w4.setCell ⟨wr.heap.size, 3, none⟩ (.slice oa on oc)) w.heap.size (.slice oa on oc) tvs[k] xtl) := by
        rw [HSV.out]
        exact (hLS.le (by have := g5.size; simp; omega)).kt hK
      obtain ⟨W5, hW5⟩ : ∃ W5, w4.setCell ⟨wr.heap.size, 3, none⟩ (.slice oa on oc) = W5 := ⟨_, rfl⟩
      rw [hW5] at hB5 HLS
      have HP : Hid (∀ ob, (W5.alloc ob).ownsRow w.heap.size 53 4 va k (fp es) ∧ w.heap.size ≤ (W5.alloc ob).heap.size ∧ Below w.heap.size w (W5.alloc ob) ∧ (∀ (j : Nat) (h1 : j < es.length) (h2 : j < tvs.length), LS (W5.alloc ob) w.heap.size es[j].2 tvs[j] es[j].1.tl) ∧ LS (W5.alloc ob) w.heap.size (.slice oa on oc) tvs[k] xtl) := fun ob => by
        have hb6 : Below wr.heap.size wr (W5.alloc ob) := hB5.alloc hB5.size ob
        exact ⟨ownsRow_below g3 hb6 (Nat.le_refl _), Nat.le_trans g5.size hb6.size, g5.trans (hb6.mono g5.size), fun j a b => (g4 j a b).below hb6 (Nat.le_refl _), HLS.out.below ((Below.refl _ W5).alloc (Nat.le_refl _) ob) (Nat.le_refl _)⟩
      have HV : Hid (va ≠ .slice none 0 0) := g2
      have HOl : Hid (es.length = k) := by
        have := congrArg List.length g1
        simp only [List.length_map, List.length_take] at this
        show _ = _
        omega
      have HE1 : Hid (es.map Prod.fst = ps.take k) := g1
      rw [hW5] at s0 s1 s2 s3
      have HW5 : Hid (w4.setCell ⟨wr.heap.size, 3, none⟩ (.slice oa on oc) = W5) := hW5
      clear hLS g1 g2 g3 g4 g5 hb4 HC HG hpb hpb2 hK hB4 hB5 HLS
      go_wp2_with (at_builtin; go_must (refine app_P rfl _ _ rfl w.heap.size _ k es HOl.out rfl (HP.out _).1 HV.out _ _ (⟨xk, xu, xy, xtl⟩, .slice oa on oc) rfl (cell_new rfl rfl) (cell_new rfl rfl) (cell_new rfl rfl) (cell_new rfl rfl) ⟨_, _, _, rfl⟩ (by omega) (HP.out _).2.1 ?_; intro gn cn w5 hcn hO5 hK5 hB5))
      go_roundw
      case rel =>
        refine ⟨_, k + 1, rfl, by simp, hlt, es ++ [(⟨xk, xu, xy, xtl⟩, .slice oa on oc)], ?_, (by intro e; cases e), hO5, fun j h1 h2 => ?_, (HP.out _).2.2.1.trans hB5⟩
        · rw [List.map_append, HE1.out, HPk.out]; rfl
        · by_cases hj : j < es.length
          · rw [List.getElem_append_left hj]
            exact ((HP.out _).2.2.2.1 j hj h2).kt hK5
          · have hj2 : j = k := by simp at h1; have := HOl.out; omega
            subst hj2
            have e2 : (es ++ [((⟨xk, xu, xy, xtl⟩ : Pc), Value.slice oa on oc)])[j]'h1 = (⟨xk, xu, xy, xtl⟩, .slice oa on oc) := by simp [← HOl.out]
            rw [e2]
            exact (HP.out _).2.2.2.2.kt hK5
      case measure => simp [intOf]; omega
    · have hge : ¬ (k : Int) < (n : Int) := by omega
      obtain rfl : k = n := by omega
      obtain ⟨es, g1, g2, g3, g4, g5⟩ := HG.out
      have HV : Hid (va ≠ .slice none 0 0) := g2
      rw [List.take_of_length_le (by rw [HN.out]; omega)] at g1
      have HE1 : Hid (es.map Prod.fst = ps) := g1
      have HOl : Hid (es.length = k) := by rw [← HN.out, ← g1]; simp [Hid]
      have HP : Hid (∀ ob, (wr.alloc ob).ownsRow w.heap.size 53 4 va k (fp es) ∧ w.heap.size ≤ (wr.alloc ob).heap.size ∧ Below w.heap.size w (wr.alloc ob) ∧ (∀ (j : Nat) (h1 : j < es.length) (h2 : j < tvs.length), LS (wr.alloc ob) w.heap.size es[j].2 tvs[j] es[j].1.tl)) := fun ob => by
        have hb : Below wr.heap.size wr (wr.alloc ob) := ((Grown.refl wr).alloc ob).below
        exact ⟨ownsRow_below g3 hb (Nat.le_refl _), Nat.le_trans g5.size hb.size, g5.trans (hb.mono g5.size), fun j a b => (g4 j a b).below hb (Nat.le_refl _)⟩
      clear g1 g2 g3 g4 g5 HG
      go_wp2_with (at_builtin; go_must (refine app_P rfl _ _ rfl w.heap.size _ k es HOl.out rfl (HP.out _).1 HV.out _ _ markP rfl (cell_new rfl rfl) (cell_new rfl rfl) (cell_new rfl rfl) (cell_new rfl rfl) ⟨_, _, _, rfl⟩ (by omega) (HP.out _).2.1 ?_; intro gn cn w5 hcn hO5 hK5 hB5; have hcnI : (k : Int) ≤ (cn : Int) := (by omega)))
      go_ret
      exact ⟨_, rfl, .inr ⟨⟨ad, c, by rw [HN.out]⟩, gn, cn, es, by rw [HN.out]; rfl, by rw [HN.out]; exact hcn, HE1.out, by rw [HN.out]; exact hO5, fun j h1 h2 => ((HP.out _).2.2.2 j h1 h2).kt hK5⟩, (HP.out _).2.2.1.trans hB5⟩
theorem lentPieces_any (v : Value) (tvs : List Value) (ps : List Pc) (w : World) (hr : PRv w v tvs ps) (hn : ps.length ≤ 1048576) (hs : ∀ p ∈ ps, p.tl.length ≤ 1048576) :
    Calls Tryd.prog 30 #[v] w fun e w' => ∃ ov, e = .returned ov ∧ LP w' w.heap.size ov v tvs ps ∧ Below w.heap.size w w' := by
  rcases hr.nil with rfl | ⟨ad, n, c, rfl⟩
  · obtain rfl : ps = [] := by
      obtain ⟨a, c, e, _⟩ := hr.cell
      injection e with _ e2 _
      exact List.eq_nil_of_length_eq_zero e2.symm
    refine (lentPieces_nil w).mono ?_
    rintro e w' ⟨rfl, rfl⟩
    exact ⟨_, rfl, .inl ⟨rfl, rfl, rfl⟩, Below.refl _ _⟩
  · obtain rfl : n = ps.length := by
      obtain ⟨a, c, e, _⟩ := hr.cell
      injection e with _ e2 _
    exact lentPieces_some ad c tvs ps w hr hn hs
set_option maxHeartbeats 2000000 in
theorem stillPieces_nil (w : World) : Calls Tryd.prog 36 #[.slice none 0 0, .slice none 0 0] w fun e w' => e = .returned (.bool true) ∧ Grown w w' := by
  have he := nil23
  go_enter Tryd.func36, Tryd.ntmps36
  go_wp2
  go_loopw [13] (fun vi wr => vi = .int .i64 0 ∧ wr = w) (fun _ _ => 0)
  case atStart => exact ⟨rfl, rfl⟩
  case round =>
    obtain ⟨rfl, rfl⟩ := hrel
    go_wp2
    go_ret
    exact ⟨rfl, Grown.refl _⟩
set_option maxHeartbeats 8000000 in
theorem stillPieces_some (g cap : Nat) (ad : Addr) (c base : Nat) (es : List (Pc × Value)) (tvs : List Value) (ps : List Pc) (w : World) (hr : PRv w (.slice (some ad) ps.length c) tvs ps) (hc : ps.length + 1 ≤ cap) (hes : es.map Prod.fst = ps)
    (ho : w.ownsRow base 53 4 (.slice (some ⟨g, 0, none⟩) (ps.length + 1) cap) (ps.length + 1) (fp (es ++ [markP]))) (hL : ∀ (j : Nat) (h1 : j < es.length) (h2 : j < tvs.length), LS w base es[j].2 tvs[j] es[j].1.tl) (hn : ps.length ≤ 1048576) (hs : ∀ p ∈ ps, p.tl.length ≤ 1048576) :
    Calls Tryd.prog 36 #[.slice (some ⟨g, 0, none⟩) ps.length cap, .slice (some ad) ps.length c] w fun e w' => e = .returned (.bool true) ∧ Grown w w' := by
  have he := some23
  obtain ⟨n, hnn⟩ : ∃ n, ps.length = n := ⟨_, rfl⟩
  have hel0 : es.length = n := by rw [← hnn, ← hes]; simp
  have HN : Hid (ps.length = n) := hnn
  have HR : Hid (PRv w (.slice (some ad) n c) tvs ps) := by rw [hnn] at hr; exact hr
  have HSm : Hid (∀ p ∈ ps, p.tl.length ≤ 1048576) := hs
  have HL : Hid (∀ (j : Nat) (h1 : j < es.length) (h2 : j < tvs.length), LS w base es[j].2 tvs[j] es[j].1.tl) := hL
  have HOc : Hid (∀ (j : Nat) (h1 : j < es.length), w.cell? ⟨g, j * 4, none⟩ = some (.int .i64 es[j].1.k) ∧ w.cell? ⟨g, j * 4 + 1, none⟩ = some (.int .i64 es[j].1.u) ∧ w.cell? ⟨g, j * 4 + 2, none⟩ = some (.int .i64 es[j].1.y) ∧ w.cell? ⟨g, j * 4 + 3, none⟩ = some es[j].2) := fun j h1 => lp_cells ho h1
  have HOl : Hid (es.length = n) := hel0
  have HEs : Hid (es.map Prod.fst = ps) := hes
  have HMk : Hid (w.cell? ⟨g, n * 4, none⟩ = some (.int .i64 (-9))) := by
    have := fp_at (es ++ [markP]) (j := n) (by simp; omega)
    have h9 : (es ++ [markP])[n]'(by simp; omega) = markP := by simp [← hel0]
    rw [h9] at this
    exact own_cell4 ho this.1
  rw [hnn] at hn hc ⊢
  have hnI : (n : Int) ≤ 1048576 := by omega
  have hcI : (n : Int) + 1 ≤ (cap : Int) := by omega
  have hm := mixed
  clear hr hnn hs hL ho hes hel0
  go_enter Tryd.func36, Tryd.ntmps36
  go_wp2
  go_loopw [13] (fun vi wr => ∃ k : Nat, vi = .int .i64 k ∧ k ≤ n ∧ Grown w wr) (fun vi _ => n - (intOf vi).toNat)
  case atStart => exact ⟨0, rfl, by omega, Grown.refl _⟩
  case round =>
    obtain ⟨k, rfl, hk, hG⟩ := hrel
    have hpos : (0 : Int) ≤ (k : Int) := by omega
    by_cases hlt : k < n
    · as_aux_lemma =>
        have hlt' : (k : Int) < (n : Int) := by omega
        have hkl : k < ps.length := by rw [HN.out]; exact hlt
        have hko : k < es.length := by rw [HOl.out]; exact hlt
        have hW := HR.out.grown hG
        have hks : k < tvs.length := by rw [hW.len]; exact hkl
        obtain ⟨a', c', e', _, hcl⟩ := hW.cell
        obtain ⟨gg, oo, ha', hcl2⟩ := hcl.resolve_left (fun e => by rw [e] at hkl; simp at hkl)
        injection e' with e1 e2 e3
        clear e2 e3
        rw [ha'] at e1
        injection e1 with e1
        subst e1
        obtain ⟨q0, q1, q2, q3⟩ := hcl2 k hks hkl
        obtain ⟨p0, p1, p2, p3⟩ := HOc.out k hko
        have hep : es[k].1 = ps[k] := by have := HEs.out; subst this; simp
        have hLk := (HL.out k hko hks).below hG.below (Nat.le_refl _)
        have hel := hW.el k hks hkl
        rw [hep] at p0 p1 p2 hLk
        have HC : Hid (∀ W, Grown wr W → Calls Tryd.prog 61 #[es[k].2, tvs[k]] W fun e w' => e = .returned (.bool true) ∧ Grown W w') := fun W hW2 => stillSet_any _ _ base ps[k].tl W (hLk.below hW2.below (Nat.le_refl _)) (hel.1.grown hW2) (HSm.out _ (List.getElem_mem hkl))
        obtain ⟨sa, sn, sc, hsv⟩ : IsSl tvs[k] := hel.1.sl
        obtain ⟨ta, tn, tc, hov⟩ : IsSl es[k].2 := hLk.sl
        rw [hsv] at q3 HC
        rw [hov] at p3 HC
        generalize ps[k].k = xk at *
        generalize ps[k].u = xu at *
        generalize ps[k].y = xy at *
        have f0 : ∀ m os, (Go.Sort.grow (wr.drewN m) os).cell? ⟨g, k * 4, none⟩ = some (.int .i64 xk) := fun m os => (hG.quiet m os).cellv p0
        have f1 : ∀ m os, (Go.Sort.grow (wr.drewN m) os).cell? ⟨g, k * 4 + 1, none⟩ = some (.int .i64 xu) := fun m os => (hG.quiet m os).cellv p1
        have f2 : ∀ m os, (Go.Sort.grow (wr.drewN m) os).cell? ⟨g, k * 4 + 2, none⟩ = some (.int .i64 xy) := fun m os => (hG.quiet m os).cellv p2
        have f3 : ∀ m os, (Go.Sort.grow (wr.drewN m) os).cell? ⟨g, k * 4 + 3, none⟩ = some (.slice ta tn tc) := fun m os => (hG.quiet m os).cellv p3
        have h0 : ∀ m os, (Go.Sort.grow (wr.drewN m) os).cell? ⟨gg, oo + k * 4, none⟩ = some (.int .i64 xk) := fun m os => ((Grown.refl _).quiet m os).cellv q0
        have h1 : ∀ m os, (Go.Sort.grow (wr.drewN m) os).cell? ⟨gg, oo + k * 4 + 1, none⟩ = some (.int .i64 xu) := fun m os => ((Grown.refl _).quiet m os).cellv q1
        have h2 : ∀ m os, (Go.Sort.grow (wr.drewN m) os).cell? ⟨gg, oo + k * 4 + 2, none⟩ = some (.int .i64 xy) := fun m os => ((Grown.refl _).quiet m os).cellv q2
        have h3 : ∀ m os, (Go.Sort.grow (wr.drewN m) os).cell? ⟨gg, oo + k * 4 + 3, none⟩ = some (.slice sa sn sc) := fun m os => ((Grown.refl _).quiet m os).cellv q3
        clear p0 p1 p2 p3 q0 q1 q2 q3 hcl hcl2 hel hsv hov hW hLk ha' hep
        go_wp2
        refine wp_region_quiet_grown hm (by kernel_rfl) ?_
        repeat (go_big_quiet_step ((go_at_call 61; exact grown_of (HC.out _ ((Grown.refl _).quiet _ _)))))
        refine wpQuiet_nil ?_
        intro _ hw'
        obtain ⟨⟨nq, osq⟩, hw''⟩ := hw'
        subst hw''
        go_wp2
        exact ⟨⟨k + 1, by go_num, by omega, hG.quiet _ _⟩, by simp [intOf]; omega⟩
    · as_aux_lemma =>
        have hge : ¬ (k : Int) < (n : Int) := by omega
        have m0 := hG.cellv HMk.out
        go_wp2
        go_ret
        exact ⟨rfl, hG⟩
theorem stillPieces_any (ov v : Value) (base : Nat) (tvs : List Value) (ps : List Pc) (w : World) (h : LP w base ov v tvs ps) (hr : PRv w v tvs ps) (hn : ps.length ≤ 1048576) (hs : ∀ p ∈ ps, p.tl.length ≤ 1048576) : Calls Tryd.prog 36 #[ov, v] w fun e w' => e = .returned (.bool true) ∧ Grown w w' := by
  rcases h with ⟨rfl, rfl, _⟩ | ⟨⟨ad, c, rfl⟩, g, cap, es, rfl, h3, h4, h5, h6⟩
  · exact stillPieces_nil w
  · exact stillPieces_some g cap ad c base es tvs ps w hr h3 h4 h5 h6 hn hs
end Go.Proofs
