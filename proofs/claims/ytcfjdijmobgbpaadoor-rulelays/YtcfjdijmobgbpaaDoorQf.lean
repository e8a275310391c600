/-
  A pass that was lent, and whether it is still.
-/
import Derived.RangeFuncNested
import Derived.RangeFuncBound
import Derived.RangeFuncCalls
import Derived.RangeFuncLeaves
import Derived.Shelf.Abstract
import Derived.Shelf.RegionOpen
import Derived.WalkKit
import Derived.WalkSpells
import Derived.WalkLawsBesides
import Derived.OwnWalkIn
import Derived.TacticsInMore
import Derived.LoopNIn
import Derived.LoopIn
import Derived.BigQuiet
import Derived.RegionIn
import Derived.Deep.QuietTactic
import Derived.Deep.RegionWith
import Derived.Lib.OthersKept
import Derived.Maps.AppendAt
import Derived.Lib.SmallJoins
import Derived.Shelf.SlSortCmp.QuietGrown
import Derived.Test.YtcfjdijmobgbpaaDoorQc
import Derived.Test.YtcfjdijmobgbpaaDoorTg
namespace Go.Proofs
open Go.RowKit Go.Shelf

set_option maxRecDepth 100000
attribute [local go_sem] Oper.semAt_some
attribute [local go_sem ↓] Go.wp_at_zero Go.wp_at_succ
/-- the seven cells of a rule -/
structure Rw where
  bg : Bool
  a : Value
  k : Value
  p : Value
  en : Bool
  r : Value
  cu : Int
def fr1 (e : Rw) : List Value := [.bool e.bg, e.a, e.k, e.p, .bool e.en, e.r, .int .i64 e.cu]
def fr (l : List Rw) : List Value := l.flatMap fr1
theorem fr_append (l k : List Rw) : fr (l ++ k) = fr l ++ fr k := by simp [fr]
theorem fr_at (l : List Rw) {j : Nat} (hj : j < l.length) (i : Nat) (hi : i < 7) : (fr l)[j * 7 + i]? = (fr1 l[j])[i]? := by
  induction l generalizing j with
  | nil => simp at hj
  | cons x l ih =>
    have hc : fr (x :: l) = fr1 x ++ fr l := rfl
    have h7 : (fr1 x).length = 7 := rfl
    rw [hc]
    cases j with
    | zero => rw [Nat.zero_mul, Nat.zero_add, List.getElem?_append_left (by omega)]; rfl
    | succ j =>
      rw [List.getElem?_append_right (by omega), h7, show (j + 1) * 7 + i - 7 = j * 7 + i by omega, ih (by simpa using hj)]
      rfl
def markR : Rw := ⟨false, .slice none 0 0, .slice none 0 0, .slice none 0 0, false, .slice none 0 0, -9⟩
/-- a rule with the values that it came in by -/
structure RV where
  r : Rl
  av : Value
  kv : Value
  pv : Value
  rv : Value
  sa : List Value
  sk : List Value
  sp : List Value
  tv : List Value
/-- a row of rules that came in, value by value -/
structure PsV (w : World) (v : Value) (xs : List RV) : Prop where
  nil : NilOk v
  el : ∀ (j : Nat) (h : j < xs.length), RRv w xs[j].av xs[j].kv xs[j].pv xs[j].rv xs[j].sa xs[j].sk xs[j].sp xs[j].tv xs[j].r
  cell : ∃ a cap, v = .slice a xs.length cap ∧ xs.length ≤ cap ∧ (xs = [] ∨ ∃ g o, a = some ⟨g, o, none⟩ ∧ ∀ (j : Nat) (h : j < xs.length), w.cell? ⟨g, o + j * 7, none⟩ = some (.bool xs[j].r.bg) ∧ w.cell? ⟨g, o + j * 7 + 1, none⟩ = some xs[j].av ∧ w.cell? ⟨g, o + j * 7 + 2, none⟩ = some xs[j].kv ∧ w.cell? ⟨g, o + j * 7 + 3, none⟩ = some xs[j].pv ∧ w.cell? ⟨g, o + j * 7 + 4, none⟩ = some (.bool xs[j].r.en) ∧ w.cell? ⟨g, o + j * 7 + 5, none⟩ = some xs[j].rv ∧ w.cell? ⟨g, o + j * 7 + 6, none⟩ = some (.int .i64 xs[j].r.cu))
theorem PsV.below {w w' : World} {n : Nat} {v : Value} {xs : List RV} (h : PsV w v xs) (hb : Below n w w') (hn : w.heap.size ≤ n) : PsV w' v xs := by
  obtain ⟨h1, h2, a, cap, h4, h5, h6⟩ := h
  refine ⟨h1, fun j a => (h2 j a).below hb hn, a, cap, h4, h5, h6.imp id ?_⟩
  rintro ⟨g, o, e, h⟩
  refine ⟨g, o, e, fun j hj => ?_⟩
  obtain ⟨k0, k1, k2, k3, k4, k5, k6⟩ := h j hj
  exact ⟨cell_below k0 hb hn, cell_below k1 hb hn, cell_below k2 hb hn, cell_below k3 hb hn, cell_below k4 hb hn, cell_below k5 hb hn, cell_below k6 hb hn⟩
theorem PsV.grown {w w' : World} {v : Value} {xs : List RV} (h : PsV w v xs) (k : Grown w w') : PsV w' v xs := h.below k.below (Nat.le_refl _)
theorem PsV.psr {w : World} {v : Value} {xs : List RV} (h : PsV w v xs) : PsR w v (xs.map RV.r) := by
  obtain ⟨_, h2, a, cap, rfl, h5, h6⟩ := h
  refine ⟨a, cap, by simp, by simpa using h5, ?_⟩
  rcases h6 with rfl | ⟨g, o, rfl, h6⟩
  · exact .inl rfl
  · refine .inr ⟨g, o, rfl, fun j hj => ?_⟩
    have hj' : j < xs.length := by simpa using hj
    obtain ⟨k0, k1, k2, k3, k4, k5, k6⟩ := h6 j hj'
    rw [List.getElem_map]
    exact ⟨_, _, _, _, k0, k1, k2, k3, k4, k5, k6, (h2 j hj').rr⟩
/-- a rule of a pass that was lent -/
structure LEl (W : World) (base : Nat) (e : Rw) (x : RV) : Prop where
  bg : e.bg = x.r.bg
  en : e.en = x.r.en
  cu : e.cu = x.r.cu
  l : LRl W base e.a e.k e.p e.r x.av x.kv x.pv x.rv x.sa x.sk x.sp x.tv x.r
/-- a pass that was lent -/
def LPs (W : World) (base : Nat) (ov v : Value) (xs : List RV) : Prop :=
  (v = .slice none 0 0 ∧ ov = .slice none 0 0 ∧ xs = []) ∨ ((∃ ad c, v = .slice (some ad) xs.length c) ∧ ∃ g cap es, ov = .slice (some ⟨g, 0, none⟩) xs.length cap ∧ xs.length + 1 ≤ cap ∧ es.length = xs.length ∧ W.ownsRow base 25 7 (.slice (some ⟨g, 0, none⟩) (xs.length + 1) cap) (xs.length + 1) (fr (es ++ [markR])) ∧ ∀ (j : Nat) (h1 : j < es.length) (h2 : j < xs.length), LEl W base es[j] xs[j])
theorem LPs.below {W W' : World} {base n : Nat} {ov v : Value} {xs : List RV} (h : LPs W base ov v xs) (hb : Below n W W') (hn : W.heap.size ≤ n) : LPs W' base ov v xs := by
  rcases h with h | ⟨h1, g, cap, es, h2, h3, h4, h5, h6⟩
  · exact .inl h
  · exact .inr ⟨h1, g, cap, es, h2, h3, h4, ownsRow_below h5 hb hn, fun j a b => ⟨(h6 j a b).bg, (h6 j a b).en, (h6 j a b).cu, (h6 j a b).l.below hb hn⟩⟩
theorem own_cell7 {W : World} {base : Nat} {e : TypeId} {n c g : Nat} {xs : List Value} (h : W.ownsRow base e 7 (.slice (some ⟨g, 0, none⟩) n c) n xs) {j : Nat} {u : Value} (hj : xs[j]? = some u) : W.cell? ⟨g, j, none⟩ = some u := by
  have := World.ownsRow.cells h rfl j u hj
  rwa [add_zero_at] at this
theorem lr_cells {W : World} {base g cap n : Nat} {es : List Rw} {x : Rw} (h : W.ownsRow base 25 7 (.slice (some ⟨g, 0, none⟩) n cap) n (fr (es ++ [x]))) {j : Nat} (hj : j < es.length) :
    W.cell? ⟨g, j * 7, none⟩ = some (.bool es[j].bg) ∧ W.cell? ⟨g, j * 7 + 1, none⟩ = some es[j].a ∧ W.cell? ⟨g, j * 7 + 2, none⟩ = some es[j].k ∧ W.cell? ⟨g, j * 7 + 3, none⟩ = some es[j].p ∧ W.cell? ⟨g, j * 7 + 4, none⟩ = some (.bool es[j].en) ∧ W.cell? ⟨g, j * 7 + 5, none⟩ = some es[j].r ∧ W.cell? ⟨g, j * 7 + 6, none⟩ = some (.int .i64 es[j].cu) := by
  have hh := fr_at (es ++ [x]) (j := j) (by simp; omega)
  rw [List.getElem_append_left hj] at hh
  exact ⟨own_cell7 h (hh 0 (by omega)), own_cell7 h (hh 1 (by omega)), own_cell7 h (hh 2 (by omega)), own_cell7 h (hh 3 (by omega)), own_cell7 h (hh 4 (by omega)), own_cell7 h (hh 5 (by omega)), own_cell7 h (hh 6 (by omega))⟩
theorem nil26 (W : World) : (binOp .eql 26 (.slice none 0 0) (.slice none 0 0)).run Tryd.prog W = .ok (.bool true) W := by kernel_rfl
theorem some26 (W : World) (a : Addr) (n c : Nat) : (binOp .eql 26 (.slice (some a) n c) (.slice none 0 0)).run Tryd.prog W = .ok (.bool false) W := by kernel_rfl
set_option maxHeartbeats 2000000 in
theorem stillPass_nil (w : World) : Calls Tryd.prog 17 #[.agg #[.slice none 0 0], .agg #[.slice none 0 0]] w fun e w' => e = .returned (.bool true) ∧ Grown w w' := by
  have he := nil26
  have hm := mixed
  go_enter Tryd.func17, Tryd.ntmps17
  go_wp2
  have hg := ((Grown.refl w).alloc (.cells #[.slice none 0 0] 28)).alloc (.cells #[.slice none 0 0] 28)
  have c0 : ((w.alloc (.cells #[.slice none 0 0] 28)).alloc (.cells #[.slice none 0 0] 28)).cell? ⟨w.heap.size, 0, none⟩ = some (.slice none 0 0) := by simp
  have c1 : ((w.alloc (.cells #[.slice none 0 0] 28)).alloc (.cells #[.slice none 0 0] 28)).cell? ⟨w.heap.size + 1, 0, none⟩ = some (.slice none 0 0) := by simp
  go_loopw [16] (fun vi wr => vi = .int .i64 0 ∧ Grown w wr ∧ wr.cell? ⟨w.heap.size, 0, none⟩ = some (.slice none 0 0) ∧ wr.cell? ⟨w.heap.size + 1, 0, none⟩ = some (.slice none 0 0)) (fun _ _ => 0)
  case atStart => exact ⟨rfl, hg, c0, c1⟩
  case round =>
    clear c0 c1 hg
    obtain ⟨rfl, hG, c0, c1⟩ := hrel
    have f0 : ∀ m os, (Go.Sort.grow (wr.drewN m) os).cell? ⟨w.heap.size, 0, none⟩ = some (.slice none 0 0) := fun m os => ((Grown.refl _).quiet m os).cellv c0
    have f1 : ∀ m os, (Go.Sort.grow (wr.drewN m) os).cell? ⟨w.heap.size + 1, 0, none⟩ = some (.slice none 0 0) := fun m os => ((Grown.refl _).quiet m os).cellv c1
    go_wp2
    refine wp_region_quiet_grown hm (by kernel_rfl) ?_
    repeat (go_big_quiet_step (fail))
    refine wpQuiet_nil ?_
    intro _ hw'
    obtain ⟨⟨nq, osq⟩, hw''⟩ := hw'
    subst hw''
    go_wp2
    go_ret
    exact ⟨rfl, hG.quiet _ _⟩
set_option maxHeartbeats 8000000 in
theorem stillPass_some (g cap : Nat) (ad : Addr) (c base : Nat) (es : List Rw) (xs : List RV) (w : World) (hr : PsV w (.slice (some ad) xs.length c) xs) (hc : xs.length + 1 ≤ cap) (hes : es.length = xs.length)
    (ho : w.ownsRow base 25 7 (.slice (some ⟨g, 0, none⟩) (xs.length + 1) cap) (xs.length + 1) (fr (es ++ [markR]))) (hL : ∀ (j : Nat) (h1 : j < es.length) (h2 : j < xs.length), LEl w base es[j] xs[j]) (hn : xs.length ≤ 1048576) (hs : ∀ x ∈ xs, Sm x.r) :
    Calls Tryd.prog 17 #[.agg #[.slice (some ⟨g, 0, none⟩) xs.length cap], .agg #[.slice (some ad) xs.length c]] w fun e w' => e = .returned (.bool true) ∧ Grown w w' := by
  have he := some26
  obtain ⟨n, hnn⟩ : ∃ n, xs.length = n := ⟨_, rfl⟩
  have hel0 : es.length = n := by rw [← hnn, ← hes]
  have HN : Hid (xs.length = n) := hnn
  have HR : Hid (PsV w (.slice (some ad) n c) xs) := by rw [hnn] at hr; exact hr
  have HSm : Hid (∀ x ∈ xs, Sm x.r) := hs
  have HL : Hid (∀ (j : Nat) (h1 : j < es.length) (h2 : j < xs.length), LEl w base es[j] xs[j]) := hL
  have HOc : Hid (∀ (j : Nat) (h1 : j < es.length), w.cell? ⟨g, j * 7, none⟩ = some (.bool es[j].bg) ∧ w.cell? ⟨g, j * 7 + 1, none⟩ = some es[j].a ∧ w.cell? ⟨g, j * 7 + 2, none⟩ = some es[j].k ∧ w.cell? ⟨g, j * 7 + 3, none⟩ = some es[j].p ∧ w.cell? ⟨g, j * 7 + 4, none⟩ = some (.bool es[j].en) ∧ w.cell? ⟨g, j * 7 + 5, none⟩ = some es[j].r ∧ w.cell? ⟨g, j * 7 + 6, none⟩ = some (.int .i64 es[j].cu)) := fun j h1 => lr_cells ho h1
  have HOl : Hid (es.length = n) := hel0
  have HMk : Hid (w.cell? ⟨g, n * 7 + 6, none⟩ = some (.int .i64 (-9))) := by
    have := fr_at (es ++ [markR]) (j := n) (by simp; omega) 6 (by omega)
    have h9 : (es ++ [markR])[n]'(by simp; omega) = markR := by simp [← hel0]
    rw [h9] at this
    exact own_cell7 ho this
  rw [hnn] at hn hc ⊢
  have hnI : (n : Int) ≤ 1048576 := by omega
  have hcI : (n : Int) + 1 ≤ (cap : Int) := by omega
  have hm := mixed
  have hg := ((Grown.refl w).alloc (.cells #[.slice (some ⟨g, 0, none⟩) n cap] 28)).alloc (.cells #[.slice (some ad) n c] 28)
  have c0 : ((w.alloc (.cells #[.slice (some ⟨g, 0, none⟩) n cap] 28)).alloc (.cells #[.slice (some ad) n c] 28)).cell? ⟨w.heap.size, 0, none⟩ = some (.slice (some ⟨g, 0, none⟩) n cap) := by simp
  have c1 : ((w.alloc (.cells #[.slice (some ⟨g, 0, none⟩) n cap] 28)).alloc (.cells #[.slice (some ad) n c] 28)).cell? ⟨w.heap.size + 1, 0, none⟩ = some (.slice (some ad) n c) := by simp
  have HS : Hid (Grown w ((w.alloc (.cells #[.slice (some ⟨g, 0, none⟩) n cap] 28)).alloc (.cells #[.slice (some ad) n c] 28)) ∧ ((w.alloc (.cells #[.slice (some ⟨g, 0, none⟩) n cap] 28)).alloc (.cells #[.slice (some ad) n c] 28)).cell? ⟨w.heap.size, 0, none⟩ = some (.slice (some ⟨g, 0, none⟩) n cap) ∧ ((w.alloc (.cells #[.slice (some ⟨g, 0, none⟩) n cap] 28)).alloc (.cells #[.slice (some ad) n c] 28)).cell? ⟨w.heap.size + 1, 0, none⟩ = some (.slice (some ad) n c)) := ⟨hg, c0, c1⟩
  clear hr hnn hs hL ho hes hel0 hg c0 c1
  go_enter Tryd.func17, Tryd.ntmps17
  go_wp2
  go_loopw [16] (fun vi wr => ∃ k : Nat, vi = .int .i64 k ∧ k ≤ n ∧ Grown w wr ∧ wr.cell? ⟨w.heap.size, 0, none⟩ = some (.slice (some ⟨g, 0, none⟩) n cap) ∧ wr.cell? ⟨w.heap.size + 1, 0, none⟩ = some (.slice (some ad) n c)) (fun vi _ => n - (intOf vi).toNat)
  case atStart => exact ⟨0, rfl, by omega, HS.out⟩
  case round =>
    obtain ⟨k, rfl, hk, hG, c0, c1⟩ := hrel
    clear HS
    have hpos : (0 : Int) ≤ (k : Int) := by omega
    have z0 : ∀ m os, (Go.Sort.grow (wr.drewN m) os).cell? ⟨w.heap.size, 0, none⟩ = some (.slice (some ⟨g, 0, none⟩) n cap) := fun m os => ((Grown.refl _).quiet m os).cellv c0
    have z1 : ∀ m os, (Go.Sort.grow (wr.drewN m) os).cell? ⟨w.heap.size + 1, 0, none⟩ = some (.slice (some ad) n c) := fun m os => ((Grown.refl _).quiet m os).cellv c1
    have HQ : Hid (∀ m os, Grown w (Go.Sort.grow (wr.drewN m) os) ∧ (Go.Sort.grow (wr.drewN m) os).cell? ⟨w.heap.size, 0, none⟩ = some (.slice (some ⟨g, 0, none⟩) n cap) ∧ (Go.Sort.grow (wr.drewN m) os).cell? ⟨w.heap.size + 1, 0, none⟩ = some (.slice (some ad) n c)) := fun m os => ⟨hG.quiet m os, z0 m os, z1 m os⟩
    by_cases hlt : k < n
    · as_aux_lemma =>
        have hlt' : (k : Int) < (n : Int) := by omega
        have hkl : k < xs.length := by rw [HN.out]; exact hlt
        have hko : k < es.length := by rw [HOl.out]; exact hlt
        have hW := HR.out.grown hG
        obtain ⟨a', c', e', _, hcl⟩ := hW.cell
        obtain ⟨gg, oo, ha', hcl2⟩ := hcl.resolve_left (fun e => by rw [e] at hkl; simp at hkl)
        injection e' with e1 e2 e3
        clear e2 e3
        rw [ha'] at e1
        injection e1 with e1
        subst e1
        obtain ⟨q0, q1, q2, q3, q4, q5, q6⟩ := hcl2 k hkl
        obtain ⟨p0, p1, p2, p3, p4, p5, p6⟩ := HOc.out k hko
        have hLk := HL.out k hko hkl
        have hel := hW.el k hkl
        rw [hLk.bg] at p0
        rw [hLk.en] at p4
        rw [hLk.cu] at p6
        have hLl := hLk.l.grown hG
        have HC : Hid (∀ W, Grown wr W → Calls Tryd.prog 16 #[.agg #[.bool xs[k].r.bg, es[k].a, es[k].k, es[k].p, .bool xs[k].r.en, es[k].r, .int .i64 xs[k].r.cu], .agg #[.bool xs[k].r.bg, xs[k].av, xs[k].kv, xs[k].pv, .bool xs[k].r.en, xs[k].rv, .int .i64 xs[k].r.cu]] W fun e w' => e = .returned (.bool true) ∧ Grown W w') := fun W hW2 => stillRule_any xs[k].r base _ _ _ _ _ _ _ _ _ _ _ _ W (hLl.grown hW2) (hel.grown hW2) (HSm.out _ (List.getElem_mem hkl))
        obtain ⟨sa1, sa2, sa3, g1⟩ := hLl.a.sl
        obtain ⟨sk1, sk2, sk3, g2⟩ := hLl.k.sl
        obtain ⟨sp1, sp2, sp3, g3⟩ := hLl.p.sl
        obtain ⟨sr1, sr2, sr3, g5⟩ := hLl.r.sl
        obtain ⟨ta1, ta2, ta3, t1⟩ := hel.rr.a.sl
        obtain ⟨tk1, tk2, tk3, t2⟩ := hel.rr.k.sl
        obtain ⟨tp1, tp2, tp3, t3⟩ := hel.rr.p.sl
        obtain ⟨tr1, tr2, tr3, t5⟩ := hel.rr.r.sl
        rw [g1] at p1 HC
        rw [g2] at p2 HC
        rw [g3] at p3 HC
        rw [g5] at p5 HC
        rw [t1] at q1 HC
        rw [t2] at q2 HC
        rw [t3] at q3 HC
        rw [t5] at q5 HC
        clear g1 g2 g3 g5 t1 t2 t3 t5 hLk hel hLl hcl hcl2 hW ha'
        generalize xs[k].r.bg = xb at p0 q0 HC
        generalize xs[k].r.en = xe at p4 q4 HC
        generalize xs[k].r.cu = xc at p6 q6 HC
        have f0 := fun m os => (hG.quiet m os).cellv p0
        have f1 := fun m os => (hG.quiet m os).cellv p1
        have f2 := fun m os => (hG.quiet m os).cellv p2
        have f3 := fun m os => (hG.quiet m os).cellv p3
        have f4 := fun m os => (hG.quiet m os).cellv p4
        have f5 := fun m os => (hG.quiet m os).cellv p5
        have f6 := fun m os => (hG.quiet m os).cellv p6
        have h0 := fun m os => ((Grown.refl wr).quiet m os).cellv q0
        have h1 := fun m os => ((Grown.refl wr).quiet m os).cellv q1
        have h2 := fun m os => ((Grown.refl wr).quiet m os).cellv q2
        have h3 := fun m os => ((Grown.refl wr).quiet m os).cellv q3
        have h4 := fun m os => ((Grown.refl wr).quiet m os).cellv q4
        have h5 := fun m os => ((Grown.refl wr).quiet m os).cellv q5
        have h6 := fun m os => ((Grown.refl wr).quiet m os).cellv q6
        clear p0 p1 p2 p3 p4 p5 p6 q0 q1 q2 q3 q4 q5 q6
        go_wp2
        refine wp_region_quiet_grown hm (by kernel_rfl) ?_
        repeat (go_big_quiet_step ((go_at_call 16; exact grown_of (HC.out _ ((Grown.refl _).quiet _ _)))))
        refine wpQuiet_nil ?_
        intro _ hw'
        obtain ⟨⟨nq, osq⟩, hw''⟩ := hw'
        subst hw''
        go_wp2
        exact ⟨⟨k + 1, by go_num, by omega, HQ.out _ _⟩, by simp [intOf]; omega⟩
    · as_aux_lemma =>
        have hge : ¬ (k : Int) < (n : Int) := by omega
        have m0 := fun m os => (hG.quiet m os).cellv HMk.out
        go_wp2
        refine wp_region_quiet_grown hm (by kernel_rfl) ?_
        repeat (go_big_quiet_step (fail))
        refine wpQuiet_nil ?_
        intro _ hw'
        obtain ⟨⟨nq, osq⟩, hw''⟩ := hw'
        subst hw''
        go_wp2
        go_ret
        exact ⟨rfl, (HQ.out _ _).1⟩
theorem stillPass_any (ov v : Value) (base : Nat) (xs : List RV) (w : World) (h : LPs w base ov v xs) (hr : PsV w v xs) (hn : xs.length ≤ 1048576) (hs : ∀ x ∈ xs, Sm x.r) : Calls Tryd.prog 17 #[.agg #[ov], .agg #[v]] w fun e w' => e = .returned (.bool true) ∧ Grown w w' := by
  rcases h with ⟨rfl, rfl, _⟩ | ⟨⟨ad, c, rfl⟩, g, cap, es, rfl, h3, h4, h5, h6⟩
  · exact stillPass_nil w
  · exact stillPass_some g cap ad c base es xs w hr h3 h4 h5 h6 hn hs
end Go.Proofs
