/-
  A pass is lent, and told to be as it was.
-/
import Derived.RangeFuncNested
import Derived.RangeFuncBound
import Derived.RangeFuncCalls
import Derived.RangeFuncLeaves
import Derived.Shelf.Abstract
import Derived.Shelf.RegionOpen
import Derived.WalkKit
import Derived.WalkSpells
import Derived.WalkLawsBesides
import Derived.OwnWalkIn
import Derived.TacticsInMore
import Derived.LoopNIn
import Derived.LoopIn
import Derived.BigQuiet
import Derived.RegionIn
import Derived.Deep.QuietTactic
import Derived.Deep.RegionWith
import Derived.Lib.OthersKept
import Derived.Maps.AppendAt
import Derived.Lib.SmallJoins
import Derived.Shelf.SlSortCmp.QuietGrown
import Derived.Test.YtpppcfppabghhaaDoorQc
import Derived.Test.YtpppcfppabghhaaDoorTx
import Derived.Deep.AppendLies
import Derived.Test.YtpppcfppabghhaaDoorGi
import Derived.Test.YtpppcfppabghhaaDoorT0
import Derived.Test.YtpppcfppabghhaaDoorGg
namespace Go.Proofs
open Go.RowKit Go.Shelf

set_option maxRecDepth 100000
attribute [local go_sem] Oper.semAt_some
attribute [local go_sem ↓] Go.wp_at_zero Go.wp_at_succ
/-- the seven cells of a rule -/
structure Rw where
  bg : Bool
  a : Value
  k : Value
  p : Value
  en : Bool
  r : Value
  cu : Int
def fr1 (e : Rw) : List Value := [.bool e.bg, e.a, e.k, e.p, .bool e.en, e.r, .int .i64 e.cu]
def fr (l : List Rw) : List Value := l.flatMap fr1
theorem fr_append (l k : List Rw) : fr (l ++ k) = fr l ++ fr k := by simp [fr]
theorem fr_at (l : List Rw) {j : Nat} (hj : j < l.length) (i : Nat) (hi : i < 7) : (fr l)[j * 7 + i]? = (fr1 l[j])[i]? := by
  induction l generalizing j with
  | nil => simp at hj
  | cons x l ih =>
    have hc : fr (x :: l) = fr1 x ++ fr l := rfl
    have h7 : (fr1 x).length = 7 := rfl
    rw [hc]
    cases j with
    | zero => rw [Nat.zero_mul, Nat.zero_add, List.getElem?_append_left (by omega)]; rfl
    | succ j =>
      rw [List.getElem?_append_right (by omega), h7, show (j + 1) * 7 + i - 7 = j * 7 + i by omega, ih (by simpa using hj)]
      rfl
def markR : Rw := ⟨false, .slice none 0 0, .slice none 0 0, .slice none 0 0, false, .slice none 0 0, -9⟩
/-- a rule with the values that it came in by -/
structure RV where
  r : Rl
  av : Value
  kv : Value
  pv : Value
  rv : Value
  sa : List Value
  sk : List Value
  sp : List Value
  tv : List Value
/-- a row of rules that came in, value by value -/
structure PsV (w : World) (v : Value) (xs : List RV) : Prop where
  nil : NilOk v
  el : ∀ (j : Nat) (h : j < xs.length), RRv w xs[j].av xs[j].kv xs[j].pv xs[j].rv xs[j].sa xs[j].sk xs[j].sp xs[j].tv xs[j].r
  cell : ∃ a cap, v = .slice a xs.length cap ∧ xs.length ≤ cap ∧ (xs = [] ∨ ∃ g o, a = some ⟨g, o, none⟩ ∧ ∀ (j : Nat) (h : j < xs.length), w.cell? ⟨g, o + j * 7, none⟩ = some (.bool xs[j].r.bg) ∧ w.cell? ⟨g, o + j * 7 + 1, none⟩ = some xs[j].av ∧ w.cell? ⟨g, o + j * 7 + 2, none⟩ = some xs[j].kv ∧ w.cell? ⟨g, o + j * 7 + 3, none⟩ = some xs[j].pv ∧ w.cell? ⟨g, o + j * 7 + 4, none⟩ = some (.bool xs[j].r.en) ∧ w.cell? ⟨g, o + j * 7 + 5, none⟩ = some xs[j].rv ∧ w.cell? ⟨g, o + j * 7 + 6, none⟩ = some (.int .i64 xs[j].r.cu))
theorem PsV.below {w w' : World} {n : Nat} {v : Value} {xs : List RV} (h : PsV w v xs) (hb : Below n w w') (hn : w.heap.size ≤ n) : PsV w' v xs := by
  obtain ⟨h1, h2, a, cap, h4, h5, h6⟩ := h
  refine ⟨h1, fun j a => (h2 j a).below hb hn, a, cap, h4, h5, h6.imp id ?_⟩
  rintro ⟨g, o, e, h⟩
  refine ⟨g, o, e, fun j hj => ?_⟩
  obtain ⟨k0, k1, k2, k3, k4, k5, k6⟩ := h j hj
  exact ⟨cell_below k0 hb hn, cell_below k1 hb hn, cell_below k2 hb hn, cell_below k3 hb hn, cell_below k4 hb hn, cell_below k5 hb hn, cell_below k6 hb hn⟩
theorem PsV.grown {w w' : World} {v : Value} {xs : List RV} (h : PsV w v xs) (k : Grown w w') : PsV w' v xs := h.below k.below (Nat.le_refl _)
theorem PsV.psr {w : World} {v : Value} {xs : List RV} (h : PsV w v xs) : PsR w v (xs.map RV.r) := by
  obtain ⟨_, h2, a, cap, rfl, h5, h6⟩ := h
  refine ⟨a, cap, by simp, by simpa using h5, ?_⟩
  rcases h6 with rfl | ⟨g, o, rfl, h6⟩
  · exact .inl rfl
  · refine .inr ⟨g, o, rfl, fun j hj => ?_⟩
    have hj' : j < xs.length := by simpa using hj
    obtain ⟨k0, k1, k2, k3, k4, k5, k6⟩ := h6 j hj'
    rw [List.getElem_map]
    exact ⟨_, _, _, _, k0, k1, k2, k3, k4, k5, k6, (h2 j hj').rr⟩
/-- a rule of a pass that was lent -/
structure LEl (W : World) (base : Nat) (e : Rw) (x : RV) : Prop where
  bg : e.bg = x.r.bg
  en : e.en = x.r.en
  cu : e.cu = x.r.cu
  l : LRl W base e.a e.k e.p e.r x.av x.kv x.pv x.rv x.sa x.sk x.sp x.tv x.r
/-- a pass that was lent -/
def LPs (W : World) (base : Nat) (ov v : Value) (xs : List RV) : Prop :=
  (v = .slice none 0 0 ∧ ov = .slice none 0 0 ∧ xs = []) ∨ ((∃ ad c, v = .slice (some ad) xs.length c) ∧ ∃ g cap es, ov = .slice (some ⟨g, 0, none⟩) xs.length cap ∧ xs.length + 1 ≤ cap ∧ es.length = xs.length ∧ W.ownsRow base 28 7 (.slice (some ⟨g, 0, none⟩) (xs.length + 1) cap) (xs.length + 1) (fr (es ++ [markR])) ∧ ∀ (j : Nat) (h1 : j < es.length) (h2 : j < xs.length), LEl W base es[j] xs[j])
theorem LPs.below {W W' : World} {base n : Nat} {ov v : Value} {xs : List RV} (h : LPs W base ov v xs) (hb : Below n W W') (hn : W.heap.size ≤ n) : LPs W' base ov v xs := by
  rcases h with h | ⟨h1, g, cap, es, h2, h3, h4, h5, h6⟩
  · exact .inl h
  · exact .inr ⟨h1, g, cap, es, h2, h3, h4, ownsRow_below h5 hb hn, fun j a b => ⟨(h6 j a b).bg, (h6 j a b).en, (h6 j a b).cu, (h6 j a b).l.below hb hn⟩⟩
theorem own_cell7 {W : World} {base : Nat} {e : TypeId} {n c g : Nat} {xs : List Value} (h : W.ownsRow base e 7 (.slice (some ⟨g, 0, none⟩) n c) n xs) {j : Nat} {u : Value} (hj : xs[j]? = some u) : W.cell? ⟨g, j, none⟩ = some u := by
  have := World.ownsRow.cells h rfl j u hj
  rwa [add_zero_at] at this
theorem lr_cells {W : World} {base g cap n : Nat} {es : List Rw} {x : Rw} (h : W.ownsRow base 28 7 (.slice (some ⟨g, 0, none⟩) n cap) n (fr (es ++ [x]))) {j : Nat} (hj : j < es.length) :
    W.cell? ⟨g, j * 7, none⟩ = some (.bool es[j].bg) ∧ W.cell? ⟨g, j * 7 + 1, none⟩ = some es[j].a ∧ W.cell? ⟨g, j * 7 + 2, none⟩ = some es[j].k ∧ W.cell? ⟨g, j * 7 + 3, none⟩ = some es[j].p ∧ W.cell? ⟨g, j * 7 + 4, none⟩ = some (.bool es[j].en) ∧ W.cell? ⟨g, j * 7 + 5, none⟩ = some es[j].r ∧ W.cell? ⟨g, j * 7 + 6, none⟩ = some (.int .i64 es[j].cu) := by
  have hh := fr_at (es ++ [x]) (j := j) (by simp; omega)
  rw [List.getElem_append_left hj] at hh
  exact ⟨own_cell7 h (hh 0 (by omega)), own_cell7 h (hh 1 (by omega)), own_cell7 h (hh 2 (by omega)), own_cell7 h (hh 3 (by omega)), own_cell7 h (hh 4 (by omega)), own_cell7 h (hh 5 (by omega)), own_cell7 h (hh 6 (by omega))⟩
theorem nil26 (W : World) : (binOp .eql 22 (.slice none 0 0) (.slice none 0 0)).run Tryd.prog W = .ok (.bool true) W := by kernel_rfl
theorem some26 (W : World) (a : Addr) (n c : Nat) : (binOp .eql 22 (.slice (some a) n c) (.slice none 0 0)).run Tryd.prog W = .ok (.bool false) W := by kernel_rfl
set_option maxHeartbeats 2000000 in
theorem stillPass_nil (w : World) : Calls Tryd.prog 15 #[.agg #[.slice none 0 0], .agg #[.slice none 0 0]] w fun e w' => e = .returned (.bool true) ∧ Grown w w' := by
  have he := nil26
  have hm := mixed
  go_enter Tryd.func15, Tryd.ntmps15
  go_wp2
  have hg := ((Grown.refl w).alloc (.cells #[.slice none 0 0] 24)).alloc (.cells #[.slice none 0 0] 24)
  have c0 : ((w.alloc (.cells #[.slice none 0 0] 24)).alloc (.cells #[.slice none 0 0] 24)).cell? ⟨w.heap.size, 0, none⟩ = some (.slice none 0 0) := by simp
  have c1 : ((w.alloc (.cells #[.slice none 0 0] 24)).alloc (.cells #[.slice none 0 0] 24)).cell? ⟨w.heap.size + 1, 0, none⟩ = some (.slice none 0 0) := by simp
  go_loopw [16] (fun vi wr => vi = .int .i64 0 ∧ Grown w wr ∧ wr.cell? ⟨w.heap.size, 0, none⟩ = some (.slice none 0 0) ∧ wr.cell? ⟨w.heap.size + 1, 0, none⟩ = some (.slice none 0 0)) (fun _ _ => 0)
  case atStart => exact ⟨rfl, hg, c0, c1⟩
  case round =>
    clear c0 c1 hg
    obtain ⟨rfl, hG, c0, c1⟩ := hrel
    have f0 : ∀ m os, (Go.Sort.grow (wr.drewN m) os).cell? ⟨w.heap.size, 0, none⟩ = some (.slice none 0 0) := fun m os => ((Grown.refl _).quiet m os).cellv c0
    have f1 : ∀ m os, (Go.Sort.grow (wr.drewN m) os).cell? ⟨w.heap.size + 1, 0, none⟩ = some (.slice none 0 0) := fun m os => ((Grown.refl _).quiet m os).cellv c1
    go_wp2
    refine wp_region_quiet_grown hm (by kernel_rfl) ?_
    repeat (go_big_quiet_step (fail))
    refine wpQuiet_nil ?_
    intro _ hw'
    obtain ⟨⟨nq, osq⟩, hw''⟩ := hw'
    subst hw''
    go_wp2
    go_ret
    exact ⟨rfl, hG.quiet _ _⟩
set_option maxHeartbeats 8000000 in
theorem stillPass_some (g cap : Nat) (ad : Addr) (c base : Nat) (es : List Rw) (xs : List RV) (w : World) (hr : PsV w (.slice (some ad) xs.length c) xs) (hc : xs.length + 1 ≤ cap) (hes : es.length = xs.length)
    (ho : w.ownsRow base 28 7 (.slice (some ⟨g, 0, none⟩) (xs.length + 1) cap) (xs.length + 1) (fr (es ++ [markR]))) (hL : ∀ (j : Nat) (h1 : j < es.length) (h2 : j < xs.length), LEl w base es[j] xs[j]) (hn : xs.length ≤ 1048576) (hs : ∀ x ∈ xs, Sm x.r) :
    Calls Tryd.prog 15 #[.agg #[.slice (some ⟨g, 0, none⟩) xs.length cap], .agg #[.slice (some ad) xs.length c]] w fun e w' => e = .returned (.bool true) ∧ Grown w w' := by
  have he := some26
  obtain ⟨n, hnn⟩ : ∃ n, xs.length = n := ⟨_, rfl⟩
  have hel0 : es.length = n := by rw [← hnn, ← hes]
  have HN : Hid (xs.length = n) := hnn
  have HR : Hid (PsV w (.slice (some ad) n c) xs) := by rw [hnn] at hr; exact hr
  have HSm : Hid (∀ x ∈ xs, Sm x.r) := hs
  have HL : Hid (∀ (j : Nat) (h1 : j < es.length) (h2 : j < xs.length), LEl w base es[j] xs[j]) := hL
  have HOc : Hid (∀ (j : Nat) (h1 : j < es.length), w.cell? ⟨g, j * 7, none⟩ = some (.bool es[j].bg) ∧ w.cell? ⟨g, j * 7 + 1, none⟩ = some es[j].a ∧ w.cell? ⟨g, j * 7 + 2, none⟩ = some es[j].k ∧ w.cell? ⟨g, j * 7 + 3, none⟩ = some es[j].p ∧ w.cell? ⟨g, j * 7 + 4, none⟩ = some (.bool es[j].en) ∧ w.cell? ⟨g, j * 7 + 5, none⟩ = some es[j].r ∧ w.cell? ⟨g, j * 7 + 6, none⟩ = some (.int .i64 es[j].cu)) := fun j h1 => lr_cells ho h1
  have HOl : Hid (es.length = n) := hel0
  have HMk : Hid (w.cell? ⟨g, n * 7 + 6, none⟩ = some (.int .i64 (-9))) := by
    have := fr_at (es ++ [markR]) (j := n) (by simp; omega) 6 (by omega)
    have h9 : (es ++ [markR])[n]'(by simp; omega) = markR := by simp [← hel0]
    rw [h9] at this
    exact own_cell7 ho this
  rw [hnn] at hn hc ⊢
  have hnI : (n : Int) ≤ 1048576 := by omega
  have hcI : (n : Int) + 1 ≤ (cap : Int) := by omega
  have hm := mixed
  have hg := ((Grown.refl w).alloc (.cells #[.slice (some ⟨g, 0, none⟩) n cap] 24)).alloc (.cells #[.slice (some ad) n c] 24)
  have c0 : ((w.alloc (.cells #[.slice (some ⟨g, 0, none⟩) n cap] 24)).alloc (.cells #[.slice (some ad) n c] 24)).cell? ⟨w.heap.size, 0, none⟩ = some (.slice (some ⟨g, 0, none⟩) n cap) := by simp
  have c1 : ((w.alloc (.cells #[.slice (some ⟨g, 0, none⟩) n cap] 24)).alloc (.cells #[.slice (some ad) n c] 24)).cell? ⟨w.heap.size + 1, 0, none⟩ = some (.slice (some ad) n c) := by simp
  have HS : Hid (Grown w ((w.alloc (.cells #[.slice (some ⟨g, 0, none⟩) n cap] 24)).alloc (.cells #[.slice (some ad) n c] 24)) ∧ ((w.alloc (.cells #[.slice (some ⟨g, 0, none⟩) n cap] 24)).alloc (.cells #[.slice (some ad) n c] 24)).cell? ⟨w.heap.size, 0, none⟩ = some (.slice (some ⟨g, 0, none⟩) n cap) ∧ ((w.alloc (.cells #[.slice (some ⟨g, 0, none⟩) n cap] 24)).alloc (.cells #[.slice (some ad) n c] 24)).cell? ⟨w.heap.size + 1, 0, none⟩ = some (.slice (some ad) n c)) := ⟨hg, c0, c1⟩
  clear hr hnn hs hL ho hes hel0 hg c0 c1
  go_enter Tryd.func15, Tryd.ntmps15
  go_wp2
  go_loopw [16] (fun vi wr => ∃ k : Nat, vi = .int .i64 k ∧ k ≤ n ∧ Grown w wr ∧ wr.cell? ⟨w.heap.size, 0, none⟩ = some (.slice (some ⟨g, 0, none⟩) n cap) ∧ wr.cell? ⟨w.heap.size + 1, 0, none⟩ = some (.slice (some ad) n c)) (fun vi _ => n - (intOf vi).toNat)
  case atStart => exact ⟨0, rfl, by omega, HS.out⟩
  case round =>
    obtain ⟨k, rfl, hk, hG, c0, c1⟩ := hrel
    clear HS
    have hpos : (0 : Int) ≤ (k : Int) := by omega
    have z0 : ∀ m os, (Go.Sort.grow (wr.drewN m) os).cell? ⟨w.heap.size, 0, none⟩ = some (.slice (some ⟨g, 0, none⟩) n cap) := fun m os => ((Grown.refl _).quiet m os).cellv c0
    have z1 : ∀ m os, (Go.Sort.grow (wr.drewN m) os).cell? ⟨w.heap.size + 1, 0, none⟩ = some (.slice (some ad) n c) := fun m os => ((Grown.refl _).quiet m os).cellv c1
    have HQ : Hid (∀ m os, Grown w (Go.Sort.grow (wr.drewN m) os) ∧ (Go.Sort.grow (wr.drewN m) os).cell? ⟨w.heap.size, 0, none⟩ = some (.slice (some ⟨g, 0, none⟩) n cap) ∧ (Go.Sort.grow (wr.drewN m) os).cell? ⟨w.heap.size + 1, 0, none⟩ = some (.slice (some ad) n c)) := fun m os => ⟨hG.quiet m os, z0 m os, z1 m os⟩
    by_cases hlt : k < n
    · as_aux_lemma =>
        have hlt' : (k : Int) < (n : Int) := by omega
        have hkl : k < xs.length := by rw [HN.out]; exact hlt
        have hko : k < es.length := by rw [HOl.out]; exact hlt
        have hW := HR.out.grown hG
        obtain ⟨a', c', e', _, hcl⟩ := hW.cell
        obtain ⟨gg, oo, ha', hcl2⟩ := hcl.resolve_left (fun e => by rw [e] at hkl; simp at hkl)
        injection e' with e1 e2 e3
        clear e2 e3
        rw [ha'] at e1
        injection e1 with e1
        subst e1
        obtain ⟨q0, q1, q2, q3, q4, q5, q6⟩ := hcl2 k hkl
        obtain ⟨p0, p1, p2, p3, p4, p5, p6⟩ := HOc.out k hko
        have hLk := HL.out k hko hkl
        have hel := hW.el k hkl
        rw [hLk.bg] at p0
        rw [hLk.en] at p4
        rw [hLk.cu] at p6
        have hLl := hLk.l.grown hG
        have HC : Hid (∀ W, Grown wr W → Calls Tryd.prog 16 #[.agg #[.bool xs[k].r.bg, es[k].a, es[k].k, es[k].p, .bool xs[k].r.en, es[k].r, .int .i64 xs[k].r.cu], .agg #[.bool xs[k].r.bg, xs[k].av, xs[k].kv, xs[k].pv, .bool xs[k].r.en, xs[k].rv, .int .i64 xs[k].r.cu]] W fun e w' => e = .returned (.bool true) ∧ Grown W w') := fun W hW2 => stillRule_any xs[k].r base _ _ _ _ _ _ _ _ _ _ _ _ W (hLl.grown hW2) (hel.grown hW2) (HSm.out _ (List.getElem_mem hkl))
        obtain ⟨sa1, sa2, sa3, g1⟩ := hLl.a.sl
        obtain ⟨sk1, sk2, sk3, g2⟩ := hLl.k.sl
        obtain ⟨sp1, sp2, sp3, g3⟩ := hLl.p.sl
        obtain ⟨sr1, sr2, sr3, g5⟩ := hLl.r.sl
        obtain ⟨ta1, ta2, ta3, t1⟩ := hel.rr.a.sl
        obtain ⟨tk1, tk2, tk3, t2⟩ := hel.rr.k.sl
        obtain ⟨tp1, tp2, tp3, t3⟩ := hel.rr.p.sl
        obtain ⟨tr1, tr2, tr3, t5⟩ := hel.rr.r.sl
        rw [g1] at p1 HC
        rw [g2] at p2 HC
        rw [g3] at p3 HC
        rw [g5] at p5 HC
        rw [t1] at q1 HC
        rw [t2] at q2 HC
        rw [t3] at q3 HC
        rw [t5] at q5 HC
        clear g1 g2 g3 g5 t1 t2 t3 t5 hLk hel hLl hcl hcl2 hW ha'
        generalize xs[k].r.bg = xb at p0 q0 HC
        generalize xs[k].r.en = xe at p4 q4 HC
        generalize xs[k].r.cu = xc at p6 q6 HC
        have f0 := fun m os => (hG.quiet m os).cellv p0
        have f1 := fun m os => (hG.quiet m os).cellv p1
        have f2 := fun m os => (hG.quiet m os).cellv p2
        have f3 := fun m os => (hG.quiet m os).cellv p3
        have f4 := fun m os => (hG.quiet m os).cellv p4
        have f5 := fun m os => (hG.quiet m os).cellv p5
        have f6 := fun m os => (hG.quiet m os).cellv p6
        have h0 := fun m os => ((Grown.refl wr).quiet m os).cellv q0
        have h1 := fun m os => ((Grown.refl wr).quiet m os).cellv q1
        have h2 := fun m os => ((Grown.refl wr).quiet m os).cellv q2
        have h3 := fun m os => ((Grown.refl wr).quiet m os).cellv q3
        have h4 := fun m os => ((Grown.refl wr).quiet m os).cellv q4
        have h5 := fun m os => ((Grown.refl wr).quiet m os).cellv q5
        have h6 := fun m os => ((Grown.refl wr).quiet m os).cellv q6
        clear p0 p1 p2 p3 p4 p5 p6 q0 q1 q2 q3 q4 q5 q6
        go_wp2
        refine wp_region_quiet_grown hm (by kernel_rfl) ?_
        repeat (go_big_quiet_step ((go_at_call 16; exact grown_of (HC.out _ ((Grown.refl _).quiet _ _)))))
        refine wpQuiet_nil ?_
        intro _ hw'
        obtain ⟨⟨nq, osq⟩, hw''⟩ := hw'
        subst hw''
        go_wp2
        exact ⟨⟨k + 1, by go_num, by omega, HQ.out _ _⟩, by simp [intOf]; omega⟩
    · as_aux_lemma =>
        have hge : ¬ (k : Int) < (n : Int) := by omega
        have m0 := fun m os => (hG.quiet m os).cellv HMk.out
        go_wp2
        refine wp_region_quiet_grown hm (by kernel_rfl) ?_
        repeat (go_big_quiet_step (fail))
        refine wpQuiet_nil ?_
        intro _ hw'
        obtain ⟨⟨nq, osq⟩, hw''⟩ := hw'
        subst hw''
        go_wp2
        go_ret
        exact ⟨rfl, (HQ.out _ _).1⟩
theorem stillPass_any (ov v : Value) (base : Nat) (xs : List RV) (w : World) (h : LPs w base ov v xs) (hr : PsV w v xs) (hn : xs.length ≤ 1048576) (hs : ∀ x ∈ xs, Sm x.r) : Calls Tryd.prog 15 #[.agg #[ov], .agg #[v]] w fun e w' => e = .returned (.bool true) ∧ Grown w w' := by
  rcases h with ⟨rfl, rfl, _⟩ | ⟨⟨ad, c, rfl⟩, g, cap, es, rfl, h3, h4, h5, h6⟩
  · exact stillPass_nil w
  · exact stillPass_some g cap ad c base es xs w hr h3 h4 h5 h6 hn hs
/-- all blocks but one stay -/
def But (g : Nat) (W W' : World) : Prop := ∀ b, b ≠ g → ∀ o, W.heap[b]? = some o → W'.heap[b]? = some o
/-- the one block holds rules, and no mark of a row of sets -/
structure RowB (g : Nat) (W : World) : Prop where
  t : ∃ cur m, W.heap[g]? = some (.cells cur 28 m)
  c : W.cell? ⟨g, 0, none⟩ ≠ some (.int .i64 (-8))
theorem But.kt {g : Nat} {W W' : World} (k : But g W W') (h : RowB g W) {t : TypeId} (ht : (28 : Nat) ≠ t) : KT t W W' := fun b cs m hb => by
  by_cases e : b = g
  · subst e
    obtain ⟨cur, m', h1⟩ := h.t
    rw [h1] at hb
    injection hb with hb
    injection hb with _ h2 _
    exact absurd h2 ht
  · exact k b e _ hb
theorem LR.but {g : Nat} {W W' : World} {base : Nat} {ov v : Value} {svs : List Value} {ls : List (List (Int × Int))} (h : LR W base ov v svs ls) (k : But g W W') (hg : RowB g W) : LR W' base ov v svs ls := by
  rcases h with h | ⟨h1, g1, cap, ovs, gm, h2, h3, h4, h5, h6, hgm, h7⟩
  · exact .inl h
  · refine .inr ⟨h1, g1, cap, ovs, gm, h2, h3, h4, own_kept_t h5 (k.kt hg (by decide)), ?_, hgm, fun j a b c => (h7 j a b c).kt (k.kt hg (by decide))⟩
    have hne : gm ≠ g := fun e => by subst e; exact hg.c h6
    cases ho : W.heap[gm]? with
    | none => simp [World.cell?, ho] at h6
    | some o =>
      have := k gm hne o ho
      simp only [World.cell?] at h6 ⊢
      rw [this, ← ho]
      exact h6
theorem LP.but {g : Nat} {W W' : World} {base : Nat} {ov v : Value} {tvs : List Value} {ps : List Pc} (h : LP W base ov v tvs ps) (k : But g W W') (hg : RowB g W) : LP W' base ov v tvs ps := by
  rcases h with h | ⟨h1, g1, cap, es, h2, h3, h4, h5, h6⟩
  · exact .inl h
  · exact .inr ⟨h1, g1, cap, es, h2, h3, h4, own_kept_t h5 (k.kt hg (by decide)), fun j a b => (h6 j a b).kt (k.kt hg (by decide))⟩
theorem LEl.but {g : Nat} {W W' : World} {base : Nat} {e : Rw} {x : RV} (h : LEl W base e x) (k : But g W W') (hg : RowB g W) : LEl W' base e x :=
  ⟨h.bg, h.en, h.cu, h.l.a.but k hg, h.l.k.but k hg, h.l.p.but k hg, h.l.r.but k hg⟩
theorem rinfo25 : (Tryd.prog.info? 28).map (fun i => (i.zero, i.size, i.bytes)) = some (some (.agg #[.bool false, .slice none 0 0, .slice none 0 0, .slice none 0 0, .bool false, .slice none 0 0, .int .i64 0]), 7, 120) := by kernel_rfl
/-- one rule more behind a row of the call's own -/
theorem app_Rl {ops : Array Oper} {rest : List Oper} {o : Oper} {a : Act} {Q : Exit → Act → World → Prop} {w : World} (hgd : o.guard = none) (s x : Operand)
    (ho : o.op = .call { callee := .builtin .append, args := #[s, x], argTypes := #[22, 22] }) (base : Nat) (g0 c0 : Nat) (n : Nat) (es : List Rw) (hn : es.length = n) (hs : a.eval s = .slice (some ⟨g0, 0, none⟩) n c0) (hown : w.ownsRow base 28 7 (.slice (some ⟨g0, 0, none⟩) n c0) n (fr es)) (gs c : Nat) (e : Rw) (hx : a.eval x = .slice (some ⟨gs, 0, none⟩) 1 c)
    (hc : ∀ (i : Nat) (u : Value), (fr1 e)[i]? = some u → w.cell? ⟨gs, i, none⟩ = some u) (hsl : IsSl e.a ∧ IsSl e.k ∧ IsSl e.p ∧ IsSl e.r) (hl : n ≤ 2000000) (hbase : base ≤ w.heap.size)
    (h : ∀ g cap w', n + 1 ≤ cap → w'.ownsRow base 28 7 (.slice (some ⟨g, 0, none⟩) (n + 1) cap) (n + 1) (fr (es ++ [e])) → But g0 w w' → Below base w w' → wpList Tryd.prog ops Q rest (a.put o.dst (.slice (some ⟨g, 0, none⟩) (n + 1) cap)) w') : wpList Tryd.prog ops Q (o :: rest) a w := by
  obtain ⟨i0, hi, hz0, hz1, hz2⟩ := info_parts rinfo25
  subst hn
  refine wpList_append_own w hgd s x 22 ho base 28 i0 (.agg #[.bool false, .slice none 0 0, .slice none 0 0, .slice none 0 0, .bool false, .slice none 0 0, .int .i64 0]) 7 120 Tryd.underlying22 hi hz0 hz1 hz2 rfl (by decide) _ es.length (fr es) hs hown ⟨gs, 0, none⟩ 1 c (fr1 e) hx rfl ?_ ?_ (by unfold maxLen; omega) (by omega) hbase (fun v' w' h2 h3 h4 => ?_)
  · intro j u hj
    rw [add_zero_at]
    exact hc j u hj
  · intro u hu
    simp [fr1] at hu
    obtain ⟨⟨A1, n1, c1, e1⟩, ⟨A2, n2, c2, e2⟩, ⟨A3, n3, c3, e3⟩, ⟨A4, n4, c4, e4⟩⟩ := hsl
    rcases hu with rfl | rfl | rfl | rfl | rfl | rfl | rfl
    · rfl
    · rw [e1]; rfl
    · rw [e2]; rfl
    · rw [e3]; rfl
    · rfl
    · rw [e4]; rfl
    · rfl
  · have h2' : w'.ownsRow base 28 7 v' (es.length + 1) (fr (es ++ [e])) := by
      rw [fr_append]
      simpa [fr] using h2
    rcases h2'.2 with ⟨e', _⟩ | ⟨g, cap, cur, e', _, _, hcp, _⟩
    · exact absurd (h4.1 e').1 (by intro e; cases e)
    · subst e'
      refine h g cap w' hcp h2' ?_ ((Below.refl _ w).grown h3 hbase (fun k hk => (World.ownsRow.lt hown k hk).1))
      exact fun b hb o hbo => (h3.block b (Array.getElem?_eq_some_iff.1 hbo).1 (fun er => hb (by simpa [Value.ownBlock] using er))).trans hbo
theorem rowB_of {W : World} {base g n c : Nat} {es : List Rw} (h : W.ownsRow base 28 7 (.slice (some ⟨g, 0, none⟩) n c) n (fr es)) (hn : es.length = n) (h0 : n = 0 → c = 0) : RowB g W := by
  by_cases hz : n = 0
  · rcases h.2 with ⟨e, _⟩ | ⟨g', cap, cur, e, _, hg, _, _, hsz, _⟩
    · cases e
    · injection e with e1 _ e3
      injection e1 with e1
      injection e1 with e1
      subst e1 e3
      refine ⟨⟨cur, _, hg⟩, ?_⟩
      have hs0 : cur.size = 0 := by rw [hsz, h0 hz]
      simp [World.cell?, hg, hs0]
  · have hc := own_cell7 h (j := 0) (u := .bool (es[0]'(by omega)).bg) (by have := fr_at es (j := 0) (by omega) 0 (by omega); simpa [fr1] using this)
    refine ⟨?_, by rw [hc]; intro e; cases e⟩
    rcases h.2 with ⟨e, _⟩ | ⟨g', cap, cur, e, _, hg, _⟩
    · cases e
    · injection e with e1 _ e3
      injection e1 with e1
      injection e1 with e1
      subst e1
      exact ⟨cur, _, hg⟩
theorem ret_ps {fn : Func} {p : Tmp} {W : World} {B : Nat} {tmps : Array Value} {v : Value} {Q : Ending → World → Prop} (hr : fn.results = #[.cell p 24]) (hp : tmps.getD p undef = .pointer (some ⟨B, 0, none⟩)) (c0 : W.cell? ⟨B, 0, none⟩ = some v)
    (K : Q (.returned (.agg #[v])) W) : bodyPost Tryd.prog fn Q Exit.ret { tmps := tmps, defers := [] } W := by
  refine bodyPost_ret (v := .agg #[v]) ?_ rfl K
  rw [Array.getD_eq_getD_getElem?] at hp
  simp only [results, hr]
  simp [hp, go_sem, c0]
set_option maxHeartbeats 2000000 in
theorem lentPass_nil (w : World) : Calls Tryd.prog 8 #[.agg #[.slice none 0 0]] w fun e w' => e = .returned (.agg #[.slice none 0 0]) ∧ Grown w w' := by
  have he := nil26
  go_enter Tryd.func8, Tryd.ntmps8
  go_wp2
  exact ret_ps (p := 2) (B := w.heap.size + 1) (v := .slice none 0 0) rfl rfl (by simp) ⟨rfl, ((Grown.refl _).alloc _).alloc _⟩

theorem LEl.below {W W' : World} {base n : Nat} {e : Rw} {x : RV} (h : LEl W base e x) (hb : Below n W W') (hn : W.heap.size ≤ n) : LEl W' base e x := ⟨h.bg, h.en, h.cu, h.l.below hb hn⟩
theorem LEl.le {W : World} {base base' : Nat} {e : Rw} {x : RV} (h : LEl W base e x) (hb : base' ≤ base) : LEl W base' e x := ⟨h.bg, h.en, h.cu, h.l.le hb⟩
/-- how far lentPass is -/
def LI5 (w2 : World) (xs : List RV) (k : Nat) (va : Value) (W : World) : Prop :=
  ∃ g c es, va = .slice (some ⟨g, 0, none⟩) k c ∧ (k = 0 → c = 0) ∧ es.length = k ∧ W.ownsRow w2.heap.size 28 7 va k (fr es) ∧ (∀ (j : Nat) (h1 : j < es.length) (h2 : j < xs.length), LEl W w2.heap.size es[j] xs[j]) ∧ Below w2.heap.size w2 W
theorem cells7 (W : World) (xb xe : Bool) (b c d f : Value) (xc : Int) (t : TypeId) (i : Nat) (u : Value) (h : (fr1 ⟨xb, b, c, d, xe, f, xc⟩)[i]? = some u) : (W.alloc (.cells #[.bool xb, b, c, d, .bool xe, f, .int .i64 xc] t)).cell? ⟨W.heap.size, i, none⟩ = some u := by
  refine cell_new rfl ?_
  simpa [fr1] using h
def mk7 : List Value := [.bool false, .slice none 0 0, .slice none 0 0, .slice none 0 0, .bool false, .slice none 0 0, .int .i64 (-9)]
/-- the blocks of the pass that came in, and of the one that goes out -/
def Two (b1 rb : Nat) (pv : Value) (W : World) : Prop := W.heap[b1]? = some (.cells #[pv] 24 (0, 0)) ∧ W.heap[rb]? = some (.cells #[.slice none 0 0] 24 (0, 0))
structure LJ (w0 : World) (B b1 rb : Nat) (pv va : Value) (n : Nat) (xs : List Value) (p : Nat → Bool) (vs : Nat → Value) (W : World) : Prop where
  v0 : p 0 = true → vs 0 = va
  v1 : p 1 = true → vs 1 = .agg mk7.toArray
  v2 : p 2 = true → vs 2 = .slice (some ⟨w0.heap.size, 0, none⟩) 1 1
  v4 : p 4 = true → vs 4 = .pointer (some ⟨b1, 0, none⟩)
  v5 : p 5 = true → vs 5 = pv
  v6 : p 6 = true → vs 6 = .int .i64 n
  v8 : p 8 = true → vs 8 = .agg #[vs 7]
  x0 : p 2 = false → W = w0.drew
  x1 : p 2 = true → p 3 = false → W = w0.drew.alloc (.cells mk7.toArray 28)
  x2 : p 3 = true → ∃ g c W3, vs 3 = .slice (some ⟨g, 0, none⟩) (n + 1) c ∧ n + 1 ≤ c ∧ W3.ownsRow B 28 7 (.slice (some ⟨g, 0, none⟩) (n + 1) c) (n + 1) (xs ++ mk7) ∧ (w0.drew.alloc (.cells mk7.toArray 28)).grownBy W3 va.ownBlock ∧ (p 7 = true → vs 7 = .slice (some ⟨g, 0, none⟩) n c) ∧ (p 9 = false → W = W3) ∧ (p 9 = true → W = W3.setCell ⟨rb, 0, none⟩ (.slice (some ⟨g, 0, none⟩) n c))
  tw : p 9 = false → Two b1 rb pv W
  o3 : p 3 = true → p 2 = true
  o7 : p 7 = true → p 3 = true
  o5 : p 6 = true → p 5 = true
  o7' : p 7 = true → p 6 = true
  o8 : p 8 = true → p 7 = true
  o9 : p 9 = true → p 8 = true
section
variable {w0 : World} {B b1 rb : Nat} {pv va : Value} {n : Nat} {xs : List Value} {p : Nat → Bool} {vs : Nat → Value} {W : World}
theorem LJ.start (h : Two b1 rb pv w0) : LJ w0 B b1 rb pv va n xs (fun _ => false) (fun _ => undef) w0.drew :=
  ⟨by simp, by simp, by simp, by simp, by simp, by simp, by simp, fun _ => rfl, by simp, by simp, fun _ => h, by simp, by simp, by simp, by simp, by simp, by simp⟩
theorem LJ.n3 (h : LJ w0 B b1 rb pv va n xs p vs W) (h2 : p 2 = false) : p 3 = false := by
  cases e : p 3 with
  | false => rfl
  | true => have := h.o3 e; rw [h2] at this; cases this
theorem LJ.n7 (h : LJ w0 B b1 rb pv va n xs p vs W) (h3 : p 3 = false) : p 7 = false := by
  cases e : p 7 with
  | false => rfl
  | true => have := h.o7 e; rw [h3] at this; cases this
theorem LJ.n8 (h : LJ w0 B b1 rb pv va n xs p vs W) (h7 : p 7 = false) : p 8 = false := by
  cases e : p 8 with
  | false => rfl
  | true => have := h.o8 e; rw [h7] at this; cases this
theorem LJ.n9 (h : LJ w0 B b1 rb pv va n xs p vs W) (h8 : p 8 = false) : p 9 = false := by
  cases e : p 9 with
  | false => rfl
  | true => have := h.o9 e; rw [h8] at this; cases this
theorem LJ.put0 (h : LJ w0 B b1 rb pv va n xs p vs W) : LJ w0 B b1 rb pv va n xs (fun j => p j || j == 0) (fun j => if j = 0 then va else vs j) W :=
  ⟨fun _ => rfl, by simpa using h.v1, by simpa using h.v2, by simpa using h.v4, by simpa using h.v5, by simpa using h.v6, by simpa using h.v8, by simpa using h.x0, by simpa using h.x1, by simpa using h.x2, by simpa using h.tw, by simpa using h.o3, by simpa using h.o7, by simpa using h.o5, by simpa using h.o7', by simpa using h.o8, by simpa using h.o9⟩
theorem LJ.put1 (h : LJ w0 B b1 rb pv va n xs p vs W) : LJ w0 B b1 rb pv va n xs (fun j => p j || j == 1) (fun j => if j = 1 then .agg mk7.toArray else vs j) W :=
  ⟨by simpa using h.v0, fun _ => rfl, by simpa using h.v2, by simpa using h.v4, by simpa using h.v5, by simpa using h.v6, by simpa using h.v8, by simpa using h.x0, by simpa using h.x1, by simpa using h.x2, by simpa using h.tw, by simpa using h.o3, by simpa using h.o7, by simpa using h.o5, by simpa using h.o7', by simpa using h.o8, by simpa using h.o9⟩
theorem LJ.put4 (h : LJ w0 B b1 rb pv va n xs p vs W) : LJ w0 B b1 rb pv va n xs (fun j => p j || j == 4) (fun j => if j = 4 then .pointer (some ⟨b1, 0, none⟩) else vs j) W :=
  ⟨by simpa using h.v0, by simpa using h.v1, by simpa using h.v2, fun _ => rfl, by simpa using h.v5, by simpa using h.v6, by simpa using h.v8, by simpa using h.x0, by simpa using h.x1, by simpa using h.x2, by simpa using h.tw, by simpa using h.o3, by simpa using h.o7, by simpa using h.o5, by simpa using h.o7', by simpa using h.o8, by simpa using h.o9⟩
theorem LJ.put5 (h : LJ w0 B b1 rb pv va n xs p vs W) : LJ w0 B b1 rb pv va n xs (fun j => p j || j == 5) (fun j => if j = 5 then pv else vs j) W :=
  ⟨by simpa using h.v0, by simpa using h.v1, by simpa using h.v2, by simpa using h.v4, fun _ => rfl, by simpa using h.v6, by simpa using h.v8, by simpa using h.x0, by simpa using h.x1, by simpa using h.x2, by simpa using h.tw, by simpa using h.o3, by simpa using h.o7, fun _ => by simp, by simpa using h.o7', by simpa using h.o8, by simpa using h.o9⟩
theorem LJ.put6 (h : LJ w0 B b1 rb pv va n xs p vs W) (h5 : p 5 = true) : LJ w0 B b1 rb pv va n xs (fun j => p j || j == 6) (fun j => if j = 6 then .int .i64 n else vs j) W :=
  ⟨by simpa using h.v0, by simpa using h.v1, by simpa using h.v2, by simpa using h.v4, by simpa using h.v5, fun _ => rfl, by simpa using h.v8, by simpa using h.x0, by simpa using h.x1, by simpa using h.x2, by simpa using h.tw, by simpa using h.o3, by simpa using h.o7, fun _ => by simpa using h5, fun _ => by simp, by simpa using h.o8, by simpa using h.o9⟩
theorem LJ.put2 (h : LJ w0 B b1 rb pv va n xs p vs W) (h2 : p 2 = false) : W = w0.drew ∧ LJ w0 B b1 rb pv va n xs (fun j => p j || j == 2) (fun j => if j = 2 then .slice (some ⟨w0.heap.size, 0, none⟩) 1 1 else vs j) (w0.drew.alloc (.cells mk7.toArray 28)) := by
  have hw := h.x0 h2
  have h3 := h.n3 h2
  have h9 := h.n9 (h.n8 (h.n7 h3))
  subst hw
  have htw := h.tw h9
  refine ⟨rfl, by simpa using h.v0, by simpa using h.v1, fun _ => rfl, by simpa using h.v4, by simpa using h.v5, by simpa using h.v6, by simpa using h.v8, fun a => by simp at a, fun _ _ => rfl, fun a => by simp [h3] at a, fun _ => ⟨?_, ?_⟩, fun _ => by simp, by simpa using h.o7, by simpa using h.o5, by simpa using h.o7', by simpa using h.o8, by simpa using h.o9⟩
  · exact (((Below.refl _ w0.drew).alloc (Nat.le_refl _) _).block b1 (Array.getElem?_eq_some_iff.1 htw.1).1).trans htw.1
  · exact (((Below.refl _ w0.drew).alloc (Nat.le_refl _) _).block rb (Array.getElem?_eq_some_iff.1 htw.2).1).trans htw.2
theorem LJ.put3 (h : LJ w0 B b1 rb pv va n xs p vs W) (h2 : p 2 = true) (h3 : p 3 = false) {g c : Nat} {W3 : World} (hc : n + 1 ≤ c) (ho : W3.ownsRow B 28 7 (.slice (some ⟨g, 0, none⟩) (n + 1) c) (n + 1) (xs ++ mk7)) (hg : (w0.drew.alloc (.cells mk7.toArray 28)).grownBy W3 va.ownBlock) (hk : KT 24 (w0.drew.alloc (.cells mk7.toArray 28)) W3) :
    LJ w0 B b1 rb pv va n xs (fun j => p j || j == 3) (fun j => if j = 3 then .slice (some ⟨g, 0, none⟩) (n + 1) c else vs j) W3 := by
  have h7 := h.n7 h3
  have h9 := h.n9 (h.n8 h7)
  have htw := h.tw h9
  rw [h.x1 h2 h3] at htw
  exact ⟨by simpa using h.v0, by simpa using h.v1, by simpa using h.v2, by simpa using h.v4, by simpa using h.v5, by simpa using h.v6, by simpa using h.v8, fun a => by simp [h2] at a, fun _ a => by simp at a, fun _ => ⟨g, c, W3, rfl, hc, ho, hg, fun a => by simp [h7] at a, fun _ => rfl, fun a => by simp [h9] at a⟩, fun _ => ⟨hk _ _ _ htw.1, hk _ _ _ htw.2⟩, fun _ => by simpa using h2, fun _ => by simp, by simpa using h.o5, by simpa using h.o7', by simpa using h.o8, by simpa using h.o9⟩
theorem LJ.put7 (h : LJ w0 B b1 rb pv va n xs p vs W) (h3 : p 3 = true) (h6 : p 6 = true) (h7 : p 7 = false) : ∃ g c, vs 3 = .slice (some ⟨g, 0, none⟩) (n + 1) c ∧ n + 1 ≤ c ∧ LJ w0 B b1 rb pv va n xs (fun j => p j || j == 7) (fun j => if j = 7 then .slice (some ⟨g, 0, none⟩) n c else vs j) W := by
  obtain ⟨g, c, W3, e3, hc, ho, hg, e7, w1, w2⟩ := h.x2 h3
  have h8 := h.n8 h7
  exact ⟨g, c, e3, hc, by simpa using h.v0, by simpa using h.v1, by simpa using h.v2, by simpa using h.v4, by simpa using h.v5, by simpa using h.v6, fun a => by simp [h8] at a, by simpa using h.x0, by simpa using h.x1, fun _ => ⟨g, c, W3, by simpa using e3, hc, ho, hg, fun _ => by simp, by simpa using w1, by simpa using w2⟩, by simpa using h.tw, by simpa using h.o3, fun _ => by simpa using h3, by simpa using h.o5, fun _ => by simpa using h6, fun a => by simp, by simpa using h.o9⟩
theorem LJ.put8 (h : LJ w0 B b1 rb pv va n xs p vs W) (h7 : p 7 = true) : LJ w0 B b1 rb pv va n xs (fun j => p j || j == 8) (fun j => if j = 8 then .agg #[vs 7] else vs j) W :=
  ⟨by simpa using h.v0, by simpa using h.v1, by simpa using h.v2, by simpa using h.v4, by simpa using h.v5, by simpa using h.v6, fun _ => by simp, by simpa using h.x0, by simpa using h.x1, by simpa using h.x2, by simpa using h.tw, by simpa using h.o3, by simpa using h.o7, by simpa using h.o5, by simpa using h.o7', fun _ => by simpa using h7, fun a => by simp⟩
theorem LJ.put9 (h : LJ w0 B b1 rb pv va n xs p vs W) (h8 : p 8 = true) (h9 : p 9 = false) : ∃ g c, vs 8 = .agg #[.slice (some ⟨g, 0, none⟩) n c] ∧ ∀ v, LJ w0 B b1 rb pv va n xs (fun j => p j || j == 9) (fun j => if j = 9 then v else vs j) (W.setCell ⟨rb, 0, none⟩ (.slice (some ⟨g, 0, none⟩) n c)) := by
  have h7 := h.o8 h8
  have h3 := h.o7 h7
  have h2 := h.o3 h3
  obtain ⟨g, c, W3, e3, hc, ho, hg, e7, w1, w2⟩ := h.x2 h3
  have hW := w1 h9
  subst hW
  exact ⟨g, c, by rw [h.v8 h8, e7 h7], fun v => ⟨by simpa using h.v0, by simpa using h.v1, by simpa using h.v2, by simpa using h.v4, by simpa using h.v5, by simpa using h.v6, by simpa using h.v8, fun a => by simp [h2] at a, fun _ a => by simp [h3] at a, fun _ => ⟨g, c, W, by simpa using e3, hc, ho, hg, by simpa using e7, fun a => by simp at a, fun _ => rfl⟩, fun a => by simp at a, by simpa using h.o3, by simpa using h.o7, by simpa using h.o5, by simpa using h.o7', by simpa using h.o8, fun _ => by simpa using h8⟩⟩
end

/-- a slice literal, in a row of operations -/
theorem wl_slice {P : Program} {ops : Array Oper} {rest : List Oper} {o : Oper} {a : Act} {w : World} {Q : Exit → Act → World → Prop} (hg : o.guard = none) (t e : TypeId) (len : Nat) (parts : Array (Nat × Operand)) (ho : o.op = .buildSlice t len parts) (s : Nat) (hu : P.underlying t = some (.slice e))
    (hsz : (P.info? e).map (·.size) = some s) (hz : ((P.info? e).bind (·.zero)).isSome = true) (hs : 0 < s) (vs : List Value) (hparts : (parts.map fun (i, x) => (i, a.eval x)).toList = (vs.zipIdx 0).map fun x => (x.2, x.1)) (hv : ∀ v ∈ vs, v.cells.size = s) (hl : len = vs.length) (hpos : 0 < len) (hsmall : len * s ≤ 2 ^ 24)
    (h : wpList P ops Q rest (a.put o.dst (.slice (some ⟨w.heap.size, 0, none⟩) len len)) (w.alloc (.cells (vs.flatMap (fun v => v.cells.toList)).toArray e))) : wpList P ops Q (o :: rest) a w := by
  refine wpList_plain hg fun K hK => ?_
  have hst := step_slice (P := P) (ops := ops) (o := o) (a := a) (w := w) (K := K) (Q := Q) (E := True) hg t e len parts ho s hu hsz hz hs vs hparts hv hl hpos hsmall (hK _ _ h)
  have hw : Region.wanted o (yielded ops a.tmps) = true := by simp [Region.wanted, hg]
  rwa [if_pos hw] at hst
theorem LR.but28 {g : Nat} {W W' : World} {base : Nat} {ov v : Value} {svs : List Value} {ls : List (List (Int × Int))} (h : LR W base ov v svs ls) (k : But g W W') (ht : ∃ cur m, W.heap[g]? = some (.cells cur 24 m)) (hc : W.cell? ⟨g, 0, none⟩ ≠ some (.int .i64 (-8))) : LR W' base ov v svs ls := by
  have kt : ∀ {t : TypeId}, (24 : Nat) ≠ t → KT t W W' := fun {t} hne b cs m hb => by
    by_cases e : b = g
    · subst e
      obtain ⟨cur, m', h1⟩ := ht
      rw [h1] at hb
      injection hb with hb
      injection hb with _ h2 _
      exact absurd h2 hne
    · exact k b e _ hb
  rcases h with h | ⟨h1, g1, cap, ovs, gm, h2, h3, h4, h5, h6, hgm, h7⟩
  · exact .inl h
  · refine .inr ⟨h1, g1, cap, ovs, gm, h2, h3, h4, own_kept_t h5 (kt (by decide)), ?_, hgm, fun j a b c => (h7 j a b c).kt (kt (by decide))⟩
    have hne : gm ≠ g := fun e => by subst e; exact hc h6
    cases ho : W.heap[gm]? with
    | none => simp [World.cell?, ho] at h6
    | some o =>
      have := k gm hne o ho
      simp only [World.cell?] at h6 ⊢
      rw [this, ← ho]
      exact h6
theorem LP.but28 {g : Nat} {W W' : World} {base : Nat} {ov v : Value} {tvs : List Value} {ps : List Pc} (h : LP W base ov v tvs ps) (k : But g W W') (ht : ∃ cur m, W.heap[g]? = some (.cells cur 24 m)) : LP W' base ov v tvs ps := by
  have kt : ∀ {t : TypeId}, (24 : Nat) ≠ t → KT t W W' := fun {t} hne b cs m hb => by
    by_cases e : b = g
    · subst e
      obtain ⟨cur, m', h1⟩ := ht
      rw [h1] at hb
      injection hb with hb
      injection hb with _ h2 _
      exact absurd h2 hne
    · exact k b e _ hb
  rcases h with h | ⟨h1, g1, cap, es, h2, h3, h4, h5, h6⟩
  · exact .inl h
  · exact .inr ⟨h1, g1, cap, es, h2, h3, h4, own_kept_t h5 (kt (by decide)), fun j a b => (h6 j a b).kt (kt (by decide))⟩
theorem LEl.but28 {g : Nat} {W W' : World} {base : Nat} {e : Rw} {x : RV} (h : LEl W base e x) (k : But g W W') (ht : ∃ cur m, W.heap[g]? = some (.cells cur 24 m)) (hc : W.cell? ⟨g, 0, none⟩ ≠ some (.int .i64 (-8))) : LEl W' base e x :=
  ⟨h.bg, h.en, h.cu, h.l.a.but28 k ht hc, h.l.k.but28 k ht hc, h.l.p.but28 k ht hc, h.l.r.but28 k ht⟩
theorem but_set (W : World) (g : Nat) (v : Value) : But g W (W.setCell ⟨g, 0, none⟩ v) := fun b hb o ho => by
  show (W.heap.modify g _)[b]? = _
  rw [Array.getElem?_modify, if_neg (fun e => hb e.symm)]
  exact ho
set_option maxHeartbeats 8000000 in
theorem lentPass_some (ad : Addr) (c : Nat) (xs : List RV) (w : World) (hr : PsV w (.slice (some ad) xs.length c) xs) (hn : xs.length ≤ 1048576) (hs : ∀ x ∈ xs, Sm x.r) :
    Calls Tryd.prog 8 #[.agg #[.slice (some ad) xs.length c]] w fun e w' => ∃ ov, e = .returned (.agg #[ov]) ∧ LPs w' w.heap.size ov (.slice (some ad) xs.length c) xs ∧ Below w.heap.size w w' := by
  have he := some26
  obtain ⟨n, hnn⟩ : ∃ n, xs.length = n := ⟨_, rfl⟩
  have HN : Hid (xs.length = n) := hnn
  have HR : Hid (PsV w (.slice (some ad) n c) xs) := by rw [hnn] at hr; exact hr
  have HSm : Hid (∀ x ∈ xs, Sm x.r) := hs
  rw [hnn] at hn ⊢
  have hnI : (n : Int) ≤ 1048576 := by omega
  obtain ⟨w2, hw2⟩ : ∃ w2 : World, w2 = (w.alloc (.cells #[.slice (some ad) n c] 24)).alloc (.cells #[.slice none 0 0] 24) := ⟨_, rfl⟩
  have HZ : Hid (w2.heap.size = w.heap.size + 2) := by show _ = _; rw [hw2]; simp
  have HG2 : Hid (Grown w w2) := by show Grown _ _; rw [hw2]; exact ((Grown.refl _).alloc _).alloc _
  have HTw : Hid (Two w.heap.size (w.heap.size + 1) (.slice (some ad) n c) w2) := by
    have h0 := heap_alloc_new w (.cells #[.slice (some ad) n c] 24)
    have h1 := heap_alloc_new (w.alloc (.cells #[.slice (some ad) n c] 24)) (.cells #[.slice none 0 0] 24)
    rw [show (w.alloc (.cells #[.slice (some ad) n c] 24)).heap.size = w.heap.size + 1 from Array.size_push _] at h1
    refine ⟨?_, by rw [hw2]; exact h1⟩
    rw [hw2]
    exact (((Below.refl _ _).alloc (Nat.le_refl _) _).block _ (Array.getElem?_eq_some_iff.1 h0).1).trans h0
  have HS0 : Hid (LI5 w2 xs 0 (.slice (some ⟨w2.heap.size, 0, none⟩) 0 0) (w2.alloc (.cells #[] 28))) := ⟨w2.heap.size, 0, [], rfl, fun _ => rfl, rfl, ⟨rfl, .inr ⟨w2.heap.size, 0, #[], rfl, Nat.le_refl _, heap_alloc_new w2 _, Nat.le_refl _, Nat.zero_le _, rfl, rfl⟩⟩, fun j h => by simp at h, (Below.refl _ w2).alloc (Nat.le_refl _) _⟩
  clear hr hnn hs
  go_enter Tryd.func8, Tryd.ntmps8
  go_wp2
  rw [show (w.alloc (.cells #[.slice (some ad) n c] 24)).alloc (.cells #[.slice none 0 0] 24) = w2 from hw2.symm]
  rw [show w.heap.size + 1 + 1 = w2.heap.size from HZ.out.symm]
  clear hw2
  go_loopw [3, 14] (fun sa vi wr => ∃ (va : Value) (k : Nat), va = sa ∧ vi = .int .i64 k ∧ k ≤ n ∧ Hid (LI5 w2 xs k va wr)) (fun _ vi _ => n - (intOf vi).toNat)
  case atStart => exact ⟨_, 0, rfl, rfl, Nat.zero_le _, HS0⟩
  case round =>
    obtain ⟨va, k, rfl, rfl, hk, HG⟩ := hrel
    have hpos : (0 : Int) ≤ (k : Int) := by omega
    have hkI : (k : Int) ≤ 1048576 := by omega
    clear HS0
    by_cases hlt : k < n
    · as_aux_lemma =>
        have hlt' : (k : Int) < (n : Int) := by omega
        have hkl : k < xs.length := by rw [HN.out]; exact hlt
        obtain ⟨g0, c0, es, rfl, g1, g2, g3, g4, g5⟩ := HG.out
        have hW := (HR.out.grown HG2.out).below g5 (Nat.le_refl _)
        obtain ⟨a', c', e', _, hcl⟩ := hW.cell
        obtain ⟨gg, oo, ha', hcl2⟩ := hcl.resolve_left (fun e => by rw [e] at hkl; simp at hkl)
        injection e' with e1 e2 e3
        clear e2 e3
        rw [ha'] at e1
        injection e1 with e1
        subst e1
        obtain ⟨q0, q1, q2, q3, q4, q5, q6⟩ := hcl2 k hkl
        have hel := hW.el k hkl
        have HC : Hid (∀ W, Grown wr W → Calls Tryd.prog 9 #[.agg #[.bool xs[k].r.bg, xs[k].av, xs[k].kv, xs[k].pv, .bool xs[k].r.en, xs[k].rv, .int .i64 xs[k].r.cu]] W fun e w' => ∃ oa ok op orr, e = .returned (.agg #[.bool xs[k].r.bg, oa, ok, op, .bool xs[k].r.en, orr, .int .i64 xs[k].r.cu]) ∧ LEl w' W.heap.size ⟨xs[k].r.bg, oa, ok, op, xs[k].r.en, orr, xs[k].r.cu⟩ xs[k] ∧ Below W.heap.size W w') := fun W hG => by
          refine (lentRule_any xs[k].r _ _ _ _ _ _ _ _ W (hel.grown hG) (HSm.out _ (List.getElem_mem hkl))).mono ?_
          rintro e w' ⟨oa, ok, op, orr, rfl, h1, h2⟩
          exact ⟨oa, ok, op, orr, rfl, ⟨rfl, rfl, rfl, h1⟩, h2⟩
        obtain ⟨ta1, ta2, ta3, t1⟩ := hel.rr.a.sl
        obtain ⟨tk1, tk2, tk3, t2⟩ := hel.rr.k.sl
        obtain ⟨tp1, tp2, tp3, t3⟩ := hel.rr.p.sl
        obtain ⟨tr1, tr2, tr3, t5⟩ := hel.rr.r.sl
        rw [t1] at q1 HC
        rw [t2] at q2 HC
        rw [t3] at q3 HC
        rw [t5] at q5 HC
        generalize xs[k].r.bg = xb at q0 HC
        generalize xs[k].r.en = xe at q4 HC
        generalize xs[k].r.cu = xc at q6 HC
        clear hcl hcl2 hel hW ha' t1 t2 t3 t5
        go_wp2_with fail
        refine (HC.out _ ((Grown.refl _).alloc _)).mono ?_
        rintro e w4 ⟨oa, ok, op, orr, rfl, hLE, hb4⟩
        obtain ⟨oa1, oa2, oa3, rfl⟩ := hLE.l.a.sl
        obtain ⟨ok1, ok2, ok3, rfl⟩ := hLE.l.k.sl
        obtain ⟨op1, op2, op3, rfl⟩ := hLE.l.p.sl
        obtain ⟨or1, or2, or3, rfl⟩ := hLE.l.r.sl
        have hB4 : Below wr.heap.size wr w4 := ((Below.refl _ wr).alloc (Nat.le_refl _) _).trans (hb4.mono (by simp))
        have HP : Hid (∀ ob, (w4.alloc ob).ownsRow w2.heap.size 28 7 (.slice (some ⟨g0, 0, none⟩) k c0) k (fr es) ∧ w2.heap.size ≤ (w4.alloc ob).heap.size ∧ Below w2.heap.size w2 (w4.alloc ob) ∧ (∀ (j : Nat) (h1 : j < es.length) (h2 : j < xs.length), LEl (w4.alloc ob) w2.heap.size es[j] xs[j]) ∧ LEl (w4.alloc ob) w2.heap.size ⟨xb, .slice oa1 oa2 oa3, .slice ok1 ok2 ok3, .slice op1 op2 op3, xe, .slice or1 or2 or3, xc⟩ xs[k] ∧ RowB g0 (w4.alloc ob)) := fun ob => by
          have hb6 : Below wr.heap.size wr (w4.alloc ob) := hB4.alloc hB4.size ob
          have ho := ownsRow_below g3 hb6 (Nat.le_refl _)
          refine ⟨ho, Nat.le_trans g5.size hb6.size, g5.trans (hb6.mono g5.size), fun j a b => (g4 j a b).below hb6 (Nat.le_refl _), ?_, rowB_of ho g2 g1⟩
          have := hLE.below ((Below.refl _ w4).alloc (Nat.le_refl _) ob) (Nat.le_refl _)
          exact ⟨this.bg, this.en, this.cu, this.l.le (by have := g5.size; simp; omega)⟩
        have HOl : Hid (es.length = k) := g2
        clear g1 g2 g3 g4 g5 hLE hb4 hB4 HG HC q0 q1 q2 q3 q4 q5 q6
        rename_i Kx hKx
        refine hKx _ _ ?_
        clear hKx
        refine wl_slice rfl 22 28 1 _ rfl 7 Tryd.underlying22 (by kernel_rfl) (by kernel_rfl) (by decide) [.agg #[.bool xb, .slice oa1 oa2 oa3, .slice ok1 ok2 ok3, .slice op1 op2 op3, .bool xe, .slice or1 or2 or3, .int .i64 xc]] (by rw [Array.toList_map]; rfl) (by intro v hm; simp only [List.mem_cons, List.not_mem_nil, or_false] at hm; rcases hm with rfl; rfl) rfl (by decide) (by decide) ?_
        refine app_Rl rfl _ _ rfl w2.heap.size g0 c0 k es HOl.out rfl (HP.out _).1 w4.heap.size 1 ⟨xb, .slice oa1 oa2 oa3, .slice ok1 ok2 ok3, .slice op1 op2 op3, xe, .slice or1 or2 or3, xc⟩ rfl (cells7 w4 xb xe (.slice oa1 oa2 oa3) (.slice ok1 ok2 ok3) (.slice op1 op2 op3) (.slice or1 or2 or3) xc 28) ⟨⟨_, _, _, rfl⟩, ⟨_, _, _, rfl⟩, ⟨_, _, _, rfl⟩, ⟨_, _, _, rfl⟩⟩ (by omega) (HP.out _).2.1 ?_
        intro gn cn w5 hcn hO5 hK5 hB5
        have HF : Hid (LI5 w2 xs (k + 1) (.slice (some ⟨gn, 0, none⟩) (k + 1) cn) w5) := by
          refine ⟨gn, cn, es ++ [⟨xb, .slice oa1 oa2 oa3, .slice ok1 ok2 ok3, .slice op1 op2 op3, xe, .slice or1 or2 or3, xc⟩], rfl, by omega, by simp [HOl.out], hO5, fun j h1 h2 => ?_, (HP.out _).2.2.1.trans hB5⟩
          by_cases hj : j < es.length
          · rw [List.getElem_append_left hj]
            exact ((HP.out _).2.2.2.1 j hj h2).but hK5 (HP.out _).2.2.2.2.2
          · have hj2 : j = k := by simp at h1; have := HOl.out; omega
            subst hj2
            rw [List.getElem_append_right (by omega)]
            simp only [List.getElem_singleton]
            exact (HP.out _).2.2.2.2.1.but hK5 (HP.out _).2.2.2.2.2
        clear hO5 hK5 hB5 HP
        go_wp2
        exact ⟨⟨_, k + 1, rfl, by go_num, hlt, HF⟩, by simp [intOf]; omega⟩
    · obtain rfl : k = n := by omega
      have hge : ¬ (k : Int) < (k : Int) := by omega
      obtain ⟨g0, c0, es, rfl, g1, g2, g3, g4, g5⟩ := HG.out
      have HT3 : Hid (Two w.heap.size (w.heap.size + 1) (.slice (some ad) k c) wr) := ⟨(g5.block _ (Array.getElem?_eq_some_iff.1 HTw.out.1).1).trans HTw.out.1, (g5.block _ (Array.getElem?_eq_some_iff.1 HTw.out.2).1).trans HTw.out.2⟩
      have HB3 : Hid (Below w.heap.size w wr) := HG2.out.below.trans (g5.mono HG2.out.size)
      have HO3 : Hid (wr.ownsRow w2.heap.size 28 7 (.slice (some ⟨g0, 0, none⟩) k c0) k (fr es)) := g3
      have HSz : Hid (w2.heap.size ≤ wr.heap.size ∧ w.heap.size ≤ w2.heap.size) := ⟨g5.size, HG2.out.size⟩
      have HL3 : Hid (es.length = k ∧ ∀ (j : Nat) (h1 : j < es.length) (h2 : j < xs.length), LEl wr w2.heap.size es[j] xs[j]) := ⟨g2, g4⟩
      have HRB : Hid (∀ ob, RowB g0 (wr.drew.alloc ob)) := fun ob => by
        have ho := (g3.drew.alloc ob)
        exact rowB_of ho g2 g1
      clear g1 g2 g3 g4 g5 HG HTw HR HSm
      go_upto_region 9 with fail
      obtain ⟨i0, hi, hz0, hz1, hz2⟩ := info_parts rinfo25
      rename_i Kx hKx
      refine wp_region_inv (by kernel_rfl) (by kernel_rfl) (by kernel_rfl) (by kernel_rfl) (LJ wr w2.heap.size w.heap.size (w.heap.size + 1) (.slice (some ad) k c) (.slice (some ⟨g0, 0, none⟩) k c0) k (fr es)) (LJ.start HT3.out) ⟨?_, ?_, ?_, ?_, ?_, ?_, ?_, ?_, ?_, ?_, trivial⟩ ?_
      · as_aux_lemma =>
          intro a wx p vs hJ hdep hpi hval hfr K hK
          have d : a.tmps.getD 3 undef = (.slice (some ⟨g0, 0, none⟩) k c0) := hfr 3 (by kernel_rfl)
          exact step_value (v := (.slice (some ⟨g0, 0, none⟩) k c0)) (w' := wx) rfl (fun _ _ h => by cases h) (rho [(3, (.slice (some ⟨g0, 0, none⟩) k c0))]) (rho_of (by intro q hm; simp only [List.mem_cons, List.not_mem_nil, or_false] at hm; rcases hm with rfl; exact d) (by kernel_rfl)) (by kernel_rfl) (hK _ _ hJ.put0)
      · as_aux_lemma =>
          intro a wx p vs hJ hdep hpi hval hfr K hK
          exact step_value (v := .agg mk7.toArray) (w' := wx) rfl (fun _ _ h => by cases h) (rho []) (rho_of (by intro q hm; cases hm) (by kernel_rfl)) (by kernel_rfl) (hK _ _ hJ.put1)
      · as_aux_lemma =>
          intro a wx p vs hJ hdep hpi hval hfr K hK
          have h1 := hdep 1 (by kernel_rfl)
          have d : a.tmps.getD 25 undef = .agg mk7.toArray := (hval 1 _ 25 h1 (by rfl) rfl).trans (hJ.v1 h1)
          obtain ⟨hw, hJ'⟩ := hJ.put2 hpi
          subst hw
          refine step_slice rfl 22 28 1 _ rfl 7 Tryd.underlying22 (by kernel_rfl) (by kernel_rfl) (by decide) [.agg mk7.toArray] ?_ (by intro v hm; simp only [List.mem_cons, List.not_mem_nil, or_false] at hm; rcases hm with rfl; rfl) rfl (by decide) (by decide) (hK _ _ hJ')
          rw [Array.toList_map]
          show [(0, a.tmps.getD 25 undef)] = _
          rw [d]
          rfl
      · as_aux_lemma =>
          intro a wx p vs hJ hdep hpi hval hfr K hK
          have h0 := hdep 0 (by kernel_rfl)
          have h2 := hdep 2 (by kernel_rfl)
          have d0 : a.eval (.tmp 24) = (.slice (some ⟨g0, 0, none⟩) k c0) := (hval 0 _ 24 h0 (by rfl) rfl).trans (hJ.v0 h0)
          have d2 : a.eval (.tmp 26) = .slice (some ⟨wr.heap.size, 0, none⟩) 1 1 := (hval 2 _ 26 h2 (by rfl) rfl).trans (hJ.v2 h2)
          have hw := hJ.x1 h2 hpi
          subst hw
          have hO := HO3.out.drew.alloc (.cells mk7.toArray 28)
          refine step_append_lies _ rfl _ _ _ rfl w2.heap.size 28 i0 _ 7 120 Tryd.underlying22 hi hz0 hz1 hz2 rfl (by omega) _ k (fr es) d0 hO ⟨wr.heap.size, 0, none⟩ 1 1 mk7 d2 (by rfl) (World.news_of_block (cs := mk7.toArray) (heap_alloc_new wr.drew _)) (by intro u hu; simp only [mk7, List.mem_cons, List.not_mem_nil, or_false] at hu; rcases hu with rfl | rfl | rfl | rfl | rfl | rfl | rfl <;> rfl) (by omega) (by unfold maxLen; omega) (by omega) (by have := HSz.out.1; show w2.heap.size ≤ (wr.drew.heap.push _).size; rw [Array.size_push]; exact Nat.le_succ_of_le this) _ rfl ?_
          intro gg cap' w3 hown1 hgrow _ _
          refine hK _ _ (hJ.put3 h2 hpi ?_ hown1 hgrow (own_kt hO hgrow (by decide)))
          rcases hown1.2 with ⟨e, _⟩ | ⟨_, _, _, e, _, _, hc, _⟩
          · cases e
          · injection e with _ _ e3
            omega
      · as_aux_lemma =>
          intro a wx p vs hJ hdep hpi hval hfr K hK
          have d : a.tmps.getD 1 undef = (.pointer (some ⟨w.heap.size, 0, none⟩)) := hfr 1 (by kernel_rfl)
          exact step_value (v := (.pointer (some ⟨w.heap.size, 0, none⟩))) (w' := wx) rfl (fun _ _ h => by cases h) (rho [(1, (.pointer (some ⟨w.heap.size, 0, none⟩)))]) (rho_of (by intro q hm; simp only [List.mem_cons, List.not_mem_nil, or_false] at hm; rcases hm with rfl; exact d) (by kernel_rfl)) (by kernel_rfl) (hK _ _ hJ.put4)
      · as_aux_lemma =>
          intro a wx p vs hJ hdep hpi hval hfr K hK
          have h4 := hdep 4 (by kernel_rfl)
          have d : a.tmps.getD 28 undef = (.pointer (some ⟨w.heap.size, 0, none⟩)) := (hval 4 _ 28 h4 (by rfl) rfl).trans (hJ.v4 h4)
          have h9 : p 9 = false := by
            cases e : p 9 with
            | false => rfl
            | true => exact absurd hpi (by rw [hJ.o5 (hJ.o7' (hJ.o8 (hJ.o9 e)))]; simp)
          have hc : wx.cell? ⟨w.heap.size, 0, none⟩ = some (.slice (some ad) k c) := by
            have := (hJ.tw h9).1
            simp only [World.cell?, this]
            rfl
          have hJ' := hJ.put5
          clear hval hfr hdep hJ HT3 HB3 HO3 HSz HL3 HRB hKx hi hz0 hz1 hz2
          simp only [Array.getD_eq_getD_getElem?] at d
          go_simp
          exact hK _ _ hJ'
      · as_aux_lemma =>
          intro a wx p vs hJ hdep hpi hval hfr K hK
          have h5 := hdep 5 (by kernel_rfl)
          have d : a.tmps.getD 29 undef = (.slice (some ad) k c) := (hval 5 _ 29 h5 (by rfl) rfl).trans (hJ.v5 h5)
          have hJ' := hJ.put6 h5
          clear hval hfr hdep hJ HT3 HB3 HO3 HSz HL3 HRB hKx hi hz0 hz1 hz2
          simp only [Array.getD_eq_getD_getElem?] at d
          go_simp
          exact hK _ _ hJ'
      · as_aux_lemma =>
          intro a wx p vs hJ hdep hpi hval hfr K hK
          have h3 := hdep 3 (by kernel_rfl)
          have h6 := hdep 6 (by kernel_rfl)
          obtain ⟨gg, cc, e3, hcc, hJ'⟩ := hJ.put7 h3 h6 hpi
          have d3 : a.tmps.getD 27 undef = .slice (some ⟨gg, 0, none⟩) (k + 1) cc := (hval 3 _ 27 h3 (by rfl) rfl).trans e3
          have d6 : a.tmps.getD 30 undef = .int .i64 k := (hval 6 _ 30 h6 (by rfl) rfl).trans (hJ.v6 h6)
          have i1 : (k : Int) ≤ (cc : Int) := by omega
          clear hval hfr hdep hJ HT3 HB3 HO3 HSz HL3 HRB hKx hi hz0 hz1 hz2 hcc e3
          simp only [Array.getD_eq_getD_getElem?] at d3 d6
          go_simp
          exact hK _ _ hJ'
      · as_aux_lemma =>
          intro a wx p vs hJ hdep hpi hval hfr K hK
          have h7 := hdep 7 (by kernel_rfl)
          have d : a.tmps.getD 31 undef = vs 7 := hval 7 _ 31 h7 (by rfl) rfl
          have hJ' := hJ.put8 h7
          obtain ⟨gg, cc, _, _, _, _, _, e7, _⟩ := hJ.x2 (hJ.o7 h7)
          rw [e7 h7] at d hJ'
          exact step_value (v := .agg #[.slice (some ⟨gg, 0, none⟩) k cc]) (w' := wx) rfl (fun _ _ h => by cases h) (rho [(31, .slice (some ⟨gg, 0, none⟩) k cc)]) (rho_of (by intro q hm; simp only [List.mem_cons, List.not_mem_nil, or_false] at hm; rcases hm with rfl; exact d) (by kernel_rfl)) (by kernel_rfl) (hK _ _ hJ')
      · as_aux_lemma =>
          intro a wx p vs hJ hdep hpi hval hfr K hK
          have h8 := hdep 8 (by kernel_rfl)
          obtain ⟨gg, cc, e8, hJ'⟩ := hJ.put9 h8 hpi
          have d8 : a.tmps.getD 32 undef = .agg #[.slice (some ⟨gg, 0, none⟩) k cc] := (hval 8 _ 32 h8 (by rfl) rfl).trans e8
          have d2 : a.tmps.getD 2 undef = .pointer (some ⟨w.heap.size + 1, 0, none⟩) := hfr 2 (by kernel_rfl)
          have htw := (hJ.tw hpi).2
          have hc : wx.cell? ⟨w.heap.size + 1, 0, none⟩ = some (.slice none 0 0) := by simp only [World.cell?, htw]; rfl
          have hf : wx.frozen? ⟨w.heap.size + 1, 0, none⟩ = false := by simp [World.frozen?, htw]
          have hJ2 := fun v => hK v _ (hJ' v)
          clear hval hfr hdep hJ HT3 HB3 HO3 HSz HL3 HRB hKx hi hz0 hz1 hz2 e8 hJ' hK htw
          simp only [Array.getD_eq_getD_getElem?] at d8 d2
          go_simp
          exact hJ2 undef
      · intro vs w' hJ
        obtain ⟨gg, cc, W3, e3, hcc, ho3, hg3, hq7, hq9, hq10⟩ := hJ.x2 (by decide)
        have hw := hq10 (by decide)
        clear hq7 hq9 hq10
        have hO := HO3.out.drew.alloc (.cells mk7.toArray 28)
        have hk28 := own_kt hO hg3 (t := 24) (by decide)
        have hup : Below wr.heap.size wr (wr.drew.alloc (.cells mk7.toArray 28)) := (Below.refl _ wr).drew.alloc (Nat.le_refl _) _
        have hr28 : W3.heap[w.heap.size + 1]? = some (.cells #[.slice none 0 0] 24 (0, 0)) := hk28 _ _ _ ((hup.block _ (Array.getElem?_eq_some_iff.1 HT3.out.2).1).trans HT3.out.2)
        have hbut : But g0 (wr.drew.alloc (.cells mk7.toArray 28)) W3 := fun b hb o ho => (hg3.block b (Array.getElem?_eq_some_iff.1 ho).1 (fun e => hb (by simpa [Value.ownBlock] using e))).trans ho
        have hcl : W3.cell? ⟨w.heap.size + 1, 0, none⟩ ≠ some (.int .i64 (-8)) := by
          simp only [World.cell?, hr28]
          intro e
          cases e
        have HE : Hid (LPs w' w.heap.size (.slice (some ⟨gg, 0, none⟩) k cc) (.slice (some ad) k c) xs ∧ Below w.heap.size w w' ∧ w'.cell? ⟨w.heap.size + 1, 0, none⟩ = some (.slice (some ⟨gg, 0, none⟩) k cc)) := by
          subst hw
          refine ⟨.inr ⟨⟨ad, c, by rw [HN.out]⟩, gg, cc, es, by rw [HN.out], by rw [HN.out]; exact hcc, HL3.out.1.trans HN.out.symm, ?_, fun j h1 h2 => ?_⟩, ?_, ?_⟩
          · rw [HN.out, fr_append]
            exact Joins.ownsRow_le (own_kept_t ho3 (KT.set _ _ _ _ (fun cs m e => by rw [hr28] at e; injection e with e; injection e with _ e2 _; cases e2))) HSz.out.2
          · have a1 := (HL3.out.2 j h1 h2).below hup (Nat.le_refl _)
            have a2 := a1.but hbut (HRB.out _)
            exact (a2.but28 (but_set W3 _ _) ⟨_, _, hr28⟩ hcl).le HSz.out.2
          · exact (((HB3.out.trans (hup.mono HB3.out.size)).grown hg3 (by have := HB3.out.size; have h2 := hup.size; omega) (fun b hb => by have := (hO.lt b hb).1; have h2 := HSz.out.2; omega))).setCell (p := ⟨w.heap.size + 1, 0, none⟩) (Nat.le_succ _) _
          · have := cells_setS (j := 0) (u := .slice (some ⟨gg, 0, none⟩) k cc) hr28
            simp only [World.cell?, this]
            rfl
        clear hO hk28 hup hr28 hbut hcl ho3 hg3 hJ hw e3 hcc HT3 HB3 HO3 HSz HL3 HRB hi hz0 hz1 hz2
        rw [putL_eq]
        simp only [putsL, List.set_cons_zero, List.set_cons_succ, Nat.zero_add, Nat.reduceAdd]
        generalize vs 0 = x0
        generalize vs 1 = x1
        generalize vs 2 = x2
        generalize vs 3 = x3
        generalize vs 4 = x4
        generalize vs 5 = x5
        generalize vs 6 = x6
        generalize vs 7 = x7
        generalize vs 8 = x8
        clear vs
        refine hKx _ _ ?_
        clear hKx
        go_wp2
        exact ret_ps (p := 2) (B := w.heap.size + 1) (v := .slice (some ⟨gg, 0, none⟩) k cc) rfl rfl HE.out.2.2 ⟨_, rfl, HE.out.1, HE.out.2.1⟩
/-- a rule that came in, with all its values -/
structure RI where
  r : Rl
  av : Value
  kv : Value
  pv : Value
  rv : Value
  sa : List Value
  sk : List Value
  sp : List Value
  tv : List Value
/-- a rule's value -/
def lval (r : Rl) (a k p q : Value) : Value := .agg #[.bool r.bg, a, k, p, .bool r.en, q, .int .i64 r.cu]
def RI.In (x : RI) (w : World) : Prop := RRv w x.av x.kv x.pv x.rv x.sa x.sk x.sp x.tv x.r
theorem RI.In.below {x : RI} {w w' : World} {n : Nat} (h : x.In w) (hb : Below n w w') (hn : w.heap.size ≤ n) : x.In w' := RRv.below h hb hn
/-- what was lent of it -/
def RI.Lent (x : RI) (W : World) (base : Nat) (a k p q : Value) : Prop := LRl W base a k p q x.av x.kv x.pv x.rv x.sa x.sk x.sp x.tv x.r
theorem RI.Lent.below {x : RI} {W W' : World} {base n : Nat} {a k p q : Value} (h : x.Lent W base a k p q) (hb : Below n W W') (hn : W.heap.size ≤ n) : x.Lent W' base a k p q := LRl.below h hb hn
theorem RI.Lent.rr {x : RI} {W w : World} {base : Nat} {a k p q : Value} (h : x.Lent W base a k p q) (hi : x.In w) : RR W a k p q x.r := LRl.rr h hi
/-- one block turns -/
def Turns (B : Nat) (W W' : World) : Prop := ∀ b, b ≠ B → W'.heap[b]? = W.heap[b]?
theorem turns_set (W : World) (B j : Nat) (u : Value) : Turns B W (W.setCell ⟨B, j, none⟩ u) := fun b hb => by
  show (W.heap.modify B _)[b]? = _
  rw [Array.getElem?_modify, if_neg (fun e => hb e.symm)]
theorem Turns.trans {B : Nat} {W W1 W2 : World} (h : Turns B W W1) (k : Turns B W1 W2) : Turns B W W2 := fun b hb => (k b hb).trans (h b hb)
theorem ownsRow_turn {W W' : World} {B base : Nat} {e : TypeId} {size m : Nat} {v : Value} {xs : List Value} {cs : Array Value} {mm : Nat × Nat} (h : W.ownsRow base e size v m xs) (hB : W.heap[B]? = some (.cells cs 28 mm)) (he : e ≠ 28) (k : Turns B W W') : W'.ownsRow base e size v m xs := by
  refine ⟨h.1, ?_⟩
  rcases h.2 with h | ⟨g, cap, cur, e1, h1, h2, h3⟩
  · exact .inl h
  · refine .inr ⟨g, cap, cur, e1, h1, (k g ?_).trans h2, h3⟩
    rintro rfl
    rw [hB] at h2
    cases h2
    exact he rfl
section
variable {W W' : World} {B base : Nat} {cs : Array Value} {mm : Nat × Nat}
theorem LS.turn {ov sv : Value} {l : List (Int × Int)} (h : LS W base ov sv l) (hB : W.heap[B]? = some (.cells cs 28 mm)) (k : Turns B W W') : LS W' base ov sv l := by
  rcases h with h | ⟨h1, g, cap, h2, h3, h4⟩
  · exact .inl h
  · exact .inr ⟨h1, g, cap, h2, h3, ownsRow_turn h4 hB (by decide) k⟩
theorem LR.turn {ov v : Value} {svs : List Value} {ls : List (List (Int × Int))} (h : LR W base ov v svs ls) (hB : W.heap[B]? = some (.cells cs 28 mm)) {x : Bool} (h0 : cs[0]? = some (.bool x)) (k : Turns B W W') : LR W' base ov v svs ls := by
  rcases h with h | ⟨h1, g, cap, ovs, gm, h2, h3, h4, h5, h6, hgm, h7⟩
  · exact .inl h
  · refine .inr ⟨h1, g, cap, ovs, gm, h2, h3, h4, ownsRow_turn h5 hB (by decide) k, ?_, hgm, fun j a b c => (h7 j a b c).turn hB k⟩
    have hne : gm ≠ B := by
      rintro rfl
      simp only [World.cell?, hB] at h6
      simp [h0] at h6
    have := k gm hne
    simp only [World.cell?] at h6 ⊢
    rw [this]
    exact h6
theorem LP.turn {ov v : Value} {tvs : List Value} {ps : List Pc} (h : LP W base ov v tvs ps) (hB : W.heap[B]? = some (.cells cs 28 mm)) (k : Turns B W W') : LP W' base ov v tvs ps := by
  rcases h with h | ⟨h1, g, cap, es, h2, h3, h4, h5, h6⟩
  · exact .inl h
  · exact .inr ⟨h1, g, cap, es, h2, h3, h4, ownsRow_turn h5 hB (by decide) k, fun j a b => (h6 j a b).turn hB k⟩
theorem RI.Lent.turn {x : RI} {a k p q : Value} (h : x.Lent W base a k p q) (hB : W.heap[B]? = some (.cells cs 28 mm)) {y : Bool} (h0 : cs[0]? = some (.bool y)) (t : Turns B W W') : x.Lent W' base a k p q := ⟨h.a.turn hB h0 t, h.k.turn hB h0 t, h.p.turn hB h0 t, h.r.turn hB t⟩
end
def zeroC : Array Value := #[.bool false, .slice none 0 0, .slice none 0 0, .slice none 0 0, .bool false, .slice none 0 0, .int .i64 0]
def rcA (r : Rl) (a k p q : Value) : Array Value := #[.bool r.bg, a, k, p, .bool r.en, q, .int .i64 r.cu]
/-- a rule is stored into a block -/
def set7 (W : World) (B : Nat) (r : Rl) (a k p q : Value) : World := ((((((W.setCell ⟨B, 0, none⟩ (.bool r.bg)).setCell ⟨B, 1, none⟩ a).setCell ⟨B, 2, none⟩ k).setCell ⟨B, 3, none⟩ p).setCell ⟨B, 4, none⟩ (.bool r.en)).setCell ⟨B, 5, none⟩ q).setCell ⟨B, 6, none⟩ (.int .i64 r.cu)
theorem set7_turns (W : World) (B : Nat) (r : Rl) (a k p q : Value) : Turns B W (set7 W B r a k p q) := ((((((turns_set _ _ _ _).trans (turns_set _ _ _ _)).trans (turns_set _ _ _ _)).trans (turns_set _ _ _ _)).trans (turns_set _ _ _ _)).trans (turns_set _ _ _ _)).trans (turns_set _ _ _ _)
theorem set7_below {w W : World} {n B : Nat} (h : Below n w W) (hB : n ≤ B) (r : Rl) (a k p q : Value) : Below n w (set7 W B r a k p q) :=
  ((((((h.setCell (p := ⟨B, 0, none⟩) hB _).setCell (p := ⟨B, 1, none⟩) hB _).setCell (p := ⟨B, 2, none⟩) hB _).setCell (p := ⟨B, 3, none⟩) hB _).setCell (p := ⟨B, 4, none⟩) hB _).setCell (p := ⟨B, 5, none⟩) hB _).setCell (p := ⟨B, 6, none⟩) hB _
theorem set7_heap {W : World} {B : Nat} (h : W.heap[B]? = some (.cells zeroC 28 (0, 0))) (r : Rl) (a k p q : Value) : (set7 W B r a k p q).heap[B]? = some (.cells (rcA r a k p q) 28 (0, 0)) := by
  have v0 : W.heap[B]? = some (.cells #[.bool false, .slice none 0 0, .slice none 0 0, .slice none 0 0, .bool false, .slice none 0 0, .int .i64 0] 28 (0, 0)) := h
  have v1 := cells_setS (j := 0) (u := .bool r.bg) v0
  have v2 := cells_setS (j := 1) (u := a) v1
  have v3 := cells_setS (j := 2) (u := k) v2
  have v4 := cells_setS (j := 3) (u := p) v3
  have v5 := cells_setS (j := 4) (u := .bool r.en) v4
  have v6 := cells_setS (j := 5) (u := q) v5
  have v7 := cells_setS (j := 6) (u := .int .i64 r.cu) v6
  simpa [set7, rcA] using v7
/-- a store of a rule -/
theorem step_store7 {ops : Array Oper} {o : Oper} {a : Act} {w : World} {K : Act → World → Prop} {Q : Exit → Act → World → Prop} {E : Prop} (hg : o.guard = none) (hd : o.dst = none) (i j : Tmp) (ho : o.op = .store 28 (.tmp i) (.tmp j)) (B : Nat) (r : Rl) (a1 k1 p1 q1 : Option Addr) (a2 a3 k2 k3 p2 p3 q2 q3 : Nat)
    (hp : a.tmps.getD i undef = .pointer (some ⟨B, 0, none⟩)) (hx : a.tmps.getD j undef = lval r (.slice a1 a2 a3) (.slice k1 k2 k3) (.slice p1 p2 p3) (.slice q1 q2 q3)) (hB : w.heap[B]? = some (.cells zeroC 28 (0, 0)))
    (h : ∀ v, K (a.put o.dst v) (set7 w B r (.slice a1 a2 a3) (.slice k1 k2 k3) (.slice p1 p2 p3) (.slice q1 q2 q3))) : if Region.wanted o (yielded ops a.tmps) = true then Oper.wp Tryd.prog o a w K Q else E := by
  have hw : Region.wanted o (yielded ops a.tmps) = true := by simp [Region.wanted, hg]
  rw [if_pos hw]
  have v0 : w.heap[B]? = some (.cells #[.bool false, .slice none 0 0, .slice none 0 0, .slice none 0 0, .bool false, .slice none 0 0, .int .i64 0] 28 (0, 0)) := hB
  have v1 : (w.setCell ⟨B, 0, none⟩ (.bool r.bg)).heap[B]? = some (.cells #[.bool r.bg, .slice none 0 0, .slice none 0 0, .slice none 0 0, .bool false, .slice none 0 0, .int .i64 0] 28 (0, 0)) := by simpa using cells_setS (j := 0) (u := .bool r.bg) v0
  have v2 : ((w.setCell ⟨B, 0, none⟩ (.bool r.bg)).setCell ⟨B, 1, none⟩ (.slice a1 a2 a3)).heap[B]? = some (.cells #[.bool r.bg, .slice a1 a2 a3, .slice none 0 0, .slice none 0 0, .bool false, .slice none 0 0, .int .i64 0] 28 (0, 0)) := by simpa using cells_setS (j := 1) (u := .slice a1 a2 a3) v1
  have v3 : (((w.setCell ⟨B, 0, none⟩ (.bool r.bg)).setCell ⟨B, 1, none⟩ (.slice a1 a2 a3)).setCell ⟨B, 2, none⟩ (.slice k1 k2 k3)).heap[B]? = some (.cells #[.bool r.bg, .slice a1 a2 a3, .slice k1 k2 k3, .slice none 0 0, .bool false, .slice none 0 0, .int .i64 0] 28 (0, 0)) := by simpa using cells_setS (j := 2) (u := .slice k1 k2 k3) v2
  have v4 : ((((w.setCell ⟨B, 0, none⟩ (.bool r.bg)).setCell ⟨B, 1, none⟩ (.slice a1 a2 a3)).setCell ⟨B, 2, none⟩ (.slice k1 k2 k3)).setCell ⟨B, 3, none⟩ (.slice p1 p2 p3)).heap[B]? = some (.cells #[.bool r.bg, .slice a1 a2 a3, .slice k1 k2 k3, .slice p1 p2 p3, .bool false, .slice none 0 0, .int .i64 0] 28 (0, 0)) := by simpa using cells_setS (j := 3) (u := .slice p1 p2 p3) v3
  have v5 : (((((w.setCell ⟨B, 0, none⟩ (.bool r.bg)).setCell ⟨B, 1, none⟩ (.slice a1 a2 a3)).setCell ⟨B, 2, none⟩ (.slice k1 k2 k3)).setCell ⟨B, 3, none⟩ (.slice p1 p2 p3)).setCell ⟨B, 4, none⟩ (.bool r.en)).heap[B]? = some (.cells #[.bool r.bg, .slice a1 a2 a3, .slice k1 k2 k3, .slice p1 p2 p3, .bool r.en, .slice none 0 0, .int .i64 0] 28 (0, 0)) := by simpa using cells_setS (j := 4) (u := .bool r.en) v4
  have v6 : ((((((w.setCell ⟨B, 0, none⟩ (.bool r.bg)).setCell ⟨B, 1, none⟩ (.slice a1 a2 a3)).setCell ⟨B, 2, none⟩ (.slice k1 k2 k3)).setCell ⟨B, 3, none⟩ (.slice p1 p2 p3)).setCell ⟨B, 4, none⟩ (.bool r.en)).setCell ⟨B, 5, none⟩ (.slice q1 q2 q3)).heap[B]? = some (.cells #[.bool r.bg, .slice a1 a2 a3, .slice k1 k2 k3, .slice p1 p2 p3, .bool r.en, .slice q1 q2 q3, .int .i64 0] 28 (0, 0)) := by simpa using cells_setS (j := 5) (u := .slice q1 q2 q3) v5
  have v7 : (((((((w.setCell ⟨B, 0, none⟩ (.bool r.bg)).setCell ⟨B, 1, none⟩ (.slice a1 a2 a3)).setCell ⟨B, 2, none⟩ (.slice k1 k2 k3)).setCell ⟨B, 3, none⟩ (.slice p1 p2 p3)).setCell ⟨B, 4, none⟩ (.bool r.en)).setCell ⟨B, 5, none⟩ (.slice q1 q2 q3)).setCell ⟨B, 6, none⟩ (.int .i64 r.cu)).heap[B]? = some (.cells #[.bool r.bg, .slice a1 a2 a3, .slice k1 k2 k3, .slice p1 p2 p3, .bool r.en, .slice q1 q2 q3, .int .i64 r.cu] 28 (0, 0)) := by simpa using cells_setS (j := 6) (u := .int .i64 r.cu) v6
  have g0 : w.cell? ⟨B, 0, none⟩ = some (.bool false) := by simp only [World.cell?, v0]; rfl
  have k0' : w.frozen? ⟨B, 0, none⟩ = false := by simp [World.frozen?, v0]
  have g1 : (w.setCell ⟨B, 0, none⟩ (.bool r.bg)).cell? ⟨B, 1, none⟩ = some (.slice none 0 0) := by simp only [World.cell?, v1]; rfl
  have k1' : (w.setCell ⟨B, 0, none⟩ (.bool r.bg)).frozen? ⟨B, 1, none⟩ = false := by simp [World.frozen?, v1]
  have g2 : ((w.setCell ⟨B, 0, none⟩ (.bool r.bg)).setCell ⟨B, 1, none⟩ (.slice a1 a2 a3)).cell? ⟨B, 2, none⟩ = some (.slice none 0 0) := by simp only [World.cell?, v2]; rfl
  have k2' : ((w.setCell ⟨B, 0, none⟩ (.bool r.bg)).setCell ⟨B, 1, none⟩ (.slice a1 a2 a3)).frozen? ⟨B, 2, none⟩ = false := by simp [World.frozen?, v2]
  have g3 : (((w.setCell ⟨B, 0, none⟩ (.bool r.bg)).setCell ⟨B, 1, none⟩ (.slice a1 a2 a3)).setCell ⟨B, 2, none⟩ (.slice k1 k2 k3)).cell? ⟨B, 3, none⟩ = some (.slice none 0 0) := by simp only [World.cell?, v3]; rfl
  have k3' : (((w.setCell ⟨B, 0, none⟩ (.bool r.bg)).setCell ⟨B, 1, none⟩ (.slice a1 a2 a3)).setCell ⟨B, 2, none⟩ (.slice k1 k2 k3)).frozen? ⟨B, 3, none⟩ = false := by simp [World.frozen?, v3]
  have g4 : ((((w.setCell ⟨B, 0, none⟩ (.bool r.bg)).setCell ⟨B, 1, none⟩ (.slice a1 a2 a3)).setCell ⟨B, 2, none⟩ (.slice k1 k2 k3)).setCell ⟨B, 3, none⟩ (.slice p1 p2 p3)).cell? ⟨B, 4, none⟩ = some (.bool false) := by simp only [World.cell?, v4]; rfl
  have k4' : ((((w.setCell ⟨B, 0, none⟩ (.bool r.bg)).setCell ⟨B, 1, none⟩ (.slice a1 a2 a3)).setCell ⟨B, 2, none⟩ (.slice k1 k2 k3)).setCell ⟨B, 3, none⟩ (.slice p1 p2 p3)).frozen? ⟨B, 4, none⟩ = false := by simp [World.frozen?, v4]
  have g5 : (((((w.setCell ⟨B, 0, none⟩ (.bool r.bg)).setCell ⟨B, 1, none⟩ (.slice a1 a2 a3)).setCell ⟨B, 2, none⟩ (.slice k1 k2 k3)).setCell ⟨B, 3, none⟩ (.slice p1 p2 p3)).setCell ⟨B, 4, none⟩ (.bool r.en)).cell? ⟨B, 5, none⟩ = some (.slice none 0 0) := by simp only [World.cell?, v5]; rfl
  have k5' : (((((w.setCell ⟨B, 0, none⟩ (.bool r.bg)).setCell ⟨B, 1, none⟩ (.slice a1 a2 a3)).setCell ⟨B, 2, none⟩ (.slice k1 k2 k3)).setCell ⟨B, 3, none⟩ (.slice p1 p2 p3)).setCell ⟨B, 4, none⟩ (.bool r.en)).frozen? ⟨B, 5, none⟩ = false := by simp [World.frozen?, v5]
  have g6 : ((((((w.setCell ⟨B, 0, none⟩ (.bool r.bg)).setCell ⟨B, 1, none⟩ (.slice a1 a2 a3)).setCell ⟨B, 2, none⟩ (.slice k1 k2 k3)).setCell ⟨B, 3, none⟩ (.slice p1 p2 p3)).setCell ⟨B, 4, none⟩ (.bool r.en)).setCell ⟨B, 5, none⟩ (.slice q1 q2 q3)).cell? ⟨B, 6, none⟩ = some (.int .i64 0) := by simp only [World.cell?, v6]; rfl
  have k6' : ((((((w.setCell ⟨B, 0, none⟩ (.bool r.bg)).setCell ⟨B, 1, none⟩ (.slice a1 a2 a3)).setCell ⟨B, 2, none⟩ (.slice k1 k2 k3)).setCell ⟨B, 3, none⟩ (.slice p1 p2 p3)).setCell ⟨B, 4, none⟩ (.bool r.en)).setCell ⟨B, 5, none⟩ (.slice q1 q2 q3)).frozen? ⟨B, 6, none⟩ = false := by simp [World.frozen?, v6]
  have hh : ∀ v, K (a.put o.dst v) (((((((w.setCell ⟨B, 0, none⟩ (.bool r.bg)).setCell ⟨B, 1, none⟩ (.slice a1 a2 a3)).setCell ⟨B, 2, none⟩ (.slice k1 k2 k3)).setCell ⟨B, 3, none⟩ (.slice p1 p2 p3)).setCell ⟨B, 4, none⟩ (.bool r.en)).setCell ⟨B, 5, none⟩ (.slice q1 q2 q3)).setCell ⟨B, 6, none⟩ (.int .i64 r.cu)) := h
  unfold lval at hx
  clear v0 v1 v2 v3 v4 v5 v6 v7 hB hw h
  obtain ⟨dst, op, type, pos, after, guard⟩ := o
  simp only at ho hg hd hh
  subst ho hg hd
  simp only [Array.getD_eq_getD_getElem?] at hp hx
  go_simp
  exact hh undef

theorem LPs.sl {W : World} {base : Nat} {ov v : Value} {xs : List RV} (h : LPs W base ov v xs) : IsSl ov := by
  rcases h with ⟨_, e, _⟩ | ⟨_, g, cap, es, e, _⟩
  · exact ⟨_, _, _, e⟩
  · exact ⟨_, _, _, e⟩
theorem LPs.le {W : World} {base base' : Nat} {ov v : Value} {xs : List RV} (h : LPs W base ov v xs) (hb : base' ≤ base) : LPs W base' ov v xs := by
  rcases h with h | ⟨h1, g, cap, es, h2, h3, h4, h5, h6⟩
  · exact .inl h
  · exact .inr ⟨h1, g, cap, es, h2, h3, h4, Joins.ownsRow_le h5 hb, fun j a b => (h6 j a b).le hb⟩
theorem LPs.but28 {g : Nat} {W W' : World} {base : Nat} {ov v : Value} {xs : List RV} (h : LPs W base ov v xs) (k : But g W W') (ht : ∃ cur m, W.heap[g]? = some (.cells cur 24 m)) (hc : W.cell? ⟨g, 0, none⟩ ≠ some (.int .i64 (-8))) : LPs W' base ov v xs := by
  rcases h with h | ⟨h1, g1, cap, es, h2, h3, h4, h5, h6⟩
  · exact .inl h
  · refine .inr ⟨h1, g1, cap, es, h2, h3, h4, own_kept_t h5 (fun b cs m hb => ?_), fun j a b => (h6 j a b).but28 k ht hc⟩
    refine k b (fun e => ?_) _ hb
    subst e
    obtain ⟨cur, m', h7⟩ := ht
    rw [h7] at hb
    injection hb with hb
    injection hb with _ h8 _
    cases h8
theorem LEl.turn {W W' : World} {B base : Nat} {cs : Array Value} {mm : Nat × Nat} {e : Rw} {x : RV} (h : LEl W base e x) (hB : W.heap[B]? = some (.cells cs 28 mm)) {y : Bool} (h0 : cs[0]? = some (.bool y)) (t : Turns B W W') : LEl W' base e x :=
  ⟨h.bg, h.en, h.cu, h.l.a.turn hB h0 t, h.l.k.turn hB h0 t, h.l.p.turn hB h0 t, h.l.r.turn hB t⟩
theorem LPs.turn {W W' : World} {B base : Nat} {ov v : Value} {xs : List RV} (h : LPs W base ov v xs) (hB : W.heap[B]? = some (.cells zeroC 28 (0, 0))) (t : Turns B W W') : LPs W' base ov v xs := by
  rcases h with h | ⟨h1, g, cap, es, h2, h3, h4, h5, h6⟩
  · exact .inl h
  · refine .inr ⟨h1, g, cap, es, h2, h3, h4, ⟨h5.1, ?_⟩, fun j a b => (h6 j a b).turn hB rfl t⟩
    rcases h5.2 with ⟨e, _⟩ | ⟨g', cap', cur, e, k1, k2, k3, k4, k5, k6⟩
    · cases e
    · refine .inr ⟨g', cap', cur, e, k1, (t g' (fun e2 => ?_)).trans k2, k3, k4, k5, k6⟩
      subst e2
      rw [hB] at k2
      injection k2 with k2
      injection k2 with k2 _ _
      subst k2
      have hz : zeroC.size = 7 := rfl
      rw [hz] at k5
      have hx0 : xs.length = 0 := by omega
      rw [hx0] at k6
      have he0 : es = [] := List.eq_nil_of_length_eq_zero (by omega)
      rw [he0] at k6
      cases k6
theorem LPs.psr {W w : World} {base : Nat} {ov v : Value} {xs : List RV} (h : LPs W base ov v xs) (hv : PsV w v xs) : PsR W ov (xs.map RV.r) := by
  rcases h with ⟨_, rfl, rfl⟩ | ⟨_, g, cap, es, rfl, h3, h4, h5, h6⟩
  · exact ⟨none, 0, rfl, Nat.le_refl _, .inl rfl⟩
  · refine ⟨_, cap, by simp, by simp; omega, .inr ⟨g, 0, rfl, fun j hj => ?_⟩⟩
    have hj' : j < xs.length := by simpa using hj
    have hje : j < es.length := by omega
    obtain ⟨k0, k1, k2, k3, k4, k5, k6⟩ := lr_cells h5 hje
    have hl := h6 j hje hj'
    rw [hl.bg] at k0
    rw [hl.en] at k4
    rw [hl.cu] at k6
    rw [List.getElem_map, Nat.zero_add]
    exact ⟨_, _, _, _, k0, k1, k2, k3, k4, k5, k6, hl.l.rr (hv.el j hj')⟩
theorem lentPass_any (v : Value) (xs : List RV) (w : World) (hr : PsV w v xs) (hn : xs.length ≤ 1048576) (hs : ∀ x ∈ xs, Sm x.r) :
    Calls Tryd.prog 8 #[.agg #[v]] w fun e w' => ∃ ov, e = .returned (.agg #[ov]) ∧ LPs w' w.heap.size ov v xs ∧ Below w.heap.size w w' := by
  rcases hr.nil with rfl | ⟨ad, n, c, rfl⟩
  · have hx : xs = [] := by
      obtain ⟨a, cap, e, _⟩ := hr.cell
      injection e with _ e2 _
      exact List.eq_nil_of_length_eq_zero e2.symm
    refine (lentPass_nil w).mono ?_
    rintro e w' ⟨rfl, hg⟩
    exact ⟨_, rfl, .inl ⟨rfl, rfl, hx⟩, hg.below⟩
  · obtain rfl : n = xs.length := by
      obtain ⟨a, cap, e, _⟩ := hr.cell
      injection e with _ e2 _
    exact lentPass_some ad c xs w hr hn hs
end Go.Proofs
