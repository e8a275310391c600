/-
  A pass is lent: what lies where, the walk, what keeps it, and how it reads.
-/
import Derived.RangeFuncNested
import Derived.RangeFuncBound
import Derived.RangeFuncCalls
import Derived.RangeFuncLeaves
import Derived.Shelf.Abstract
import Derived.Shelf.RegionOpen
import Derived.WalkKit
import Derived.WalkSpells
import Derived.WalkLawsBesides
import Derived.OwnWalkIn
import Derived.TacticsInMore
import Derived.LoopNIn
import Derived.LoopIn
import Derived.BigQuiet
import Derived.RegionIn
import Derived.Deep.QuietTactic
import Derived.Deep.RegionWith
import Derived.Lib.OthersKept
import Derived.Maps.AppendAt
import Derived.Lib.SmallJoins
import Derived.Shelf.SlSortCmp.QuietGrown
import Derived.Deep.AppendLies
import Derived.Test.YtcfjdijmobgbpaaDoorQg
import Derived.Test.YtcfjdijmobgbpaaDoorGi
import Derived.Test.YtcfjdijmobgbpaaDoorTh
namespace Go.Proofs
open Go.RowKit Go.Shelf

set_option maxRecDepth 100000
attribute [local go_sem] Oper.semAt_some
attribute [local go_sem ↓] Go.wp_at_zero Go.wp_at_succ

theorem LEl.below {W W' : World} {base n : Nat} {e : Rw} {x : RV} (h : LEl W base e x) (hb : Below n W W') (hn : W.heap.size ≤ n) : LEl W' base e x := ⟨h.bg, h.en, h.cu, h.l.below hb hn⟩
theorem LEl.le {W : World} {base base' : Nat} {e : Rw} {x : RV} (h : LEl W base e x) (hb : base' ≤ base) : LEl W base' e x := ⟨h.bg, h.en, h.cu, h.l.le hb⟩
/-- how far lentPass is -/
def LI5 (w2 : World) (xs : List RV) (k : Nat) (va : Value) (W : World) : Prop :=
  ∃ g c es, va = .slice (some ⟨g, 0, none⟩) k c ∧ (k = 0 → c = 0) ∧ es.length = k ∧ W.ownsRow w2.heap.size 25 7 va k (fr es) ∧ (∀ (j : Nat) (h1 : j < es.length) (h2 : j < xs.length), LEl W w2.heap.size es[j] xs[j]) ∧ Below w2.heap.size w2 W
theorem cells7 (W : World) (xb xe : Bool) (b c d f : Value) (xc : Int) (t : TypeId) (i : Nat) (u : Value) (h : (fr1 ⟨xb, b, c, d, xe, f, xc⟩)[i]? = some u) : (W.alloc (.cells #[.bool xb, b, c, d, .bool xe, f, .int .i64 xc] t)).cell? ⟨W.heap.size, i, none⟩ = some u := by
  refine cell_new rfl ?_
  simpa [fr1] using h
def mk7 : List Value := [.bool false, .slice none 0 0, .slice none 0 0, .slice none 0 0, .bool false, .slice none 0 0, .int .i64 (-9)]
/-- the blocks of the pass that came in, and of the one that goes out -/
def Two (b1 rb : Nat) (pv : Value) (W : World) : Prop := W.heap[b1]? = some (.cells #[pv] 28 (0, 0)) ∧ W.heap[rb]? = some (.cells #[.slice none 0 0] 28 (0, 0))
structure LJ (w0 : World) (B b1 rb : Nat) (pv va : Value) (n : Nat) (xs : List Value) (p : Nat → Bool) (vs : Nat → Value) (W : World) : Prop where
  v0 : p 0 = true → vs 0 = va
  v1 : p 1 = true → vs 1 = .agg mk7.toArray
  v2 : p 2 = true → vs 2 = .slice (some ⟨w0.heap.size, 0, none⟩) 1 1
  v4 : p 4 = true → vs 4 = .pointer (some ⟨b1, 0, none⟩)
  v5 : p 5 = true → vs 5 = pv
  v6 : p 6 = true → vs 6 = .int .i64 n
  v8 : p 8 = true → vs 8 = .agg #[vs 7]
  x0 : p 2 = false → W = w0.drew
  x1 : p 2 = true → p 3 = false → W = w0.drew.alloc (.cells mk7.toArray 25)
  x2 : p 3 = true → ∃ g c W3, vs 3 = .slice (some ⟨g, 0, none⟩) (n + 1) c ∧ n + 1 ≤ c ∧ W3.ownsRow B 25 7 (.slice (some ⟨g, 0, none⟩) (n + 1) c) (n + 1) (xs ++ mk7) ∧ (w0.drew.alloc (.cells mk7.toArray 25)).grownBy W3 va.ownBlock ∧ (p 7 = true → vs 7 = .slice (some ⟨g, 0, none⟩) n c) ∧ (p 9 = false → W = W3) ∧ (p 9 = true → W = W3.setCell ⟨rb, 0, none⟩ (.slice (some ⟨g, 0, none⟩) n c))
  tw : p 9 = false → Two b1 rb pv W
  o3 : p 3 = true → p 2 = true
  o7 : p 7 = true → p 3 = true
  o5 : p 6 = true → p 5 = true
  o7' : p 7 = true → p 6 = true
  o8 : p 8 = true → p 7 = true
  o9 : p 9 = true → p 8 = true
section
variable {w0 : World} {B b1 rb : Nat} {pv va : Value} {n : Nat} {xs : List Value} {p : Nat → Bool} {vs : Nat → Value} {W : World}
theorem LJ.start (h : Two b1 rb pv w0) : LJ w0 B b1 rb pv va n xs (fun _ => false) (fun _ => undef) w0.drew :=
  ⟨by simp, by simp, by simp, by simp, by simp, by simp, by simp, fun _ => rfl, by simp, by simp, fun _ => h, by simp, by simp, by simp, by simp, by simp, by simp⟩
theorem LJ.n3 (h : LJ w0 B b1 rb pv va n xs p vs W) (h2 : p 2 = false) : p 3 = false := by
  cases e : p 3 with
  | false => rfl
  | true => have := h.o3 e; rw [h2] at this; cases this
theorem LJ.n7 (h : LJ w0 B b1 rb pv va n xs p vs W) (h3 : p 3 = false) : p 7 = false := by
  cases e : p 7 with
  | false => rfl
  | true => have := h.o7 e; rw [h3] at this; cases this
theorem LJ.n8 (h : LJ w0 B b1 rb pv va n xs p vs W) (h7 : p 7 = false) : p 8 = false := by
  cases e : p 8 with
  | false => rfl
  | true => have := h.o8 e; rw [h7] at this; cases this
theorem LJ.n9 (h : LJ w0 B b1 rb pv va n xs p vs W) (h8 : p 8 = false) : p 9 = false := by
  cases e : p 9 with
  | false => rfl
  | true => have := h.o9 e; rw [h8] at this; cases this
theorem LJ.put0 (h : LJ w0 B b1 rb pv va n xs p vs W) : LJ w0 B b1 rb pv va n xs (fun j => p j || j == 0) (fun j => if j = 0 then va else vs j) W :=
  ⟨fun _ => rfl, by simpa using h.v1, by simpa using h.v2, by simpa using h.v4, by simpa using h.v5, by simpa using h.v6, by simpa using h.v8, by simpa using h.x0, by simpa using h.x1, by simpa using h.x2, by simpa using h.tw, by simpa using h.o3, by simpa using h.o7, by simpa using h.o5, by simpa using h.o7', by simpa using h.o8, by simpa using h.o9⟩
theorem LJ.put1 (h : LJ w0 B b1 rb pv va n xs p vs W) : LJ w0 B b1 rb pv va n xs (fun j => p j || j == 1) (fun j => if j = 1 then .agg mk7.toArray else vs j) W :=
  ⟨by simpa using h.v0, fun _ => rfl, by simpa using h.v2, by simpa using h.v4, by simpa using h.v5, by simpa using h.v6, by simpa using h.v8, by simpa using h.x0, by simpa using h.x1, by simpa using h.x2, by simpa using h.tw, by simpa using h.o3, by simpa using h.o7, by simpa using h.o5, by simpa using h.o7', by simpa using h.o8, by simpa using h.o9⟩
theorem LJ.put4 (h : LJ w0 B b1 rb pv va n xs p vs W) : LJ w0 B b1 rb pv va n xs (fun j => p j || j == 4) (fun j => if j = 4 then .pointer (some ⟨b1, 0, none⟩) else vs j) W :=
  ⟨by simpa using h.v0, by simpa using h.v1, by simpa using h.v2, fun _ => rfl, by simpa using h.v5, by simpa using h.v6, by simpa using h.v8, by simpa using h.x0, by simpa using h.x1, by simpa using h.x2, by simpa using h.tw, by simpa using h.o3, by simpa using h.o7, by simpa using h.o5, by simpa using h.o7', by simpa using h.o8, by simpa using h.o9⟩
theorem LJ.put5 (h : LJ w0 B b1 rb pv va n xs p vs W) : LJ w0 B b1 rb pv va n xs (fun j => p j || j == 5) (fun j => if j = 5 then pv else vs j) W :=
  ⟨by simpa using h.v0, by simpa using h.v1, by simpa using h.v2, by simpa using h.v4, fun _ => rfl, by simpa using h.v6, by simpa using h.v8, by simpa using h.x0, by simpa using h.x1, by simpa using h.x2, by simpa using h.tw, by simpa using h.o3, by simpa using h.o7, fun _ => by simp, by simpa using h.o7', by simpa using h.o8, by simpa using h.o9⟩
theorem LJ.put6 (h : LJ w0 B b1 rb pv va n xs p vs W) (h5 : p 5 = true) : LJ w0 B b1 rb pv va n xs (fun j => p j || j == 6) (fun j => if j = 6 then .int .i64 n else vs j) W :=
  ⟨by simpa using h.v0, by simpa using h.v1, by simpa using h.v2, by simpa using h.v4, by simpa using h.v5, fun _ => rfl, by simpa using h.v8, by simpa using h.x0, by simpa using h.x1, by simpa using h.x2, by simpa using h.tw, by simpa using h.o3, by simpa using h.o7, fun _ => by simpa using h5, fun _ => by simp, by simpa using h.o8, by simpa using h.o9⟩
theorem LJ.put2 (h : LJ w0 B b1 rb pv va n xs p vs W) (h2 : p 2 = false) : W = w0.drew ∧ LJ w0 B b1 rb pv va n xs (fun j => p j || j == 2) (fun j => if j = 2 then .slice (some ⟨w0.heap.size, 0, none⟩) 1 1 else vs j) (w0.drew.alloc (.cells mk7.toArray 25)) := by
  have hw := h.x0 h2
  have h3 := h.n3 h2
  have h9 := h.n9 (h.n8 (h.n7 h3))
  subst hw
  have htw := h.tw h9
  refine ⟨rfl, by simpa using h.v0, by simpa using h.v1, fun _ => rfl, by simpa using h.v4, by simpa using h.v5, by simpa using h.v6, by simpa using h.v8, fun a => by simp at a, fun _ _ => rfl, fun a => by simp [h3] at a, fun _ => ⟨?_, ?_⟩, fun _ => by simp, by simpa using h.o7, by simpa using h.o5, by simpa using h.o7', by simpa using h.o8, by simpa using h.o9⟩
  · exact (((Below.refl _ w0.drew).alloc (Nat.le_refl _) _).block b1 (Array.getElem?_eq_some_iff.1 htw.1).1).trans htw.1
  · exact (((Below.refl _ w0.drew).alloc (Nat.le_refl _) _).block rb (Array.getElem?_eq_some_iff.1 htw.2).1).trans htw.2
theorem LJ.put3 (h : LJ w0 B b1 rb pv va n xs p vs W) (h2 : p 2 = true) (h3 : p 3 = false) {g c : Nat} {W3 : World} (hc : n + 1 ≤ c) (ho : W3.ownsRow B 25 7 (.slice (some ⟨g, 0, none⟩) (n + 1) c) (n + 1) (xs ++ mk7)) (hg : (w0.drew.alloc (.cells mk7.toArray 25)).grownBy W3 va.ownBlock) (hk : KT 28 (w0.drew.alloc (.cells mk7.toArray 25)) W3) :
    LJ w0 B b1 rb pv va n xs (fun j => p j || j == 3) (fun j => if j = 3 then .slice (some ⟨g, 0, none⟩) (n + 1) c else vs j) W3 := by
  have h7 := h.n7 h3
  have h9 := h.n9 (h.n8 h7)
  have htw := h.tw h9
  rw [h.x1 h2 h3] at htw
  exact ⟨by simpa using h.v0, by simpa using h.v1, by simpa using h.v2, by simpa using h.v4, by simpa using h.v5, by simpa using h.v6, by simpa using h.v8, fun a => by simp [h2] at a, fun _ a => by simp at a, fun _ => ⟨g, c, W3, rfl, hc, ho, hg, fun a => by simp [h7] at a, fun _ => rfl, fun a => by simp [h9] at a⟩, fun _ => ⟨hk _ _ _ htw.1, hk _ _ _ htw.2⟩, fun _ => by simpa using h2, fun _ => by simp, by simpa using h.o5, by simpa using h.o7', by simpa using h.o8, by simpa using h.o9⟩
theorem LJ.put7 (h : LJ w0 B b1 rb pv va n xs p vs W) (h3 : p 3 = true) (h6 : p 6 = true) (h7 : p 7 = false) : ∃ g c, vs 3 = .slice (some ⟨g, 0, none⟩) (n + 1) c ∧ n + 1 ≤ c ∧ LJ w0 B b1 rb pv va n xs (fun j => p j || j == 7) (fun j => if j = 7 then .slice (some ⟨g, 0, none⟩) n c else vs j) W := by
  obtain ⟨g, c, W3, e3, hc, ho, hg, e7, w1, w2⟩ := h.x2 h3
  have h8 := h.n8 h7
  exact ⟨g, c, e3, hc, by simpa using h.v0, by simpa using h.v1, by simpa using h.v2, by simpa using h.v4, by simpa using h.v5, by simpa using h.v6, fun a => by simp [h8] at a, by simpa using h.x0, by simpa using h.x1, fun _ => ⟨g, c, W3, by simpa using e3, hc, ho, hg, fun _ => by simp, by simpa using w1, by simpa using w2⟩, by simpa using h.tw, by simpa using h.o3, fun _ => by simpa using h3, by simpa using h.o5, fun _ => by simpa using h6, fun a => by simp, by simpa using h.o9⟩
theorem LJ.put8 (h : LJ w0 B b1 rb pv va n xs p vs W) (h7 : p 7 = true) : LJ w0 B b1 rb pv va n xs (fun j => p j || j == 8) (fun j => if j = 8 then .agg #[vs 7] else vs j) W :=
  ⟨by simpa using h.v0, by simpa using h.v1, by simpa using h.v2, by simpa using h.v4, by simpa using h.v5, by simpa using h.v6, fun _ => by simp, by simpa using h.x0, by simpa using h.x1, by simpa using h.x2, by simpa using h.tw, by simpa using h.o3, by simpa using h.o7, by simpa using h.o5, by simpa using h.o7', fun _ => by simpa using h7, fun a => by simp⟩
theorem LJ.put9 (h : LJ w0 B b1 rb pv va n xs p vs W) (h8 : p 8 = true) (h9 : p 9 = false) : ∃ g c, vs 8 = .agg #[.slice (some ⟨g, 0, none⟩) n c] ∧ ∀ v, LJ w0 B b1 rb pv va n xs (fun j => p j || j == 9) (fun j => if j = 9 then v else vs j) (W.setCell ⟨rb, 0, none⟩ (.slice (some ⟨g, 0, none⟩) n c)) := by
  have h7 := h.o8 h8
  have h3 := h.o7 h7
  have h2 := h.o3 h3
  obtain ⟨g, c, W3, e3, hc, ho, hg, e7, w1, w2⟩ := h.x2 h3
  have hW := w1 h9
  subst hW
  exact ⟨g, c, by rw [h.v8 h8, e7 h7], fun v => ⟨by simpa using h.v0, by simpa using h.v1, by simpa using h.v2, by simpa using h.v4, by simpa using h.v5, by simpa using h.v6, by simpa using h.v8, fun a => by simp [h2] at a, fun _ a => by simp [h3] at a, fun _ => ⟨g, c, W, by simpa using e3, hc, ho, hg, by simpa using e7, fun a => by simp at a, fun _ => rfl⟩, fun a => by simp at a, by simpa using h.o3, by simpa using h.o7, by simpa using h.o5, by simpa using h.o7', by simpa using h.o8, fun _ => by simpa using h8⟩⟩
end

/-- a slice literal, in a row of operations -/
theorem wl_slice {P : Program} {ops : Array Oper} {rest : List Oper} {o : Oper} {a : Act} {w : World} {Q : Exit → Act → World → Prop} (hg : o.guard = none) (t e : TypeId) (len : Nat) (parts : Array (Nat × Operand)) (ho : o.op = .buildSlice t len parts) (s : Nat) (hu : P.underlying t = some (.slice e))
    (hsz : (P.info? e).map (·.size) = some s) (hz : ((P.info? e).bind (·.zero)).isSome = true) (hs : 0 < s) (vs : List Value) (hparts : (parts.map fun (i, x) => (i, a.eval x)).toList = (vs.zipIdx 0).map fun x => (x.2, x.1)) (hv : ∀ v ∈ vs, v.cells.size = s) (hl : len = vs.length) (hpos : 0 < len) (hsmall : len * s ≤ 2 ^ 24)
    (h : wpList P ops Q rest (a.put o.dst (.slice (some ⟨w.heap.size, 0, none⟩) len len)) (w.alloc (.cells (vs.flatMap (fun v => v.cells.toList)).toArray e))) : wpList P ops Q (o :: rest) a w := by
  refine wpList_plain hg fun K hK => ?_
  have hst := step_slice (P := P) (ops := ops) (o := o) (a := a) (w := w) (K := K) (Q := Q) (E := True) hg t e len parts ho s hu hsz hz hs vs hparts hv hl hpos hsmall (hK _ _ h)
  have hw : Region.wanted o (yielded ops a.tmps) = true := by simp [Region.wanted, hg]
  rwa [if_pos hw] at hst
theorem LR.but28 {g : Nat} {W W' : World} {base : Nat} {ov v : Value} {svs : List Value} {ls : List (List (Int × Int))} (h : LR W base ov v svs ls) (k : But g W W') (ht : ∃ cur m, W.heap[g]? = some (.cells cur 28 m)) (hc : W.cell? ⟨g, 0, none⟩ ≠ some (.int .i64 (-8))) : LR W' base ov v svs ls := by
  have kt : ∀ {t : TypeId}, (28 : Nat) ≠ t → KT t W W' := fun {t} hne b cs m hb => by
    by_cases e : b = g
    · subst e
      obtain ⟨cur, m', h1⟩ := ht
      rw [h1] at hb
      injection hb with hb
      injection hb with _ h2 _
      exact absurd h2 hne
    · exact k b e _ hb
  rcases h with h | ⟨h1, g1, cap, ovs, gm, h2, h3, h4, h5, h6, hgm, h7⟩
  · exact .inl h
  · refine .inr ⟨h1, g1, cap, ovs, gm, h2, h3, h4, own_kept_t h5 (kt (by decide)), ?_, hgm, fun j a b c => (h7 j a b c).kt (kt (by decide))⟩
    have hne : gm ≠ g := fun e => by subst e; exact hc h6
    cases ho : W.heap[gm]? with
    | none => simp [World.cell?, ho] at h6
    | some o =>
      have := k gm hne o ho
      simp only [World.cell?] at h6 ⊢
      rw [this, ← ho]
      exact h6
theorem LP.but28 {g : Nat} {W W' : World} {base : Nat} {ov v : Value} {tvs : List Value} {ps : List Pc} (h : LP W base ov v tvs ps) (k : But g W W') (ht : ∃ cur m, W.heap[g]? = some (.cells cur 28 m)) : LP W' base ov v tvs ps := by
  have kt : ∀ {t : TypeId}, (28 : Nat) ≠ t → KT t W W' := fun {t} hne b cs m hb => by
    by_cases e : b = g
    · subst e
      obtain ⟨cur, m', h1⟩ := ht
      rw [h1] at hb
      injection hb with hb
      injection hb with _ h2 _
      exact absurd h2 hne
    · exact k b e _ hb
  rcases h with h | ⟨h1, g1, cap, es, h2, h3, h4, h5, h6⟩
  · exact .inl h
  · exact .inr ⟨h1, g1, cap, es, h2, h3, h4, own_kept_t h5 (kt (by decide)), fun j a b => (h6 j a b).kt (kt (by decide))⟩
theorem LEl.but28 {g : Nat} {W W' : World} {base : Nat} {e : Rw} {x : RV} (h : LEl W base e x) (k : But g W W') (ht : ∃ cur m, W.heap[g]? = some (.cells cur 28 m)) (hc : W.cell? ⟨g, 0, none⟩ ≠ some (.int .i64 (-8))) : LEl W' base e x :=
  ⟨h.bg, h.en, h.cu, h.l.a.but28 k ht hc, h.l.k.but28 k ht hc, h.l.p.but28 k ht hc, h.l.r.but28 k ht⟩
theorem but_set (W : World) (g : Nat) (v : Value) : But g W (W.setCell ⟨g, 0, none⟩ v) := fun b hb o ho => by
  show (W.heap.modify g _)[b]? = _
  rw [Array.getElem?_modify, if_neg (fun e => hb e.symm)]
  exact ho
set_option maxHeartbeats 8000000 in
theorem lentPass_some (ad : Addr) (c : Nat) (xs : List RV) (w : World) (hr : PsV w (.slice (some ad) xs.length c) xs) (hn : xs.length ≤ 1048576) (hs : ∀ x ∈ xs, Sm x.r) :
    Calls Tryd.prog 11 #[.agg #[.slice (some ad) xs.length c]] w fun e w' => ∃ ov, e = .returned (.agg #[ov]) ∧ LPs w' w.heap.size ov (.slice (some ad) xs.length c) xs ∧ Below w.heap.size w w' := by
  have he := some26
  obtain ⟨n, hnn⟩ : ∃ n, xs.length = n := ⟨_, rfl⟩
  have HN : Hid (xs.length = n) := hnn
  have HR : Hid (PsV w (.slice (some ad) n c) xs) := by rw [hnn] at hr; exact hr
  have HSm : Hid (∀ x ∈ xs, Sm x.r) := hs
  rw [hnn] at hn ⊢
  have hnI : (n : Int) ≤ 1048576 := by omega
  obtain ⟨w2, hw2⟩ : ∃ w2 : World, w2 = (w.alloc (.cells #[.slice (some ad) n c] 28)).alloc (.cells #[.slice none 0 0] 28) := ⟨_, rfl⟩
  have HZ : Hid (w2.heap.size = w.heap.size + 2) := by show _ = _; rw [hw2]; simp
  have HG2 : Hid (Grown w w2) := by show Grown _ _; rw [hw2]; exact ((Grown.refl _).alloc _).alloc _
  have HTw : Hid (Two w.heap.size (w.heap.size + 1) (.slice (some ad) n c) w2) := by
    have h0 := heap_alloc_new w (.cells #[.slice (some ad) n c] 28)
    have h1 := heap_alloc_new (w.alloc (.cells #[.slice (some ad) n c] 28)) (.cells #[.slice none 0 0] 28)
    rw [show (w.alloc (.cells #[.slice (some ad) n c] 28)).heap.size = w.heap.size + 1 from Array.size_push _] at h1
    refine ⟨?_, by rw [hw2]; exact h1⟩
    rw [hw2]
    exact (((Below.refl _ _).alloc (Nat.le_refl _) _).block _ (Array.getElem?_eq_some_iff.1 h0).1).trans h0
  have HS0 : Hid (LI5 w2 xs 0 (.slice (some ⟨w2.heap.size, 0, none⟩) 0 0) (w2.alloc (.cells #[] 25))) := ⟨w2.heap.size, 0, [], rfl, fun _ => rfl, rfl, ⟨rfl, .inr ⟨w2.heap.size, 0, #[], rfl, Nat.le_refl _, heap_alloc_new w2 _, Nat.le_refl _, Nat.zero_le _, rfl, rfl⟩⟩, fun j h => by simp at h, (Below.refl _ w2).alloc (Nat.le_refl _) _⟩
  clear hr hnn hs
  go_enter Tryd.func11, Tryd.ntmps11
  go_wp2
  rw [show (w.alloc (.cells #[.slice (some ad) n c] 28)).alloc (.cells #[.slice none 0 0] 28) = w2 from hw2.symm]
  rw [show w.heap.size + 1 + 1 = w2.heap.size from HZ.out.symm]
  clear hw2
  go_loopw [3, 14] (fun sa vi wr => ∃ (va : Value) (k : Nat), va = sa ∧ vi = .int .i64 k ∧ k ≤ n ∧ Hid (LI5 w2 xs k va wr)) (fun _ vi _ => n - (intOf vi).toNat)
  case atStart => exact ⟨_, 0, rfl, rfl, Nat.zero_le _, HS0⟩
  case round =>
    obtain ⟨va, k, rfl, rfl, hk, HG⟩ := hrel
    have hpos : (0 : Int) ≤ (k : Int) := by omega
    have hkI : (k : Int) ≤ 1048576 := by omega
    clear HS0
    by_cases hlt : k < n
    · as_aux_lemma =>
        have hlt' : (k : Int) < (n : Int) := by omega
        have hkl : k < xs.length := by rw [HN.out]; exact hlt
        obtain ⟨g0, c0, es, rfl, g1, g2, g3, g4, g5⟩ := HG.out
        have hW := (HR.out.grown HG2.out).below g5 (Nat.le_refl _)
        obtain ⟨a', c', e', _, hcl⟩ := hW.cell
        obtain ⟨gg, oo, ha', hcl2⟩ := hcl.resolve_left (fun e => by rw [e] at hkl; simp at hkl)
        injection e' with e1 e2 e3
        clear e2 e3
        rw [ha'] at e1
        injection e1 with e1
        subst e1
        obtain ⟨q0, q1, q2, q3, q4, q5, q6⟩ := hcl2 k hkl
        have hel := hW.el k hkl
        have HC : Hid (∀ W, Grown wr W → Calls Tryd.prog 10 #[.agg #[.bool xs[k].r.bg, xs[k].av, xs[k].kv, xs[k].pv, .bool xs[k].r.en, xs[k].rv, .int .i64 xs[k].r.cu]] W fun e w' => ∃ oa ok op orr, e = .returned (.agg #[.bool xs[k].r.bg, oa, ok, op, .bool xs[k].r.en, orr, .int .i64 xs[k].r.cu]) ∧ LEl w' W.heap.size ⟨xs[k].r.bg, oa, ok, op, xs[k].r.en, orr, xs[k].r.cu⟩ xs[k] ∧ Below W.heap.size W w') := fun W hG => by
          refine (lentRule_any xs[k].r _ _ _ _ _ _ _ _ W (hel.grown hG) (HSm.out _ (List.getElem_mem hkl))).mono ?_
          rintro e w' ⟨oa, ok, op, orr, rfl, h1, h2⟩
          exact ⟨oa, ok, op, orr, rfl, ⟨rfl, rfl, rfl, h1⟩, h2⟩
        obtain ⟨ta1, ta2, ta3, t1⟩ := hel.rr.a.sl
        obtain ⟨tk1, tk2, tk3, t2⟩ := hel.rr.k.sl
        obtain ⟨tp1, tp2, tp3, t3⟩ := hel.rr.p.sl
        obtain ⟨tr1, tr2, tr3, t5⟩ := hel.rr.r.sl
        rw [t1] at q1 HC
        rw [t2] at q2 HC
        rw [t3] at q3 HC
        rw [t5] at q5 HC
        generalize xs[k].r.bg = xb at q0 HC
        generalize xs[k].r.en = xe at q4 HC
        generalize xs[k].r.cu = xc at q6 HC
        clear hcl hcl2 hel hW ha' t1 t2 t3 t5
        go_wp2_with fail
        refine (HC.out _ ((Grown.refl _).alloc _)).mono ?_
        rintro e w4 ⟨oa, ok, op, orr, rfl, hLE, hb4⟩
        obtain ⟨oa1, oa2, oa3, rfl⟩ := hLE.l.a.sl
        obtain ⟨ok1, ok2, ok3, rfl⟩ := hLE.l.k.sl
        obtain ⟨op1, op2, op3, rfl⟩ := hLE.l.p.sl
        obtain ⟨or1, or2, or3, rfl⟩ := hLE.l.r.sl
        have hB4 : Below wr.heap.size wr w4 := ((Below.refl _ wr).alloc (Nat.le_refl _) _).trans (hb4.mono (by simp))
        have HP : Hid (∀ ob, (w4.alloc ob).ownsRow w2.heap.size 25 7 (.slice (some ⟨g0, 0, none⟩) k c0) k (fr es) ∧ w2.heap.size ≤ (w4.alloc ob).heap.size ∧ Below w2.heap.size w2 (w4.alloc ob) ∧ (∀ (j : Nat) (h1 : j < es.length) (h2 : j < xs.length), LEl (w4.alloc ob) w2.heap.size es[j] xs[j]) ∧ LEl (w4.alloc ob) w2.heap.size ⟨xb, .slice oa1 oa2 oa3, .slice ok1 ok2 ok3, .slice op1 op2 op3, xe, .slice or1 or2 or3, xc⟩ xs[k] ∧ RowB g0 (w4.alloc ob)) := fun ob => by
          have hb6 : Below wr.heap.size wr (w4.alloc ob) := hB4.alloc hB4.size ob
          have ho := ownsRow_below g3 hb6 (Nat.le_refl _)
          refine ⟨ho, Nat.le_trans g5.size hb6.size, g5.trans (hb6.mono g5.size), fun j a b => (g4 j a b).below hb6 (Nat.le_refl _), ?_, rowB_of ho g2 g1⟩
          have := hLE.below ((Below.refl _ w4).alloc (Nat.le_refl _) ob) (Nat.le_refl _)
          exact ⟨this.bg, this.en, this.cu, this.l.le (by have := g5.size; simp; omega)⟩
        have HOl : Hid (es.length = k) := g2
        clear g1 g2 g3 g4 g5 hLE hb4 hB4 HG HC q0 q1 q2 q3 q4 q5 q6
        rename_i Kx hKx
        refine hKx _ _ ?_
        clear hKx
        refine wl_slice rfl 26 25 1 _ rfl 7 Tryd.underlying26 (by kernel_rfl) (by kernel_rfl) (by decide) [.agg #[.bool xb, .slice oa1 oa2 oa3, .slice ok1 ok2 ok3, .slice op1 op2 op3, .bool xe, .slice or1 or2 or3, .int .i64 xc]] (by rw [Array.toList_map]; rfl) (by intro v hm; simp only [List.mem_cons, List.not_mem_nil, or_false] at hm; rcases hm with rfl; rfl) rfl (by decide) (by decide) ?_
        refine app_Rl rfl _ _ rfl w2.heap.size g0 c0 k es HOl.out rfl (HP.out _).1 w4.heap.size 1 ⟨xb, .slice oa1 oa2 oa3, .slice ok1 ok2 ok3, .slice op1 op2 op3, xe, .slice or1 or2 or3, xc⟩ rfl (cells7 w4 xb xe (.slice oa1 oa2 oa3) (.slice ok1 ok2 ok3) (.slice op1 op2 op3) (.slice or1 or2 or3) xc 25) ⟨⟨_, _, _, rfl⟩, ⟨_, _, _, rfl⟩, ⟨_, _, _, rfl⟩, ⟨_, _, _, rfl⟩⟩ (by omega) (HP.out _).2.1 ?_
        intro gn cn w5 hcn hO5 hK5 hB5
        have HF : Hid (LI5 w2 xs (k + 1) (.slice (some ⟨gn, 0, none⟩) (k + 1) cn) w5) := by
          refine ⟨gn, cn, es ++ [⟨xb, .slice oa1 oa2 oa3, .slice ok1 ok2 ok3, .slice op1 op2 op3, xe, .slice or1 or2 or3, xc⟩], rfl, by omega, by simp [HOl.out], hO5, fun j h1 h2 => ?_, (HP.out _).2.2.1.trans hB5⟩
          by_cases hj : j < es.length
          · rw [List.getElem_append_left hj]
            exact ((HP.out _).2.2.2.1 j hj h2).but hK5 (HP.out _).2.2.2.2.2
          · have hj2 : j = k := by simp at h1; have := HOl.out; omega
            subst hj2
            rw [List.getElem_append_right (by omega)]
            simp only [List.getElem_singleton]
            exact (HP.out _).2.2.2.2.1.but hK5 (HP.out _).2.2.2.2.2
        clear hO5 hK5 hB5 HP
        go_wp2
        exact ⟨⟨_, k + 1, rfl, by go_num, hlt, HF⟩, by simp [intOf]; omega⟩
    · obtain rfl : k = n := by omega
      have hge : ¬ (k : Int) < (k : Int) := by omega
      obtain ⟨g0, c0, es, rfl, g1, g2, g3, g4, g5⟩ := HG.out
      have HT3 : Hid (Two w.heap.size (w.heap.size + 1) (.slice (some ad) k c) wr) := ⟨(g5.block _ (Array.getElem?_eq_some_iff.1 HTw.out.1).1).trans HTw.out.1, (g5.block _ (Array.getElem?_eq_some_iff.1 HTw.out.2).1).trans HTw.out.2⟩
      have HB3 : Hid (Below w.heap.size w wr) := HG2.out.below.trans (g5.mono HG2.out.size)
      have HO3 : Hid (wr.ownsRow w2.heap.size 25 7 (.slice (some ⟨g0, 0, none⟩) k c0) k (fr es)) := g3
      have HSz : Hid (w2.heap.size ≤ wr.heap.size ∧ w.heap.size ≤ w2.heap.size) := ⟨g5.size, HG2.out.size⟩
      have HL3 : Hid (es.length = k ∧ ∀ (j : Nat) (h1 : j < es.length) (h2 : j < xs.length), LEl wr w2.heap.size es[j] xs[j]) := ⟨g2, g4⟩
      have HRB : Hid (∀ ob, RowB g0 (wr.drew.alloc ob)) := fun ob => by
        have ho := (g3.drew.alloc ob)
        exact rowB_of ho g2 g1
      clear g1 g2 g3 g4 g5 HG HTw HR HSm
      go_upto_region 9 with fail
      obtain ⟨i0, hi, hz0, hz1, hz2⟩ := info_parts rinfo25
      rename_i Kx hKx
      refine wp_region_inv (by kernel_rfl) (by kernel_rfl) (by kernel_rfl) (by kernel_rfl) (LJ wr w2.heap.size w.heap.size (w.heap.size + 1) (.slice (some ad) k c) (.slice (some ⟨g0, 0, none⟩) k c0) k (fr es)) (LJ.start HT3.out) ⟨?_, ?_, ?_, ?_, ?_, ?_, ?_, ?_, ?_, ?_, trivial⟩ ?_
      · as_aux_lemma =>
          intro a wx p vs hJ hdep hpi hval hfr K hK
          have d : a.tmps.getD 3 undef = (.slice (some ⟨g0, 0, none⟩) k c0) := hfr 3 (by kernel_rfl)
          exact step_value (v := (.slice (some ⟨g0, 0, none⟩) k c0)) (w' := wx) rfl (fun _ _ h => by cases h) (rho [(3, (.slice (some ⟨g0, 0, none⟩) k c0))]) (rho_of (by intro q hm; simp only [List.mem_cons, List.not_mem_nil, or_false] at hm; rcases hm with rfl; exact d) (by kernel_rfl)) (by kernel_rfl) (hK _ _ hJ.put0)
      · as_aux_lemma =>
          intro a wx p vs hJ hdep hpi hval hfr K hK
          exact step_value (v := .agg mk7.toArray) (w' := wx) rfl (fun _ _ h => by cases h) (rho []) (rho_of (by intro q hm; cases hm) (by kernel_rfl)) (by kernel_rfl) (hK _ _ hJ.put1)
      · as_aux_lemma =>
          intro a wx p vs hJ hdep hpi hval hfr K hK
          have h1 := hdep 1 (by kernel_rfl)
          have d : a.tmps.getD 25 undef = .agg mk7.toArray := (hval 1 _ 25 h1 (by rfl) rfl).trans (hJ.v1 h1)
          obtain ⟨hw, hJ'⟩ := hJ.put2 hpi
          subst hw
          refine step_slice rfl 26 25 1 _ rfl 7 Tryd.underlying26 (by kernel_rfl) (by kernel_rfl) (by decide) [.agg mk7.toArray] ?_ (by intro v hm; simp only [List.mem_cons, List.not_mem_nil, or_false] at hm; rcases hm with rfl; rfl) rfl (by decide) (by decide) (hK _ _ hJ')
          rw [Array.toList_map]
          show [(0, a.tmps.getD 25 undef)] = _
          rw [d]
          rfl
      · as_aux_lemma =>
          intro a wx p vs hJ hdep hpi hval hfr K hK
          have h0 := hdep 0 (by kernel_rfl)
          have h2 := hdep 2 (by kernel_rfl)
          have d0 : a.eval (.tmp 24) = (.slice (some ⟨g0, 0, none⟩) k c0) := (hval 0 _ 24 h0 (by rfl) rfl).trans (hJ.v0 h0)
          have d2 : a.eval (.tmp 26) = .slice (some ⟨wr.heap.size, 0, none⟩) 1 1 := (hval 2 _ 26 h2 (by rfl) rfl).trans (hJ.v2 h2)
          have hw := hJ.x1 h2 hpi
          subst hw
          have hO := HO3.out.drew.alloc (.cells mk7.toArray 25)
          refine step_append_lies _ rfl _ _ _ rfl w2.heap.size 25 i0 _ 7 120 Tryd.underlying26 hi hz0 hz1 hz2 rfl (by omega) _ k (fr es) d0 hO ⟨wr.heap.size, 0, none⟩ 1 1 mk7 d2 (by rfl) (World.news_of_block (cs := mk7.toArray) (heap_alloc_new wr.drew _)) (by intro u hu; simp only [mk7, List.mem_cons, List.not_mem_nil, or_false] at hu; rcases hu with rfl | rfl | rfl | rfl | rfl | rfl | rfl <;> rfl) (by omega) (by unfold maxLen; omega) (by omega) (by have := HSz.out.1; show w2.heap.size ≤ (wr.drew.heap.push _).size; rw [Array.size_push]; exact Nat.le_succ_of_le this) _ rfl ?_
          intro gg cap' w3 hown1 hgrow _ _
          refine hK _ _ (hJ.put3 h2 hpi ?_ hown1 hgrow (own_kt hO hgrow (by decide)))
          rcases hown1.2 with ⟨e, _⟩ | ⟨_, _, _, e, _, _, hc, _⟩
          · cases e
          · injection e with _ _ e3
            omega
      · as_aux_lemma =>
          intro a wx p vs hJ hdep hpi hval hfr K hK
          have d : a.tmps.getD 1 undef = (.pointer (some ⟨w.heap.size, 0, none⟩)) := hfr 1 (by kernel_rfl)
          exact step_value (v := (.pointer (some ⟨w.heap.size, 0, none⟩))) (w' := wx) rfl (fun _ _ h => by cases h) (rho [(1, (.pointer (some ⟨w.heap.size, 0, none⟩)))]) (rho_of (by intro q hm; simp only [List.mem_cons, List.not_mem_nil, or_false] at hm; rcases hm with rfl; exact d) (by kernel_rfl)) (by kernel_rfl) (hK _ _ hJ.put4)
      · as_aux_lemma =>
          intro a wx p vs hJ hdep hpi hval hfr K hK
          have h4 := hdep 4 (by kernel_rfl)
          have d : a.tmps.getD 28 undef = (.pointer (some ⟨w.heap.size, 0, none⟩)) := (hval 4 _ 28 h4 (by rfl) rfl).trans (hJ.v4 h4)
          have h9 : p 9 = false := by
            cases e : p 9 with
            | false => rfl
            | true => exact absurd hpi (by rw [hJ.o5 (hJ.o7' (hJ.o8 (hJ.o9 e)))]; simp)
          have hc : wx.cell? ⟨w.heap.size, 0, none⟩ = some (.slice (some ad) k c) := by
            have := (hJ.tw h9).1
            simp only [World.cell?, this]
            rfl
          have hJ' := hJ.put5
          clear hval hfr hdep hJ HT3 HB3 HO3 HSz HL3 HRB hKx hi hz0 hz1 hz2
          simp only [Array.getD_eq_getD_getElem?] at d
          go_simp
          exact hK _ _ hJ'
      · as_aux_lemma =>
          intro a wx p vs hJ hdep hpi hval hfr K hK
          have h5 := hdep 5 (by kernel_rfl)
          have d : a.tmps.getD 29 undef = (.slice (some ad) k c) := (hval 5 _ 29 h5 (by rfl) rfl).trans (hJ.v5 h5)
          have hJ' := hJ.put6 h5
          clear hval hfr hdep hJ HT3 HB3 HO3 HSz HL3 HRB hKx hi hz0 hz1 hz2
          simp only [Array.getD_eq_getD_getElem?] at d
          go_simp
          exact hK _ _ hJ'
      · as_aux_lemma =>
          intro a wx p vs hJ hdep hpi hval hfr K hK
          have h3 := hdep 3 (by kernel_rfl)
          have h6 := hdep 6 (by kernel_rfl)
          obtain ⟨gg, cc, e3, hcc, hJ'⟩ := hJ.put7 h3 h6 hpi
          have d3 : a.tmps.getD 27 undef = .slice (some ⟨gg, 0, none⟩) (k + 1) cc := (hval 3 _ 27 h3 (by rfl) rfl).trans e3
          have d6 : a.tmps.getD 30 undef = .int .i64 k := (hval 6 _ 30 h6 (by rfl) rfl).trans (hJ.v6 h6)
          have i1 : (k : Int) ≤ (cc : Int) := by omega
          clear hval hfr hdep hJ HT3 HB3 HO3 HSz HL3 HRB hKx hi hz0 hz1 hz2 hcc e3
          simp only [Array.getD_eq_getD_getElem?] at d3 d6
          go_simp
          exact hK _ _ hJ'
      · as_aux_lemma =>
          intro a wx p vs hJ hdep hpi hval hfr K hK
          have h7 := hdep 7 (by kernel_rfl)
          have d : a.tmps.getD 31 undef = vs 7 := hval 7 _ 31 h7 (by rfl) rfl
          have hJ' := hJ.put8 h7
          obtain ⟨gg, cc, _, _, _, _, _, e7, _⟩ := hJ.x2 (hJ.o7 h7)
          rw [e7 h7] at d hJ'
          exact step_value (v := .agg #[.slice (some ⟨gg, 0, none⟩) k cc]) (w' := wx) rfl (fun _ _ h => by cases h) (rho [(31, .slice (some ⟨gg, 0, none⟩) k cc)]) (rho_of (by intro q hm; simp only [List.mem_cons, List.not_mem_nil, or_false] at hm; rcases hm with rfl; exact d) (by kernel_rfl)) (by kernel_rfl) (hK _ _ hJ')
      · as_aux_lemma =>
          intro a wx p vs hJ hdep hpi hval hfr K hK
          have h8 := hdep 8 (by kernel_rfl)
          obtain ⟨gg, cc, e8, hJ'⟩ := hJ.put9 h8 hpi
          have d8 : a.tmps.getD 32 undef = .agg #[.slice (some ⟨gg, 0, none⟩) k cc] := (hval 8 _ 32 h8 (by rfl) rfl).trans e8
          have d2 : a.tmps.getD 2 undef = .pointer (some ⟨w.heap.size + 1, 0, none⟩) := hfr 2 (by kernel_rfl)
          have htw := (hJ.tw hpi).2
          have hc : wx.cell? ⟨w.heap.size + 1, 0, none⟩ = some (.slice none 0 0) := by simp only [World.cell?, htw]; rfl
          have hf : wx.frozen? ⟨w.heap.size + 1, 0, none⟩ = false := by simp [World.frozen?, htw]
          have hJ2 := fun v => hK v _ (hJ' v)
          clear hval hfr hdep hJ HT3 HB3 HO3 HSz HL3 HRB hKx hi hz0 hz1 hz2 e8 hJ' hK htw
          simp only [Array.getD_eq_getD_getElem?] at d8 d2
          go_simp
          exact hJ2 undef
      · intro vs w' hJ
        obtain ⟨gg, cc, W3, e3, hcc, ho3, hg3, hq7, hq9, hq10⟩ := hJ.x2 (by decide)
        have hw := hq10 (by decide)
        clear hq7 hq9 hq10
        have hO := HO3.out.drew.alloc (.cells mk7.toArray 25)
        have hk28 := own_kt hO hg3 (t := 28) (by decide)
        have hup : Below wr.heap.size wr (wr.drew.alloc (.cells mk7.toArray 25)) := (Below.refl _ wr).drew.alloc (Nat.le_refl _) _
        have hr28 : W3.heap[w.heap.size + 1]? = some (.cells #[.slice none 0 0] 28 (0, 0)) := hk28 _ _ _ ((hup.block _ (Array.getElem?_eq_some_iff.1 HT3.out.2).1).trans HT3.out.2)
        have hbut : But g0 (wr.drew.alloc (.cells mk7.toArray 25)) W3 := fun b hb o ho => (hg3.block b (Array.getElem?_eq_some_iff.1 ho).1 (fun e => hb (by simpa [Value.ownBlock] using e))).trans ho
        have hcl : W3.cell? ⟨w.heap.size + 1, 0, none⟩ ≠ some (.int .i64 (-8)) := by
          simp only [World.cell?, hr28]
          intro e
          cases e
        have HE : Hid (LPs w' w.heap.size (.slice (some ⟨gg, 0, none⟩) k cc) (.slice (some ad) k c) xs ∧ Below w.heap.size w w' ∧ w'.cell? ⟨w.heap.size + 1, 0, none⟩ = some (.slice (some ⟨gg, 0, none⟩) k cc)) := by
          subst hw
          refine ⟨.inr ⟨⟨ad, c, by rw [HN.out]⟩, gg, cc, es, by rw [HN.out], by rw [HN.out]; exact hcc, HL3.out.1.trans HN.out.symm, ?_, fun j h1 h2 => ?_⟩, ?_, ?_⟩
          · rw [HN.out, fr_append]
            exact Joins.ownsRow_le (own_kept_t ho3 (KT.set _ _ _ _ (fun cs m e => by rw [hr28] at e; injection e with e; injection e with _ e2 _; cases e2))) HSz.out.2
          · have a1 := (HL3.out.2 j h1 h2).below hup (Nat.le_refl _)
            have a2 := a1.but hbut (HRB.out _)
            exact (a2.but28 (but_set W3 _ _) ⟨_, _, hr28⟩ hcl).le HSz.out.2
          · exact (((HB3.out.trans (hup.mono HB3.out.size)).grown hg3 (by have := HB3.out.size; have h2 := hup.size; omega) (fun b hb => by have := (hO.lt b hb).1; have h2 := HSz.out.2; omega))).setCell (p := ⟨w.heap.size + 1, 0, none⟩) (Nat.le_succ _) _
          · have := cells_setS (j := 0) (u := .slice (some ⟨gg, 0, none⟩) k cc) hr28
            simp only [World.cell?, this]
            rfl
        clear hO hk28 hup hr28 hbut hcl ho3 hg3 hJ hw e3 hcc HT3 HB3 HO3 HSz HL3 HRB hi hz0 hz1 hz2
        rw [putL_eq]
        simp only [putsL, List.set_cons_zero, List.set_cons_succ, Nat.zero_add, Nat.reduceAdd]
        generalize vs 0 = x0
        generalize vs 1 = x1
        generalize vs 2 = x2
        generalize vs 3 = x3
        generalize vs 4 = x4
        generalize vs 5 = x5
        generalize vs 6 = x6
        generalize vs 7 = x7
        generalize vs 8 = x8
        clear vs
        refine hKx _ _ ?_
        clear hKx
        go_wp2
        exact ret_ps (p := 2) (B := w.heap.size + 1) (v := .slice (some ⟨gg, 0, none⟩) k cc) rfl rfl HE.out.2.2 ⟨_, rfl, HE.out.1, HE.out.2.1⟩

theorem LPs.sl {W : World} {base : Nat} {ov v : Value} {xs : List RV} (h : LPs W base ov v xs) : IsSl ov := by
  rcases h with ⟨_, e, _⟩ | ⟨_, g, cap, es, e, _⟩
  · exact ⟨_, _, _, e⟩
  · exact ⟨_, _, _, e⟩
theorem LPs.le {W : World} {base base' : Nat} {ov v : Value} {xs : List RV} (h : LPs W base ov v xs) (hb : base' ≤ base) : LPs W base' ov v xs := by
  rcases h with h | ⟨h1, g, cap, es, h2, h3, h4, h5, h6⟩
  · exact .inl h
  · exact .inr ⟨h1, g, cap, es, h2, h3, h4, Joins.ownsRow_le h5 hb, fun j a b => (h6 j a b).le hb⟩
theorem LPs.but28 {g : Nat} {W W' : World} {base : Nat} {ov v : Value} {xs : List RV} (h : LPs W base ov v xs) (k : But g W W') (ht : ∃ cur m, W.heap[g]? = some (.cells cur 28 m)) (hc : W.cell? ⟨g, 0, none⟩ ≠ some (.int .i64 (-8))) : LPs W' base ov v xs := by
  rcases h with h | ⟨h1, g1, cap, es, h2, h3, h4, h5, h6⟩
  · exact .inl h
  · refine .inr ⟨h1, g1, cap, es, h2, h3, h4, own_kept_t h5 (fun b cs m hb => ?_), fun j a b => (h6 j a b).but28 k ht hc⟩
    refine k b (fun e => ?_) _ hb
    subst e
    obtain ⟨cur, m', h7⟩ := ht
    rw [h7] at hb
    injection hb with hb
    injection hb with _ h8 _
    cases h8
theorem LEl.turn {W W' : World} {B base : Nat} {cs : Array Value} {mm : Nat × Nat} {e : Rw} {x : RV} (h : LEl W base e x) (hB : W.heap[B]? = some (.cells cs 25 mm)) {y : Bool} (h0 : cs[0]? = some (.bool y)) (t : Turns B W W') : LEl W' base e x :=
  ⟨h.bg, h.en, h.cu, h.l.a.turn hB h0 t, h.l.k.turn hB h0 t, h.l.p.turn hB h0 t, h.l.r.turn hB t⟩
theorem LPs.turn {W W' : World} {B base : Nat} {ov v : Value} {xs : List RV} (h : LPs W base ov v xs) (hB : W.heap[B]? = some (.cells zeroC 25 (0, 0))) (t : Turns B W W') : LPs W' base ov v xs := by
  rcases h with h | ⟨h1, g, cap, es, h2, h3, h4, h5, h6⟩
  · exact .inl h
  · refine .inr ⟨h1, g, cap, es, h2, h3, h4, ⟨h5.1, ?_⟩, fun j a b => (h6 j a b).turn hB rfl t⟩
    rcases h5.2 with ⟨e, _⟩ | ⟨g', cap', cur, e, k1, k2, k3, k4, k5, k6⟩
    · cases e
    · refine .inr ⟨g', cap', cur, e, k1, (t g' (fun e2 => ?_)).trans k2, k3, k4, k5, k6⟩
      subst e2
      rw [hB] at k2
      injection k2 with k2
      injection k2 with k2 _ _
      subst k2
      have hz : zeroC.size = 7 := rfl
      rw [hz] at k5
      have hx0 : xs.length = 0 := by omega
      rw [hx0] at k6
      have he0 : es = [] := List.eq_nil_of_length_eq_zero (by omega)
      rw [he0] at k6
      cases k6
theorem LPs.psr {W w : World} {base : Nat} {ov v : Value} {xs : List RV} (h : LPs W base ov v xs) (hv : PsV w v xs) : PsR W ov (xs.map RV.r) := by
  rcases h with ⟨_, rfl, rfl⟩ | ⟨_, g, cap, es, rfl, h3, h4, h5, h6⟩
  · exact ⟨none, 0, rfl, Nat.le_refl _, .inl rfl⟩
  · refine ⟨_, cap, by simp, by simp; omega, .inr ⟨g, 0, rfl, fun j hj => ?_⟩⟩
    have hj' : j < xs.length := by simpa using hj
    have hje : j < es.length := by omega
    obtain ⟨k0, k1, k2, k3, k4, k5, k6⟩ := lr_cells h5 hje
    have hl := h6 j hje hj'
    rw [hl.bg] at k0
    rw [hl.en] at k4
    rw [hl.cu] at k6
    rw [List.getElem_map, Nat.zero_add]
    exact ⟨_, _, _, _, k0, k1, k2, k3, k4, k5, k6, hl.l.rr (hv.el j hj')⟩
theorem lentPass_any (v : Value) (xs : List RV) (w : World) (hr : PsV w v xs) (hn : xs.length ≤ 1048576) (hs : ∀ x ∈ xs, Sm x.r) :
    Calls Tryd.prog 11 #[.agg #[v]] w fun e w' => ∃ ov, e = .returned (.agg #[ov]) ∧ LPs w' w.heap.size ov v xs ∧ Below w.heap.size w w' := by
  rcases hr.nil with rfl | ⟨ad, n, c, rfl⟩
  · have hx : xs = [] := by
      obtain ⟨a, cap, e, _⟩ := hr.cell
      injection e with _ e2 _
      exact List.eq_nil_of_length_eq_zero e2.symm
    refine (lentPass_nil w).mono ?_
    rintro e w' ⟨rfl, hg⟩
    exact ⟨_, rfl, .inl ⟨rfl, rfl, hx⟩, hg.below⟩
  · obtain rfl : n = xs.length := by
      obtain ⟨a, cap, e, _⟩ := hr.cell
      injection e with _ e2 _
    exact lentPass_some ad c xs w hr hn hs
end Go.Proofs
