/-
  What was lent is written over; what has its shape keeps it.
-/
import Derived.RangeFuncNested
import Derived.RangeFuncBound
import Derived.RangeFuncCalls
import Derived.RangeFuncLeaves
import Derived.Shelf.Abstract
import Derived.Shelf.RegionOpen
import Derived.WalkKit
import Derived.WalkSpells
import Derived.WalkLawsBesides
import Derived.OwnWalkIn
import Derived.TacticsInMore
import Derived.LoopNIn
import Derived.LoopIn
import Derived.BigQuiet
import Derived.RegionIn
import Derived.Deep.QuietTactic
import Derived.Deep.RegionWith
import Derived.Lib.OthersKept
import Derived.Maps.AppendAt
import Derived.Lib.SmallJoins
import Derived.Shelf.SlSortCmp.QuietGrown
import Derived.Test.YtpppcfppabghhaaDoorOb
namespace Go.Proofs
open Go.RowKit Go.Shelf

set_option maxRecDepth 100000
attribute [local go_sem] Oper.semAt_some
attribute [local go_sem ↓] Go.wp_at_zero Go.wp_at_succ

def ShS (W : World) (B : Nat) (v : Value) : Prop := ∃ a n c, v = .slice a n c ∧ n ≤ 1048576 ∧ (n = 0 ∨ ∃ g cur, a = some ⟨g, 0, none⟩ ∧ B ≤ g ∧ W.heap[g]? = some (.cells cur 59 (0, 0)) ∧ n * 2 ≤ cur.size)
def ShR (W : World) (B : Nat) (v : Value) : Prop := ∃ a n c, v = .slice a n c ∧ n ≤ 1048576 ∧ (n = 0 ∨ ∃ g cur, a = some ⟨g, 0, none⟩ ∧ B ≤ g ∧ W.heap[g]? = some (.cells cur 48 (0, 0)) ∧ n ≤ cur.size ∧ ∀ j u, j < n → cur[j]? = some u → ShS W B u)
def ShP (W : World) (B : Nat) (v : Value) : Prop := ∃ a n c, v = .slice a n c ∧ n ≤ 1048576 ∧ (n = 0 ∨ ∃ g cur, a = some ⟨g, 0, none⟩ ∧ B ≤ g ∧ W.heap[g]? = some (.cells cur 62 (0, 0)) ∧ n * 4 ≤ cur.size ∧ ∀ j u, j < n → cur[j * 4 + 3]? = some u → ShS W B u)
structure ShL (W : World) (B : Nat) (cur : Array Value) (o : Nat) : Prop where
  b : ∃ x, cur[o]? = some (.bool x)
  a : ∃ u, cur[o + 1]? = some u ∧ ShR W B u
  k : ∃ u, cur[o + 2]? = some u ∧ ShR W B u
  p : ∃ u, cur[o + 3]? = some u ∧ ShR W B u
  e : ∃ x, cur[o + 4]? = some (.bool x)
  r : ∃ u, cur[o + 5]? = some u ∧ ShP W B u
  c : ∃ x, cur[o + 6]? = some (.int .i64 x)
def ShQ (W : World) (B : Nat) (v : Value) : Prop := ∃ a n c, v = .slice a n c ∧ n ≤ 1048576 ∧ (n = 0 ∨ ∃ g cur, a = some ⟨g, 0, none⟩ ∧ B ≤ g ∧ W.heap[g]? = some (.cells cur 28 (0, 0)) ∧ ∀ j, j < n → ShL W B cur (j * 7))
/-- what may be written at a place of a block -/
def Gd (W : World) (B : Nat) (t : TypeId) (j : Nat) (u : Value) : Prop :=
  (t = 48 → ShS W B u) ∧ (t = 62 → j % 4 = 3 → ShS W B u) ∧ (t = 28 → (j % 7 = 0 → ∃ x, u = .bool x) ∧ (j % 7 = 1 → ShR W B u) ∧ (j % 7 = 2 → ShR W B u) ∧ (j % 7 = 3 → ShR W B u) ∧ (j % 7 = 4 → ∃ x, u = .bool x) ∧ (j % 7 = 5 → ShP W B u) ∧ (j % 7 = 6 → ∃ x, u = .int .i64 x))
structure Ch (B : Nat) (W W' : World) : Prop where
  bl : Below B W W'
  ch : ∀ (b : Nat) (cur : Array Value) (t : TypeId), W.heap[b]? = some (Obj.cells cur t (0, 0)) → ∃ cur', W'.heap[b]? = some (Obj.cells cur' t (0, 0)) ∧ cur'.size = cur.size ∧ ∀ j u, cur'[j]? = some u → cur[j]? = some u ∨ Gd W' B t j u
section
variable {B : Nat} {W W' W'' : World} {v : Value}
theorem ShS.ch (h : ShS W B v) (k : Ch B W W') : ShS W' B v := by
  obtain ⟨a, n, c, e, hn, h⟩ := h
  refine ⟨a, n, c, e, hn, h.imp id ?_⟩
  rintro ⟨g, cur, h1, h2, h3, h4⟩
  obtain ⟨cur', k1, k2, _⟩ := k.ch g cur 59 h3
  exact ⟨g, cur', h1, h2, k1, by omega⟩
theorem ShR.ch (h : ShR W B v) (k : Ch B W W') : ShR W' B v := by
  obtain ⟨a, n, c, e, hn, h⟩ := h
  refine ⟨a, n, c, e, hn, h.imp id ?_⟩
  rintro ⟨g, cur, h1, h2, h3, h4, h5⟩
  obtain ⟨cur', k1, k2, k3⟩ := k.ch g cur 48 h3
  refine ⟨g, cur', h1, h2, k1, by omega, fun j u hj hu => ?_⟩
  rcases k3 j u hu with h6 | h6
  · exact (h5 j u hj h6).ch k
  · exact h6.1 rfl
theorem ShP.ch (h : ShP W B v) (k : Ch B W W') : ShP W' B v := by
  obtain ⟨a, n, c, e, hn, h⟩ := h
  refine ⟨a, n, c, e, hn, h.imp id ?_⟩
  rintro ⟨g, cur, h1, h2, h3, h4, h5⟩
  obtain ⟨cur', k1, k2, k3⟩ := k.ch g cur 62 h3
  refine ⟨g, cur', h1, h2, k1, by omega, fun j u hj hu => ?_⟩
  rcases k3 _ u hu with h6 | h6
  · exact (h5 j u hj h6).ch k
  · exact h6.2.1 rfl (by omega)
theorem ShL.ch {cur cur' : Array Value} {o : Nat} (h : ShL W B cur (o * 7)) (k : Ch B W W') (hs : cur'.size = cur.size) (hc : ∀ j u, cur'[j]? = some u → cur[j]? = some u ∨ Gd W' B 28 j u) : ShL W' B cur' (o * 7) := by
  have hg : ∀ i x, cur[i]? = some x → ∃ y, cur'[i]? = some y := fun i x hx => by
    have := (Array.getElem?_eq_some_iff.1 hx).1
    exact ⟨cur'[i]'(by omega), Array.getElem?_eq_getElem (by omega)⟩
  constructor
  · obtain ⟨x, hx⟩ := h.b
    obtain ⟨y, hy⟩ := hg _ _ hx
    rcases hc _ y hy with e | e
    · rw [hx] at e; exact ⟨x, hy.trans e.symm⟩
    · obtain ⟨z, hz⟩ := (e.2.2 rfl).1 (by omega); exact ⟨z, by rw [hy, hz]⟩
  · obtain ⟨x, hx, hr⟩ := h.a
    obtain ⟨y, hy⟩ := hg _ _ hx
    rcases hc _ y hy with e | e
    · rw [hx] at e; injection e with e; subst e; exact ⟨_, hy, hr.ch k⟩
    · exact ⟨y, hy, (e.2.2 rfl).2.1 (by omega)⟩
  · obtain ⟨x, hx, hr⟩ := h.k
    obtain ⟨y, hy⟩ := hg _ _ hx
    rcases hc _ y hy with e | e
    · rw [hx] at e; injection e with e; subst e; exact ⟨_, hy, hr.ch k⟩
    · exact ⟨y, hy, (e.2.2 rfl).2.2.1 (by omega)⟩
  · obtain ⟨x, hx, hr⟩ := h.p
    obtain ⟨y, hy⟩ := hg _ _ hx
    rcases hc _ y hy with e | e
    · rw [hx] at e; injection e with e; subst e; exact ⟨_, hy, hr.ch k⟩
    · exact ⟨y, hy, (e.2.2 rfl).2.2.2.1 (by omega)⟩
  · obtain ⟨x, hx⟩ := h.e
    obtain ⟨y, hy⟩ := hg _ _ hx
    rcases hc _ y hy with e | e
    · rw [hx] at e; exact ⟨x, hy.trans e.symm⟩
    · obtain ⟨z, hz⟩ := (e.2.2 rfl).2.2.2.2.1 (by omega); exact ⟨z, by rw [hy, hz]⟩
  · obtain ⟨x, hx, hr⟩ := h.r
    obtain ⟨y, hy⟩ := hg _ _ hx
    rcases hc _ y hy with e | e
    · rw [hx] at e; injection e with e; subst e; exact ⟨_, hy, hr.ch k⟩
    · exact ⟨y, hy, (e.2.2 rfl).2.2.2.2.2.1 (by omega)⟩
  · obtain ⟨x, hx⟩ := h.c
    obtain ⟨y, hy⟩ := hg _ _ hx
    rcases hc _ y hy with e | e
    · rw [hx] at e; exact ⟨x, hy.trans e.symm⟩
    · obtain ⟨z, hz⟩ := (e.2.2 rfl).2.2.2.2.2.2 (by omega); exact ⟨z, by rw [hy, hz]⟩
theorem ShQ.ch (h : ShQ W B v) (k : Ch B W W') : ShQ W' B v := by
  obtain ⟨a, n, c, e, hn, h⟩ := h
  refine ⟨a, n, c, e, hn, h.imp id ?_⟩
  rintro ⟨g, cur, h1, h2, h3, h4⟩
  obtain ⟨cur', k1, k2, k3⟩ := k.ch g cur 28 h3
  exact ⟨g, cur', h1, h2, k1, fun j hj => (h4 j hj).ch k k2 k3⟩
theorem Gd.ch {t : TypeId} {j : Nat} (h : Gd W B t j v) (k : Ch B W W') : Gd W' B t j v :=
  ⟨fun e => (h.1 e).ch k, fun e f => (h.2.1 e f).ch k, fun e => ⟨(h.2.2 e).1, fun f => ((h.2.2 e).2.1 f).ch k, fun f => ((h.2.2 e).2.2.1 f).ch k, fun f => ((h.2.2 e).2.2.2.1 f).ch k, (h.2.2 e).2.2.2.2.1, fun f => ((h.2.2 e).2.2.2.2.2.1 f).ch k, (h.2.2 e).2.2.2.2.2.2⟩⟩
theorem Ch.refl (B : Nat) (W : World) : Ch B W W := ⟨Below.refl _ _, fun _ cur _ h => ⟨cur, h, rfl, fun _ _ hu => .inl hu⟩⟩
theorem Ch.trans (h : Ch B W W') (k : Ch B W' W'') : Ch B W W'' := by
  refine ⟨h.bl.trans k.bl, fun b cur t hb => ?_⟩
  obtain ⟨c1, a1, a2, a3⟩ := h.ch b cur t hb
  obtain ⟨c2, b1, b2, b3⟩ := k.ch b c1 t a1
  refine ⟨c2, b1, by omega, fun j u hu => ?_⟩
  rcases b3 j u hu with e | e
  · rcases a3 j u e with f | f
    · exact .inl f
    · exact .inr (f.ch k)
  · exact .inr e
theorem Ch.ext (h : Ch B W W') (hB : B ≤ W'.heap.size) (hb : Below W'.heap.size W' W'') : Ch B W W'' :=
  h.trans ⟨hb.mono hB, fun b cur _ hc => ⟨cur, (hb.block b (Array.getElem?_eq_some_iff.1 hc).1).trans hc, rfl, fun _ _ hu => .inl hu⟩⟩
theorem Ch.set {g j : Nat} {cur : Array Value} {t : TypeId} {u : Value} (hg : W.heap[g]? = some (Obj.cells cur t (0, 0))) (hB : B ≤ g) (hu : Gd (W.setCell ⟨g, j, none⟩ u) B t j u) : Ch B W (W.setCell ⟨g, j, none⟩ u) := by
  refine ⟨(Below.refl _ _).setCell hB _, fun b cur' t' hb => ?_⟩
  by_cases e : b = g
  · subst e
    rw [hg] at hb
    injection hb with hb
    injection hb with e1 e2 e3
    subst e1 e2
    refine ⟨_, cells_setS hg, by simp, fun i x hx => ?_⟩
    rw [Array.getElem?_setIfInBounds] at hx
    by_cases ei : j = i
    · subst ei
      rw [if_pos rfl] at hx
      split at hx
      · injection hx with hx
        subst hx
        exact .inr hu
      · cases hx
    · rw [if_neg ei] at hx
      exact .inl hx
  · refine ⟨cur', ?_, rfl, fun _ _ h => .inl h⟩
    show (W.heap.modify g _)[b]? = _
    rw [Array.getElem?_modify, if_neg (fun h => e h.symm)]
    exact hb
/-- a set keeps its shape, whatever is written -/
theorem ShS.set {g j : Nat} {u : Value} (h : ShS W B v) : ShS (W.setCell ⟨g, j, none⟩ u) B v := by
  obtain ⟨a, n, c, e, hn, h⟩ := h
  refine ⟨a, n, c, e, hn, h.imp id ?_⟩
  rintro ⟨g', cur, h1, h2, h3, h4⟩
  by_cases eg : g' = g
  · subst eg
    exact ⟨g', _, h1, h2, cells_setS h3, by simpa using h4⟩
  · refine ⟨g', cur, h1, h2, ?_, h4⟩
    show (W.heap.modify g _)[g']? = _
    rw [Array.getElem?_modify, if_neg (fun h => eg h.symm)]
    exact h3
theorem shS_nil : ShS W B (.slice none 0 0) := ⟨none, 0, 0, rfl, by omega, .inl rfl⟩
theorem shR_nil : ShR W B (.slice none 0 0) := ⟨none, 0, 0, rfl, by omega, .inl rfl⟩
theorem shP_nil : ShP W B (.slice none 0 0) := ⟨none, 0, 0, rfl, by omega, .inl rfl⟩
end

theorem blk_cell {W : World} {g k : Nat} {cur : Array Value} {t : TypeId} (h : W.heap[g]? = some (.cells cur t (0, 0))) (hk : k < cur.size) : (∃ x, W.cell? ⟨g, k, none⟩ = some x ∧ cur[k]? = some x) ∧ W.frozen? ⟨g, k, none⟩ = false :=
  ⟨⟨cur[k], by rw [cell_of h, Array.getElem?_eq_getElem hk], Array.getElem?_eq_getElem hk⟩, by simp [World.frozen?, h]⟩
theorem set_blk {W : World} {g j : Nat} {cur : Array Value} {t : TypeId} {u : Value} (h : W.heap[g]? = some (.cells cur t (0, 0))) : ∃ cur', (W.setCell ⟨g, j, none⟩ u).heap[g]? = some (.cells cur' t (0, 0)) ∧ cur'.size = cur.size := ⟨_, cells_setS h, by simp⟩
/-- shapes stay, and blocks of other types are the same -/
def Sp (T : TypeId → Prop) (B : Nat) (W W' : World) : Prop := Ch B W W' ∧ ∀ t, ¬ T t → KT t W W'
theorem Sp.refl (T : TypeId → Prop) (B : Nat) (W : World) : Sp T B W W := ⟨Ch.refl _ _, fun _ _ _ _ _ h => h⟩
theorem Sp.trans {T : TypeId → Prop} {B : Nat} {W W' W'' : World} (h : Sp T B W W') (k : Sp T B W' W'') : Sp T B W W'' := ⟨h.1.trans k.1, fun t ht b cs m hb => k.2 t ht b cs m (h.2 t ht b cs m hb)⟩
theorem Sp.mono {T T' : TypeId → Prop} {B : Nat} {W W' : World} (h : Sp T B W W') (k : ∀ t, T t → T' t) : Sp T' B W W' := ⟨h.1, fun t ht => h.2 t (fun a => ht (k t a))⟩
def T1 : TypeId → Prop := fun t => t = 59
def T2 : TypeId → Prop := fun t => t = 59 ∨ t = 48
def T3 : TypeId → Prop := fun t => t = 59 ∨ t = 48 ∨ t = 62
def T4 : TypeId → Prop := fun t => t = 59 ∨ t = 48 ∨ t = 62 ∨ t = 28
theorem Sp.set {T : TypeId → Prop} {B g j : Nat} {W : World} {cur : Array Value} {t : TypeId} {u : Value} (hT : T t) (hg : W.heap[g]? = some (Obj.cells cur t (0, 0))) (hB : B ≤ g) (hu : Gd (W.setCell ⟨g, j, none⟩ u) B t j u) : Sp T B W (W.setCell ⟨g, j, none⟩ u) :=
  ⟨Ch.set hg hB hu, fun t' ht => KT.set _ _ _ _ (fun cs m e => by rw [hg] at e; injection e with e; injection e with _ e2 _; subst e2; exact ht hT)⟩
theorem Sp.new {T : TypeId → Prop} {W : World} {B : Nat} (o : Obj) (hB : B ≤ W.heap.size) : Sp T B W (W.alloc o) := ⟨(Ch.refl B W).ext hB ((Below.refl _ W).alloc (Nat.le_refl _) o), fun _ _ => KT.below ((Below.refl _ W).alloc (Nat.le_refl _) o)⟩
theorem gd59 (W : World) (B j : Nat) (u : Value) : Gd W B 59 j u := ⟨fun e => (by cases e), fun e => (by cases e), fun e => (by cases e)⟩
set_option maxHeartbeats 2000000 in
theorem spoilSet_any (v : Value) (B : Nat) (w : World) (h : ShS w B v) : Calls Tryd.prog 45 #[v] w fun e w' => (∃ x, e = .returned x) ∧ Sp T1 B w w' := by
  have HS : Hid (ShS w B v) := h
  obtain ⟨a, n, c, rfl, hn, _⟩ := h
  have hnI : (n : Int) ≤ 1048576 := by omega
  go_enter Tryd.func45, Tryd.ntmps45
  go_wp2
  go_loopw [5] (fun vi wr => ∃ k : Nat, vi = .int .i64 k ∧ k ≤ n ∧ Hid (Sp T1 B w wr)) (fun vi _ => n - (intOf vi).toNat)
  case atStart => exact ⟨0, rfl, by omega, Sp.refl _ _ _⟩
  case round =>
    obtain ⟨k, rfl, hk, HC⟩ := hrel
    have hk0 : (0 : Int) ≤ (k : Int) := by omega
    by_cases hlt : k < n
    · as_aux_lemma =>
        have hlt' : (k : Int) < (n : Int) := by omega
        obtain ⟨a', n', c', e, _, h⟩ := HS.out.ch HC.out.1
        injection e with e1 e2 e3
        subst e1 e2 e3
        obtain ⟨g, cur, rfl, hB, hg, hs⟩ := h.resolve_left (by omega)
        obtain ⟨⟨x0, c0, _⟩, f0⟩ := blk_cell hg (k := k * 2) (by omega)
        obtain ⟨⟨x1, c1, _⟩, f1⟩ := blk_cell hg (k := k * 2 + 1) (by omega)
        obtain ⟨cur1, hg1, hs1⟩ := set_blk (j := k * 2) (u := .int .i64 97) hg
        obtain ⟨⟨x2, c2, _⟩, f2⟩ := blk_cell hg1 (k := k * 2 + 1) (by omega)
        have HE : Hid (Sp T1 B w ((wr.setCell ⟨g, k * 2, none⟩ (.int .i64 97)).setCell ⟨g, k * 2 + 1, none⟩ (.int .i64 122))) := (HC.out.trans (Sp.set rfl hg hB (gd59 _ _ _ _))).trans (Sp.set rfl hg1 hB (gd59 _ _ _ _))
        clear HC hg hg1 h
        go_wp2
        exact ⟨⟨k + 1, by go_num, by omega, HE⟩, by simp [intOf]; omega⟩
    · as_aux_lemma =>
        have hge : ¬ (k : Int) < (n : Int) := by omega
        go_wp2
        go_end0
        exact ⟨⟨_, rfl⟩, HC.out⟩

theorem gd48 {W : World} {B : Nat} {u : Value} (j : Nat) (h : ShS W B u) : Gd W B 48 j u := ⟨fun _ => h, fun e => (by cases e), fun e => (by cases e)⟩
/-- a new set of one range -/
theorem shS_new {W : World} {B : Nat} (x y : Value) (hB : B ≤ W.heap.size) : ShS (W.alloc (.cells #[x, y] 59)) B (.slice (some ⟨W.heap.size, 0, none⟩) 1 1) :=
  ⟨_, 1, 1, rfl, by omega, .inr ⟨W.heap.size, _, rfl, hB, heap_alloc_new _ _, Nat.le_refl _⟩⟩
theorem ch_new {W : World} {B : Nat} (o : Obj) (hB : B ≤ W.heap.size) : Ch B W (W.alloc o) := (Ch.refl B W).ext hB ((Below.refl _ W).alloc (Nat.le_refl _) o)
set_option maxHeartbeats 2000000 in
theorem spoilRow_any (v : Value) (B : Nat) (w : World) (hB : B ≤ w.heap.size) (h : ShR w B v) : Calls Tryd.prog 44 #[v] w fun e w' => (∃ x, e = .returned x) ∧ Sp T2 B w w' := by
  have HS : Hid (ShR w B v) := h
  have HB : Hid (B ≤ w.heap.size) := hB
  obtain ⟨a, n, c, rfl, hn, _⟩ := h
  have hnI : (n : Int) ≤ 1048576 := by omega
  clear hB
  go_enter Tryd.func44, Tryd.ntmps44
  go_wp2
  go_loopw [5] (fun vi wr => ∃ k : Nat, vi = .int .i64 k ∧ k ≤ n ∧ Hid (Sp T2 B w wr)) (fun vi _ => n - (intOf vi).toNat)
  case atStart => exact ⟨0, rfl, by omega, Sp.refl _ _ _⟩
  case round =>
    obtain ⟨k, rfl, hk, HC⟩ := hrel
    have hk0 : (0 : Int) ≤ (k : Int) := by omega
    by_cases hlt : k < n
    · have hlt' : (k : Int) < (n : Int) := by omega
      obtain ⟨a', n', c', e, _, h⟩ := HS.out.ch HC.out.1
      injection e with e1 e2 e3
      subst e1 e2 e3
      obtain ⟨g, cur, rfl, hB, hg, hs, hel⟩ := h.resolve_left (by omega)
      obtain ⟨⟨x0, c0, hx0⟩, f0⟩ := blk_cell hg (k := k) (by omega)
      have HX := hel k x0 hlt hx0
      have HCall : Hid (Calls Tryd.prog 45 #[x0] wr fun e w' => (∃ x, e = .returned x) ∧ Sp T1 B wr w') := spoilSet_any x0 B wr HX
      obtain ⟨s1, s2, s3, hx, _⟩ := HX
      subst hx
      have HG : Hid (∃ cur, wr.heap[g]? = some (.cells cur 48 (0, 0)) ∧ n ≤ cur.size) := ⟨cur, hg, hs⟩
      clear hg h hel hx0 f0
      go_wp2_with fail
      refine HCall.out.mono ?_
      rintro e w4 ⟨⟨x, rfl⟩, hc4⟩
      obtain ⟨cur4, hg4, hs4⟩ : ∃ cur, w4.heap[g]? = some (.cells cur 48 (0, 0)) ∧ n ≤ cur.size := by
        obtain ⟨cu, h1, h2⟩ := HG.out
        obtain ⟨cu', h3, h4, _⟩ := hc4.1.ch g cu 48 h1
        exact ⟨cu', h3, by omega⟩
      have hC4 := HC.out.trans (hc4.mono fun t ht => .inl ht)
      have hB4 : B ≤ w4.heap.size := Nat.le_trans HB.out hC4.1.bl.size
      have hg5 : (w4.alloc (.cells #[.int .i64 97, .int .i64 98] 59)).heap[g]? = some (.cells cur4 48 (0, 0)) := alloc_up hg4
      obtain ⟨⟨x5, c5, _⟩, f5⟩ := blk_cell hg5 (k := k) (by omega)
      have HE : Hid (Sp T2 B w ((w4.alloc (.cells #[.int .i64 97, .int .i64 98] 59)).setCell ⟨g, k, none⟩ (.slice (some ⟨w4.heap.size, 0, none⟩) 1 1))) := (hC4.trans (Sp.new _ hB4)).trans (Sp.set (.inr rfl) hg5 hB (gd48 _ (shS_new _ _ hB4).set))
      clear HCall hc4 hC4 hg4 hg5 HG c0 HC
      go_wp2
      exact ⟨⟨k + 1, by go_num, by omega, HE⟩, by simp [intOf]; omega⟩
    · as_aux_lemma =>
        have hge : ¬ (k : Int) < (n : Int) := by omega
        go_wp2
        go_end0
        exact ⟨⟨_, rfl⟩, HC.out⟩
theorem gd62 {W : World} {B : Nat} {u : Value} {j : Nat} (h : j % 4 = 3 → ShS W B u) : Gd W B 62 j u := ⟨fun e => (by cases e), fun _ => h, fun e => (by cases e)⟩
/-- a piece is written -/
theorem ch_piece {W : World} {B g k : Nat} {cur : Array Value} (hg : W.heap[g]? = some (.cells cur 62 (0, 0))) (hB : B ≤ g) (a b c : Int) : Sp T3 B W ((((W.setCell ⟨g, k * 4, none⟩ (.int .i64 a)).setCell ⟨g, k * 4 + 1, none⟩ (.int .i64 b)).setCell ⟨g, k * 4 + 2, none⟩ (.int .i64 c)).setCell ⟨g, k * 4 + 3, none⟩ (.slice none 0 0)) := by
  obtain ⟨c1, h1, _⟩ := set_blk (j := k * 4) (u := .int .i64 a) hg
  obtain ⟨c2, h2, _⟩ := set_blk (j := k * 4 + 1) (u := .int .i64 b) h1
  obtain ⟨c3, h3, _⟩ := set_blk (j := k * 4 + 2) (u := .int .i64 c) h2
  exact (((Sp.set (.inr (.inr rfl)) hg hB (gd62 (fun e => by omega))).trans (Sp.set (.inr (.inr rfl)) h1 hB (gd62 (fun e => by omega)))).trans (Sp.set (.inr (.inr rfl)) h2 hB (gd62 (fun e => by omega)))).trans (Sp.set (.inr (.inr rfl)) h3 hB (gd62 (fun _ => shS_nil)))
set_option maxHeartbeats 4000000 in
theorem spoilRule_any (bg en : Bool) (cu : Int) (av kv pv rv : Value) (B : Nat) (w : World) (hB : B ≤ w.heap.size) (ha : ShR w B av) (hk : ShR w B kv) (hp : ShR w B pv) (hr : ShP w B rv) : Calls Tryd.prog 31 #[.agg #[.bool bg, av, kv, pv, .bool en, rv, .int .i64 cu]] w fun e w' => (∃ x, e = .returned x) ∧ Sp T3 B w w' := by
  have HB : Hid (B ≤ w.heap.size) := hB
  have h23 : ∀ t, T2 t → T3 t := fun t ht => ht.elim .inl fun e => .inr (.inl e)
  have HA : Hid (∀ W, Sp T3 B w W → Calls Tryd.prog 44 #[av] W fun e w' => (∃ x, e = .returned x) ∧ Sp T3 B W w') := fun W hc => (spoilRow_any av B W (Nat.le_trans hB hc.1.bl.size) (ha.ch hc.1)).mono fun _ _ h => ⟨h.1, h.2.mono h23⟩
  have HK : Hid (∀ W, Sp T3 B w W → Calls Tryd.prog 44 #[kv] W fun e w' => (∃ x, e = .returned x) ∧ Sp T3 B W w') := fun W hc => (spoilRow_any kv B W (Nat.le_trans hB hc.1.bl.size) (hk.ch hc.1)).mono fun _ _ h => ⟨h.1, h.2.mono h23⟩
  have HP : Hid (∀ W, Sp T3 B w W → Calls Tryd.prog 44 #[pv] W fun e w' => (∃ x, e = .returned x) ∧ Sp T3 B W w') := fun W hc => (spoilRow_any pv B W (Nat.le_trans hB hc.1.bl.size) (hp.ch hc.1)).mono fun _ _ h => ⟨h.1, h.2.mono h23⟩
  have HR : Hid (ShP w B rv) := hr
  obtain ⟨a1, a2, a3, rfl, _⟩ := ha
  obtain ⟨k1, k2, k3, rfl, _⟩ := hk
  obtain ⟨p1, p2, p3, rfl, _⟩ := hp
  obtain ⟨r1, n, r3, rfl, hn, _⟩ := hr
  have hnI : (n : Int) ≤ 1048576 := by omega
  obtain ⟨w1, hw1⟩ : ∃ w1, w1 = w.alloc (.cells #[.bool bg, .slice a1 a2 a3, .slice k1 k2 k3, .slice p1 p2 p3, .bool en, .slice r1 n r3, .int .i64 cu] 28) := ⟨_, rfl⟩
  have HC1 : Hid (Sp T3 B w w1) := by show Sp _ _ _ _; rw [hw1]; exact Sp.new _ hB
  have hb1 : w1.heap[w.heap.size]? = some (.cells #[.bool bg, .slice a1 a2 a3, .slice k1 k2 k3, .slice p1 p2 p3, .bool en, .slice r1 n r3, .int .i64 cu] 28 (0, 0)) := by rw [hw1]; exact heap_alloc_new _ _
  obtain ⟨b, hb⟩ : ∃ b, w.heap.size = b := ⟨_, rfl⟩
  rw [hb] at hb1
  have HBX : Hid (∀ W, Sp T3 B w1 W → W.cell? ⟨b, 1, none⟩ = some (.slice a1 a2 a3) ∧ W.cell? ⟨b, 2, none⟩ = some (.slice k1 k2 k3) ∧ W.cell? ⟨b, 3, none⟩ = some (.slice p1 p2 p3) ∧ W.cell? ⟨b, 5, none⟩ = some (.slice r1 n r3)) := fun W hc => by
    have h1 := hc.2 28 (fun h => by rcases h with h | h | h <;> cases h) b _ _ hb1
    exact ⟨by rw [cell_of h1]; rfl, by rw [cell_of h1]; rfl, by rw [cell_of h1]; rfl, by rw [cell_of h1]; rfl⟩
  have HW := Hid.mk' hw1
  have HBB := Hid.mk' hb
  obtain ⟨c1, _, _, _⟩ := HBX.out w1 (Sp.refl _ _ _)
  have c1' := c1
  rw [hw1] at c1'
  clear hB hb1 hw1 h23
  go_enter Tryd.func31, Tryd.ntmps31
  go_wp2_with fail
  try rw [← HW.out]
  try rw [hb]
  clear hb c1' HBB HW
  refine (HA.out _ HC1.out).mono ?_
  rintro e w2 ⟨⟨x, rfl⟩, hc2⟩
  have HC2 := Hid.mk' hc2
  obtain ⟨_, c2, _, _⟩ := HBX.out w2 hc2
  clear hc2 c1
  go_wp2_with fail
  refine (HK.out _ (HC1.out.trans HC2.out)).mono ?_
  rintro e w3 ⟨⟨y, rfl⟩, hc3⟩
  have HC3 := Hid.mk' (HC2.out.trans hc3)
  obtain ⟨_, _, c3, _⟩ := HBX.out w3 HC3.out
  clear hc3 c2 HC2
  go_wp2_with fail
  refine (HP.out _ (HC1.out.trans HC3.out)).mono ?_
  rintro e w4 ⟨⟨z, rfl⟩, hc4⟩
  have HC4 := Hid.mk' (HC3.out.trans hc4)
  obtain ⟨_, _, _, c4⟩ := HBX.out w4 HC4.out
  clear hc4 c3 HC3
  go_wp2_with fail
  clear c4
  go_loopw [15] (fun vi wr => ∃ k : Nat, vi = .int .i64 k ∧ k ≤ n ∧ Hid (Sp T3 B w1 wr)) (fun vi _ => n - (intOf vi).toNat)
  case atStart => exact ⟨0, rfl, by omega, HC4⟩
  case round =>
    obtain ⟨k, rfl, hk, HC⟩ := hrel
    have hk0 : (0 : Int) ≤ (k : Int) := by omega
    by_cases hlt : k < n
    · have hlt' : (k : Int) < (n : Int) := by omega
      obtain ⟨a', n', c', e, _, h⟩ := HR.out.ch (HC1.out.trans HC.out).1
      injection e with e1 e2 e3
      subst e1 e2 e3
      obtain ⟨g, cur, rfl, hB, hg, hs, hel⟩ := h.resolve_left (by omega)
      obtain ⟨⟨x0, c0, hx0⟩, f0⟩ := blk_cell hg (k := k * 4 + 3) (by omega)
      have HX := hel k x0 hlt hx0
      have HCall : Hid (Calls Tryd.prog 45 #[x0] wr fun e w' => (∃ x, e = .returned x) ∧ Sp T1 B wr w') := spoilSet_any x0 B wr HX
      obtain ⟨s1, s2, s3, hx, _⟩ := HX
      subst hx
      have HG : Hid (wr.heap[g]? = some (.cells cur 62 (0, 0)) ∧ n * 4 ≤ cur.size) := ⟨hg, hs⟩
      obtain ⟨_, _, _, c5⟩ := HBX.out wr HC.out
      clear hg h hel hx0 f0
      go_wp2_with fail
      refine HCall.out.mono ?_
      rintro e w5 ⟨⟨x, rfl⟩, hc5⟩
      have hg5 := hc5.2 62 (fun h => by cases h) g _ _ HG.out.1
      have HC5 := Hid.mk' (HC.out.trans (hc5.mono fun t ht => .inl ht))
      obtain ⟨_, _, _, d5⟩ := HBX.out w5 HC5.out
      have hs5 := HG.out.2
      obtain ⟨⟨y0, u0, _⟩, v0⟩ := blk_cell hg5 (k := k * 4) (by omega)
      obtain ⟨cu1, hg6, hs6⟩ := set_blk (j := k * 4) (u := .int .i64 1) hg5
      obtain ⟨⟨y1, u1, _⟩, v1⟩ := blk_cell hg6 (k := k * 4 + 1) (by omega)
      obtain ⟨cu2, hg7, hs7⟩ := set_blk (j := k * 4 + 1) (u := .int .i64 113) hg6
      obtain ⟨⟨y2, u2, _⟩, v2⟩ := blk_cell hg7 (k := k * 4 + 2) (by omega)
      obtain ⟨cu3, hg8, hs8⟩ := set_blk (j := k * 4 + 2) (u := .int .i64 0) hg7
      obtain ⟨⟨y3, u3, _⟩, v3⟩ := blk_cell hg8 (k := k * 4 + 3) (by omega)
      have HE : Hid (Sp T3 B w1 ((((w5.setCell ⟨g, k * 4, none⟩ (.int .i64 1)).setCell ⟨g, k * 4 + 1, none⟩ (.int .i64 113)).setCell ⟨g, k * 4 + 2, none⟩ (.int .i64 0)).setCell ⟨g, k * 4 + 3, none⟩ (.slice none 0 0))) := HC5.out.trans (ch_piece hg5 hB 1 113 0)
      clear HCall hc5 hg5 hg6 hg7 hg8 HG c0 c5 HC
      go_wp2
      exact ⟨⟨k + 1, by go_num, by omega, HE⟩, by simp [intOf]; omega⟩
    · as_aux_lemma =>
        have hge : ¬ (k : Int) < (n : Int) := by omega
        go_wp2
        go_end0
        exact ⟨⟨_, rfl⟩, HC1.out.trans HC.out⟩

theorem ShR.set28 {W : World} {B g j : Nat} {cur : Array Value} {u x : Value} (h : ShR W B u) (hg : W.heap[g]? = some (.cells cur 28 (0, 0))) : ShR (W.setCell ⟨g, j, none⟩ x) B u := by
  obtain ⟨a, n, c, e, hn, h⟩ := h
  refine ⟨a, n, c, e, hn, h.imp id ?_⟩
  rintro ⟨g', cur', h1, h2, h3, h4, h5⟩
  have hne : g ≠ g' := fun e => by
    subst e
    rw [hg] at h3
    injection h3 with h3
    injection h3 with _ e2 _
    cases e2
  refine ⟨g', cur', h1, h2, ?_, h4, fun i y hi hy => (h5 i y hi hy).set⟩
  show (W.heap.modify g _)[g']? = _
  rw [Array.getElem?_modify, if_neg hne]
  exact h3
theorem gd28 {W : World} {B : Nat} {u : Value} {j : Nat} (h : (j % 7 = 0 → ∃ x, u = .bool x) ∧ (j % 7 = 1 → ShR W B u) ∧ (j % 7 = 2 → ShR W B u) ∧ (j % 7 = 3 → ShR W B u) ∧ (j % 7 = 4 → ∃ x, u = .bool x) ∧ (j % 7 = 5 → ShP W B u) ∧ (j % 7 = 6 → ∃ x, u = .int .i64 x)) : Gd W B 28 j u := ⟨fun e => (by cases e), fun e => (by cases e), fun _ => h⟩
/-- a rule is written -/
def setR (W : World) (g o : Nat) (u : Value) : World := ((((((W.setCell ⟨g, o, none⟩ (.bool false)).setCell ⟨g, o + 1, none⟩ (.slice none 0 0)).setCell ⟨g, o + 2, none⟩ u).setCell ⟨g, o + 3, none⟩ (.slice none 0 0)).setCell ⟨g, o + 4, none⟩ (.bool false)).setCell ⟨g, o + 5, none⟩ (.slice none 0 0)).setCell ⟨g, o + 6, none⟩ (.int .i64 0)
theorem ch_rule {W : World} {B g k : Nat} {cur : Array Value} {u : Value} (hg : W.heap[g]? = some (.cells cur 28 (0, 0))) (hB : B ≤ g) (hu : ShR W B u) : Sp T4 B W (setR W g (k * 7) u) := by
  have T : T4 28 := .inr (.inr (.inr rfl))
  obtain ⟨c1, h1, _⟩ := set_blk (j := k * 7) (u := .bool false) hg
  obtain ⟨c2, h2, _⟩ := set_blk (j := k * 7 + 1) (u := .slice none 0 0) h1
  obtain ⟨c3, h3, _⟩ := set_blk (j := k * 7 + 2) (u := u) h2
  obtain ⟨c4, h4, _⟩ := set_blk (j := k * 7 + 3) (u := .slice none 0 0) h3
  obtain ⟨c5, h5, _⟩ := set_blk (j := k * 7 + 4) (u := .bool false) h4
  obtain ⟨c6, h6, _⟩ := set_blk (j := k * 7 + 5) (u := .slice none 0 0) h5
  have s1 := Sp.set (B := B) (j := k * 7) (u := .bool false) T hg hB (gd28 ⟨fun _ => ⟨_, rfl⟩, fun e => by omega, fun e => by omega, fun e => by omega, fun e => by omega, fun e => by omega, fun e => by omega⟩)
  have s2 := Sp.set (B := B) (j := k * 7 + 1) (u := .slice none 0 0) T h1 hB (gd28 ⟨fun e => by omega, fun _ => shR_nil, fun e => by omega, fun e => by omega, fun e => by omega, fun e => by omega, fun e => by omega⟩)
  have s3 := Sp.set (B := B) (j := k * 7 + 2) (u := u) T h2 hB (gd28 ⟨fun e => by omega, fun e => by omega, fun _ => ((hu.set28 hg).set28 h1).set28 h2, fun e => by omega, fun e => by omega, fun e => by omega, fun e => by omega⟩)
  have s4 := Sp.set (B := B) (j := k * 7 + 3) (u := .slice none 0 0) T h3 hB (gd28 ⟨fun e => by omega, fun e => by omega, fun e => by omega, fun _ => shR_nil, fun e => by omega, fun e => by omega, fun e => by omega⟩)
  have s5 := Sp.set (B := B) (j := k * 7 + 4) (u := .bool false) T h4 hB (gd28 ⟨fun e => by omega, fun e => by omega, fun e => by omega, fun e => by omega, fun _ => ⟨_, rfl⟩, fun e => by omega, fun e => by omega⟩)
  have s6 := Sp.set (B := B) (j := k * 7 + 5) (u := .slice none 0 0) T h5 hB (gd28 ⟨fun e => by omega, fun e => by omega, fun e => by omega, fun e => by omega, fun e => by omega, fun _ => shP_nil, fun e => by omega⟩)
  have s7 := Sp.set (B := B) (j := k * 7 + 6) (u := .int .i64 0) T h6 hB (gd28 ⟨fun e => by omega, fun e => by omega, fun e => by omega, fun e => by omega, fun e => by omega, fun e => by omega, fun _ => ⟨_, rfl⟩⟩)
  exact (((((s1.trans s2).trans s3).trans s4).trans s5).trans s6).trans s7
theorem shR_new {W : World} {B : Nat} (hB : B ≤ W.heap.size) (x y : Value) : ShR ((W.alloc (.cells #[x, y] 59)).alloc (.cells #[.slice (some ⟨W.heap.size, 0, none⟩) 1 1] 48)) B (.slice (some ⟨W.heap.size + 1, 0, none⟩) 1 1) := by
  refine ⟨_, 1, 1, rfl, by omega, .inr ⟨W.heap.size + 1, _, rfl, by omega, alloc_at (size_up _ _).symm, Nat.le_refl _, fun j u hj hu => ?_⟩⟩
  obtain rfl : j = 0 := by omega
  injection hu with hu
  subst hu
  exact (shS_new x y hB).ch (Ch.ext (Ch.refl _ _) (by rw [size_up]; omega) ((Below.refl _ _).alloc (Nat.le_refl _) _))
set_option maxHeartbeats 4000000 in
theorem spoilPass_any (v : Value) (B : Nat) (w : World) (hB : B ≤ w.heap.size) (h : ShQ w B v) : Calls Tryd.prog 18 #[.agg #[v]] w fun e w' => (∃ x, e = .returned x) ∧ Sp T4 B w w' := by
  have HQ : Hid (ShQ w B v) := h
  have HB : Hid (B ≤ w.heap.size) := hB
  obtain ⟨r1, n, r3, rfl, hn, _⟩ := h
  have hnI : (n : Int) ≤ 1048576 := by omega
  obtain ⟨w1, hw1⟩ : ∃ w1, w1 = w.alloc (.cells #[.slice r1 n r3] 24) := ⟨_, rfl⟩
  have HC1 : Hid (Sp T4 B w w1) := by show Sp _ _ _ _; rw [hw1]; exact Sp.new _ hB
  have hb1 : w1.heap[w.heap.size]? = some (.cells #[.slice r1 n r3] 24 (0, 0)) := by rw [hw1]; exact heap_alloc_new _ _
  obtain ⟨b, hb⟩ : ∃ b, w.heap.size = b := ⟨_, rfl⟩
  rw [hb] at hb1
  have HBX : Hid (∀ W, Sp T4 B w1 W → W.cell? ⟨b, 0, none⟩ = some (.slice r1 n r3)) := fun W hc => by
    have h1 := hc.2 24 (fun h => by rcases h with h | h | h | h <;> cases h) b _ _ hb1
    rw [cell_of h1]; rfl
  have HW := Hid.mk' hw1
  have c1 := HBX.out w1 (Sp.refl _ _ _)
  have c1' := c1
  rw [hw1] at c1'
  clear hB hb1 hw1
  go_enter Tryd.func18, Tryd.ntmps18
  go_wp2_with fail
  try rw [← HW.out]
  try rw [hb]
  clear hb c1' HW c1
  go_loopw [6] (fun vi wr => ∃ k : Nat, vi = .int .i64 k ∧ k ≤ n ∧ Hid (Sp T4 B w1 wr)) (fun vi _ => n - (intOf vi).toNat)
  case atStart => exact ⟨0, rfl, by omega, Sp.refl _ _ _⟩
  case round =>
    obtain ⟨k, rfl, hk, HC⟩ := hrel
    have hk0 : (0 : Int) ≤ (k : Int) := by omega
    by_cases hlt : k < n
    · have hlt' : (k : Int) < (n : Int) := by omega
      obtain ⟨a', n', c', e, _, h⟩ := HQ.out.ch (HC1.out.trans HC.out).1
      injection e with e1 e2 e3
      subst e1 e2 e3
      obtain ⟨g, cur, rfl, hB, hg, hel⟩ := h.resolve_left (by omega)
      obtain ⟨⟨x0, y0⟩, ⟨x1, y1, z1⟩, ⟨x2, y2, z2⟩, ⟨x3, y3, z3⟩, ⟨x4, y4⟩, ⟨x5, y5, z5⟩, ⟨x6, y6⟩⟩ := hel k hlt
      have hsz := (Array.getElem?_eq_some_iff.1 y6).1
      have q0 : wr.cell? ⟨g, k * 7, none⟩ = some (.bool x0) := by rw [cell_of hg]; exact y0
      have q1 : wr.cell? ⟨g, k * 7 + 1, none⟩ = some x1 := by rw [cell_of hg]; exact y1
      have q2 : wr.cell? ⟨g, k * 7 + 2, none⟩ = some x2 := by rw [cell_of hg]; exact y2
      have q3 : wr.cell? ⟨g, k * 7 + 3, none⟩ = some x3 := by rw [cell_of hg]; exact y3
      have q4 : wr.cell? ⟨g, k * 7 + 4, none⟩ = some (.bool x4) := by rw [cell_of hg]; exact y4
      have q5 : wr.cell? ⟨g, k * 7 + 5, none⟩ = some x5 := by rw [cell_of hg]; exact y5
      have q6 : wr.cell? ⟨g, k * 7 + 6, none⟩ = some (.int .i64 x6) := by rw [cell_of hg]; exact y6
      have hBr : B ≤ wr.heap.size := Nat.le_trans HB.out (HC1.out.trans HC.out).1.bl.size
      have HCall : Hid (Calls Tryd.prog 31 #[.agg #[.bool x0, x1, x2, x3, .bool x4, x5, .int .i64 x6]] wr fun e w' => (∃ x, e = .returned x) ∧ Sp T3 B wr w') := spoilRule_any x0 x4 x6 x1 x2 x3 x5 B wr hBr z1 z2 z3 z5
      obtain ⟨_, _, _, hx, _⟩ := z1
      subst hx
      obtain ⟨_, _, _, hx, _⟩ := z2
      subst hx
      obtain ⟨_, _, _, hx, _⟩ := z3
      subst hx
      obtain ⟨_, _, _, hx, _⟩ := z5
      subst hx
      have HG : Hid (wr.heap[g]? = some (.cells cur 28 (0, 0))) := hg
      have c5 := HBX.out wr HC.out
      clear hg h hel y0 y1 y2 y3 y4 y5 y6
      go_wp2_with fail
      refine HCall.out.mono ?_
      rintro e w5 ⟨⟨x, rfl⟩, hc5⟩
      have hg5 := hc5.2 28 (fun h => by rcases h with h | h | h <;> cases h) g _ _ HG.out
      have HC5 := Hid.mk' (HC.out.trans (hc5.mono fun t ht => by rcases ht with h | h | h; exact .inl h; exact .inr (.inl h); exact .inr (.inr (.inl h))))
      have d5 := HBX.out w5 HC5.out
      have hB5 : B ≤ w5.heap.size := Nat.le_trans hBr hc5.1.bl.size
      have hg6 : ((w5.alloc (.cells #[.int .i64 97, .int .i64 97] 59)).alloc (.cells #[.slice (some ⟨w5.heap.size, 0, none⟩) 1 1] 48)).heap[g]? = some (.cells cur 28 (0, 0)) := alloc_up (alloc_up hg5)
      obtain ⟨⟨_, u0, _⟩, v0⟩ := blk_cell hg6 (k := k * 7) (by omega)
      obtain ⟨e1, hh1, ss1⟩ := set_blk (j := k * 7) (u := .bool false) hg6
      obtain ⟨⟨_, u1, _⟩, v1⟩ := blk_cell hh1 (k := k * 7 + 1) (by omega)
      obtain ⟨e2, hh2, ss2⟩ := set_blk (j := k * 7 + 1) (u := .slice none 0 0) hh1
      obtain ⟨⟨_, u2, _⟩, v2⟩ := blk_cell hh2 (k := k * 7 + 2) (by omega)
      obtain ⟨e3, hh3, ss3⟩ := set_blk (j := k * 7 + 2) (u := .slice (some ⟨w5.heap.size + 1, 0, none⟩) 1 1) hh2
      obtain ⟨⟨_, u3, _⟩, v3⟩ := blk_cell hh3 (k := k * 7 + 3) (by omega)
      obtain ⟨e4, hh4, ss4⟩ := set_blk (j := k * 7 + 3) (u := .slice none 0 0) hh3
      obtain ⟨⟨_, u4, _⟩, v4⟩ := blk_cell hh4 (k := k * 7 + 4) (by omega)
      obtain ⟨e5, hh5, ss5⟩ := set_blk (j := k * 7 + 4) (u := .bool false) hh4
      obtain ⟨⟨_, u5, _⟩, v5⟩ := blk_cell hh5 (k := k * 7 + 5) (by omega)
      obtain ⟨e6, hh6, ss6⟩ := set_blk (j := k * 7 + 5) (u := .slice none 0 0) hh5
      obtain ⟨⟨_, u6, _⟩, v6⟩ := blk_cell hh6 (k := k * 7 + 6) (by omega)
      have HE : Hid (Sp T4 B w1 (setR ((w5.alloc (.cells #[.int .i64 97, .int .i64 97] 59)).alloc (.cells #[.slice (some ⟨w5.heap.size, 0, none⟩) 1 1] 48)) g (k * 7) (.slice (some ⟨w5.heap.size + 1, 0, none⟩) 1 1))) := ((HC5.out.trans (Sp.new _ hB5)).trans (Sp.new _ (by rw [size_up]; omega))).trans (ch_rule hg6 hB (shR_new hB5 _ _))
      unfold setR at HE
      clear HCall hc5 hg5 hg6 hh1 hh2 hh3 hh4 hh5 hh6 HG c5 HC q0 q1 q2 q3 q4 q5 q6
      go_wp2
      exact ⟨⟨k + 1, by go_num, by omega, HE⟩, by simp [intOf]; omega⟩
    · as_aux_lemma =>
        have hge : ¬ (k : Int) < (n : Int) := by omega
        go_wp2
        go_end0
        exact ⟨⟨_, rfl⟩, HC1.out.trans HC.out⟩

theorem own_blk {W : World} {B e s n c g : Nat} {xs : List Value} (h : W.ownsRow B e s (.slice (some ⟨g, 0, none⟩) n c) n xs) : ∃ cur, B ≤ g ∧ W.heap[g]? = some (Obj.cells cur e (0, 0)) ∧ cur.size = c * s ∧ n ≤ c ∧ ∀ (j : Nat) (u : Value), xs[j]? = some u → cur[j]? = some u := by
  rcases h.2 with ⟨e1, _⟩ | ⟨g', cap, cur, e1, h1, h2, h3, h4, h5, h6⟩
  · cases e1
  · injection e1 with e1 e2 e3
    injection e1 with e1
    injection e1 with e1
    subst e1 e3
    refine ⟨cur, h1, h2, h5, h3, fun j u hu => ?_⟩
    rw [← h6, List.getElem?_take] at hu
    split at hu
    · simpa using hu
    · cases hu
theorem LS.shs {W : World} {B : Nat} {ov sv : Value} {l : List (Int × Int)} (h : LS W B ov sv l) (hn : l.length ≤ 1048576) : ShS W B ov := by
  rcases h with ⟨_, rfl, _⟩ | ⟨_, g, cap, rfl, h3, h4⟩
  · exact shS_nil
  · have h4' : W.ownsRow B 59 2 (.slice (some ⟨g, 0, none⟩) (l.length + 1) cap) (l.length + 1) (fl (l ++ [(-7, -7)])) := by
      have := h4
      unfold OwnR at this
      rw [List.length_append] at this
      exact this
    obtain ⟨cur, k1, k2, k3, k4, _⟩ := own_blk h4'
    exact ⟨_, _, cap, rfl, hn, .inr ⟨g, cur, rfl, k1, k2, by omega⟩⟩
theorem LR.shr {W : World} {B : Nat} {ov v : Value} {svs : List Value} {ls : List (List (Int × Int))} (h : LR W B ov v svs ls) (hl : svs.length = ls.length) (hn : ls.length ≤ 1048576) (hs : ∀ l ∈ ls, l.length ≤ 1048576) : ShR W B ov := by
  rcases h with ⟨_, rfl, _⟩ | ⟨_, g, cap, ovs, gm, rfl, h3, h4, h5, _, _, h7⟩
  · exact shR_nil
  · obtain ⟨cur, k1, k2, k3, k4, k5⟩ := own_blk h5
    refine ⟨_, _, cap, rfl, hn, .inr ⟨g, cur, rfl, k1, k2, by omega, fun j u hj hu => ?_⟩⟩
    have hjo : j < ovs.length := by omega
    have := k5 j ovs[j] (by rw [List.getElem?_append_left hjo, List.getElem?_eq_getElem hjo])
    rw [hu] at this
    injection this with this
    subst this
    exact (h7 j hjo (by omega) hj).shs (hs _ (List.getElem_mem hj))
theorem LP.shp {W : World} {B : Nat} {ov v : Value} {tvs : List Value} {ps : List Pc} (h : LP W B ov v tvs ps) (hl : tvs.length = ps.length) (hn : ps.length ≤ 1048576) (hs : ∀ p ∈ ps, p.tl.length ≤ 1048576) : ShP W B ov := by
  rcases h with ⟨_, rfl, _⟩ | ⟨_, g, cap, es, rfl, h3, h4, h5, h6⟩
  · exact shP_nil
  · obtain ⟨cur, k1, k2, k3, k4, k5⟩ := own_blk h5
    have hel : es.length = ps.length := by rw [← h4, List.length_map]
    refine ⟨_, _, cap, rfl, hn, .inr ⟨g, cur, rfl, k1, k2, by omega, fun j u hj hu => ?_⟩⟩
    have hjo : j < es.length := by omega
    have h8 := (fp_at (es ++ [markP]) (j := j) (by simp; omega)).2.2.2
    rw [List.getElem_append_left hjo] at h8
    have := k5 _ _ h8
    rw [hu] at this
    injection this with this
    subst this
    refine (h6 j hjo (by omega)).shs (hs _ ?_)
    rw [← h4]
    exact List.mem_map.2 ⟨es[j], List.getElem_mem hjo, rfl⟩
theorem LPs.shq {W w : World} {B : Nat} {ov v : Value} {xs : List RV} (h : LPs W B ov v xs) (hv : PsV w v xs) (hn : xs.length ≤ 1048576) (hs : ∀ x ∈ xs, Sm x.r) : ShQ W B ov := by
  rcases h with ⟨_, rfl, _⟩ | ⟨_, g, cap, es, rfl, h3, h4, h5, h6⟩
  · exact ⟨none, 0, 0, rfl, by omega, .inl rfl⟩
  · obtain ⟨cur, k1, k2, k3, k4, k5⟩ := own_blk h5
    refine ⟨_, _, cap, rfl, hn, .inr ⟨g, cur, rfl, k1, k2, fun j hj => ?_⟩⟩
    have hjo : j < es.length := by omega
    have hc := fr_at (es ++ [markR]) (j := j) (by simp; omega)
    rw [List.getElem_append_left hjo] at hc
    have hL := (h6 j hjo hj).l
    have hV := hv.el j hj
    have hS := hs _ (List.getElem_mem hj)
    exact ⟨⟨_, k5 _ _ (hc 0 (by omega))⟩, ⟨_, k5 _ _ (hc 1 (by omega)), hL.a.shr hV.a.len hS.na hS.sa⟩, ⟨_, k5 _ _ (hc 2 (by omega)), hL.k.shr hV.k.len hS.nk hS.sk⟩, ⟨_, k5 _ _ (hc 3 (by omega)), hL.p.shr hV.p.len hS.np hS.sp⟩, ⟨_, k5 _ _ (hc 4 (by omega))⟩, ⟨_, k5 _ _ (hc 5 (by omega)), hL.r.shp hV.r.len hS.nr hS.sr⟩, ⟨_, k5 _ _ (hc 6 (by omega))⟩⟩
/-- numbers that were written over: all shapes stay -/
theorem ints_ch {W W' : World} {B : Nat} {x : Option Nat} (hb : Below B W W') (hx : ∀ b, x = some b → ∃ cur, W.heap[b]? = some (Obj.cells cur 3 (0, 0)) ∧ ∃ cur', W'.heap[b]? = some (Obj.cells cur' 3 (0, 0)) ∧ cur'.size = cur.size) (k : ButO x W W') : Ch B W W' := by
  refine ⟨hb, fun b cur t hc => ?_⟩
  by_cases e : x = some b
  · obtain ⟨c1, h1, c2, h2, h3⟩ := hx b e
    rw [h1] at hc
    injection hc with hc
    injection hc with e1 e2 _
    subst e1 e2
    exact ⟨c2, h2, h3, fun _ _ _ => .inr ⟨fun e => (by cases e), fun e => (by cases e), fun e => (by cases e)⟩⟩
  · exact ⟨cur, k b (fun h => e h.symm) _ hc, rfl, fun _ _ h => .inl h⟩
end Go.Proofs
