/-
  Lists of ranges that were handed out: in a block of the call's own, from some place on.
-/
import Derived.RangeFuncNested
import Derived.RangeFuncBound
import Derived.RangeFuncCalls
import Derived.RangeFuncLeaves
import Derived.Shelf.Abstract
import Derived.Shelf.RegionOpen
import Derived.WalkKit
import Derived.WalkSpells
import Derived.WalkLawsBesides
import Derived.OwnWalkIn
import Derived.TacticsInMore
import Derived.LoopNIn
import Derived.LoopIn
import Derived.BigQuiet
import Derived.RegionIn
import Derived.Deep.QuietTactic
import Derived.Deep.RegionWith
import Derived.Lib.OthersKept
import Derived.Maps.AppendAt
import Derived.Maps.OwnIn
import Derived.Lib.SmallJoins
import Derived.Laws.CopyOwn
import Derived.Laws.MakeOwn
import Derived.Deep.AppendLies
import Derived.Deep.Upon
import Derived.Test.YtmgkolelcflcbaaDoorRw
import Derived.Test.YtmgkolelcflcbaaDoorSa
namespace Go.Proofs
open Go.RowKit Go.Shelf

set_option maxRecDepth 100000
attribute [local go_sem] Oper.semAt_some
attribute [local go_sem ↓] Go.wp_at_zero Go.wp_at_succ
def IsSl (v : Value) : Prop := ∃ a n c, v = .slice a n c
theorem Hid.mk2 {p : Prop} (h : p) : Hid p := h
/-- a list in a block of the call's own, from some place on: without room behind it, or with the rest of the block -/
def OwnS (W : World) (base : Nat) (v : Value) (l : List (Int × Int)) : Prop :=
  (v = .slice none 0 0 ∧ l = []) ∨ ∃ g o cap cur, v = .slice (some ⟨g, o, none⟩) l.length cap ∧ base ≤ g ∧ W.heap[g]? = some (.cells cur 38 (0, 0)) ∧ l.length ≤ cap ∧ cap ≤ maxLen ∧ o + cap * 2 ≤ cur.size ∧ (l.length < cap → o = 0 ∧ cur.size = cap * 2) ∧ (cur.toList.drop o).take (l.length * 2) = fl l
theorem OwnR.toS {W : World} {base : Nat} {v : Value} {l : List (Int × Int)} (h : OwnR W base v l) : OwnS W base v l := by
  rcases h.2 with ⟨e, h0⟩ | ⟨g, cap, cur, e, h1, h2, h3, h4, h5, h6⟩
  · exact .inl ⟨e, List.eq_nil_of_length_eq_zero h0⟩
  · exact .inr ⟨g, 0, cap, cur, e, h1, h2, h3, h4, by omega, fun _ => ⟨rfl, h5⟩, by simpa using h6⟩
/-- with room behind it, it is a row of the call's own -/
theorem OwnS.room {W : World} {base g o n c : Nat} {l : List (Int × Int)} (h : OwnS W base (.slice (some ⟨g, o, none⟩) n c) l) (hr : n < c) : o = 0 ∧ OwnR W base (.slice (some ⟨g, o, none⟩) n c) l := by
  rcases h with ⟨e, _⟩ | ⟨g', o', cap, cur, e, h1, h2, h3, h4, h5, h6, h7⟩
  · cases e
  · injection e with e1 e2 e3
    injection e1 with e1
    injection e1 with e1 e4
    subst e1 e2 e3 e4
    obtain ⟨rfl, h8⟩ := h6 hr
    exact ⟨rfl, fl_length l, .inr ⟨g, c, cur, rfl, h1, h2, h3, h4, h8, by simpa using h7⟩⟩
theorem ownR_stays {W W' : World} {base n size : Nat} {e : TypeId} {v : Value} {xs : List Value} (h : W.ownsRow base e size v n xs) (k : ∀ b cur, v.ownBlock = some b → base ≤ b → W.heap[b]? = some (.cells cur e (0, 0)) → W'.heap[b]? = some (.cells cur e (0, 0))) : W'.ownsRow base e size v n xs := by
  refine ⟨h.1, ?_⟩
  rcases h.2 with h | ⟨g, cap, cur, e1, h1, h2, h3⟩
  · exact .inl h
  · exact .inr ⟨g, cap, cur, e1, h1, k g cur (by rw [e1]; rfl) h1 h2, h3⟩
theorem ownS_stays {W W' : World} {base : Nat} {v : Value} {l : List (Int × Int)} (h : OwnS W base v l) (k : ∀ b cur, v.ownBlock = some b → base ≤ b → W.heap[b]? = some (.cells cur 38 (0, 0)) → W'.heap[b]? = some (.cells cur 38 (0, 0))) : OwnS W' base v l := by
  rcases h with h | ⟨g, o, cap, cur, e, h1, h2, h3⟩
  · exact .inl h
  · exact .inr ⟨g, o, cap, cur, e, h1, k g cur (by rw [e]; rfl) h1 h2, h3⟩
theorem OwnS.below {W W' : World} {base n : Nat} {v : Value} {l : List (Int × Int)} (h : OwnS W base v l) (hb : Below n W W') (hn : W.heap.size ≤ n) : OwnS W' base v l :=
  ownS_stays h fun b _ _ _ ho => (hb.block b (Nat.lt_of_lt_of_le (Array.getElem?_eq_some_iff.1 ho).1 hn)).trans ho
theorem OwnS.le {W : World} {base base' : Nat} {v : Value} {l : List (Int × Int)} (h : OwnS W base v l) (hb : base' ≤ base) : OwnS W base' v l := by
  rcases h with h | ⟨g, o, cap, cur, e, h1, h2⟩
  · exact .inl h
  · exact .inr ⟨g, o, cap, cur, e, by omega, h2⟩
theorem OwnS.form {W : World} {base : Nat} {v : Value} {l : List (Int × Int)} (h : OwnS W base v l) : ∃ a c, v = .slice a l.length c := by
  rcases h with ⟨e, h0⟩ | ⟨g, o, cap, cur, e, _⟩
  · subst h0; exact ⟨_, _, e⟩
  · exact ⟨_, _, e⟩
theorem OwnS.typ {W : World} {base : Nat} {v : Value} {l : List (Int × Int)} {b : Nat} (h : OwnS W base v l) (hv : v.ownBlock = some b) : base ≤ b ∧ ∃ cur, W.heap[b]? = some (.cells cur 38 (0, 0)) := by
  rcases h with ⟨e1, _⟩ | ⟨g, o, cap, cur, e1, h1, h2, _⟩
  · rw [e1] at hv; cases hv
  · rw [e1] at hv
    have : g = b := by simpa [Value.ownBlock] using hv
    subst this
    exact ⟨h1, cur, h2⟩
theorem OwnS.lt {W : World} {base : Nat} {v : Value} {l : List (Int × Int)} {b : Nat} (h : OwnS W base v l) (hv : v.ownBlock = some b) : b < W.heap.size := by
  obtain ⟨_, cur, h2⟩ := h.typ hv
  exact (Array.getElem?_eq_some_iff.1 h2).1
theorem row_typ {W : World} {base : Nat} {e : TypeId} {size n : Nat} {v : Value} {xs : List Value} {b : Nat} (h : W.ownsRow base e size v n xs) (hv : v.ownBlock = some b) : base ≤ b ∧ ∃ cur, W.heap[b]? = some (.cells cur e (0, 0)) := by
  rcases h.2 with ⟨e1, _⟩ | ⟨g, cap, cur, e1, h1, h2, _⟩
  · rw [e1] at hv; cases hv
  · rw [e1] at hv
    have : g = b := by simpa [Value.ownBlock] using hv
    subst this
    exact ⟨h1, cur, h2⟩
theorem typ_ne {w : World} {a b : Nat} {c d : Array Value} {t u : TypeId} (h1 : w.heap[a]? = some (.cells c t (0, 0))) (h2 : w.heap[b]? = some (.cells d u (0, 0))) (hne : t ≠ u) : a ≠ b := fun e => by
  subst e
  rw [h1] at h2
  injection h2 with h2
  injection h2 with _ h2 _
  exact hne h2
theorem take_cell {cur : Array Value} {o n : Nat} {xs : List Value} (h : (cur.toList.drop o).take n = xs) {j : Nat} {u : Value} (hj : xs[j]? = some u) : cur[o + j]? = some u := by
  rw [← h, List.getElem?_take] at hj
  split at hj
  · rw [List.getElem?_drop] at hj
    simpa using hj
  · cases hj
theorem OwnS.reads {W : World} {base g o n c : Nat} {l : List (Int × Int)} (h : OwnS W base (.slice (some ⟨g, o, none⟩) n c) l) : Reads W g o l := by
  rcases h with ⟨e, _⟩ | ⟨g', o', cap, cur, e, h1, h2, h3, h4, h5, h6, h7⟩
  · cases e
  · injection e with e1 e2 e3
    injection e1 with e1
    injection e1 with e1 e4
    subst e1 e2 e3 e4
    intro j hj
    have := fl_at l hj
    have a1 := take_cell h7 this.1
    have a2 := take_cell h7 this.2
    refine ⟨?_, ?_⟩
    · simp only [World.cell?, h2]
      exact a1
    · simp only [World.cell?, h2]
      exact a2
theorem OwnS.rs {W : World} {base : Nat} {v : Value} {l : List (Int × Int)} (h : OwnS W base v l) : Rs W v l := by
  have h' := h
  rcases h with ⟨rfl, h0⟩ | ⟨g, o, cap, cur, rfl, _, _, hc, _⟩
  · subst h0
    exact ⟨none, 0, rfl, Nat.le_refl _, .inl rfl⟩
  · exact ⟨_, cap, rfl, hc, .inr ⟨g, o, rfl, h'.reads⟩⟩
theorem turns_set (W : World) (B j : Nat) (u : Value) (b : Nat) (hb : b ≠ B) : (W.setCell ⟨B, j, none⟩ u).heap[b]? = W.heap[b]? := by
  show (W.heap.modify B _)[b]? = _
  rw [Array.getElem?_modify]
  rw [if_neg (fun e => hb e.symm)]
/-- a range is written over -/
def set2 (W : World) (g o : Nat) (b : Int × Int) : World := (W.setCell ⟨g, o, none⟩ (.int .i64 b.1)).setCell ⟨g, o + 1, none⟩ (.int .i64 b.2)
theorem set2_other (W : World) (g o : Nat) (b : Int × Int) (k : Nat) (h : k ≠ g) : (set2 W g o b).heap[k]? = W.heap[k]? := by
  unfold set2
  rw [turns_set _ g _ _ k h, turns_set _ g _ _ k h]
theorem set2_at {W : World} {g o : Nat} {b : Int × Int} {cur : Array Value} {t : TypeId} (h : W.heap[g]? = some (.cells cur t (0, 0))) : (set2 W g o b).heap[g]? = some (.cells ((cur.setIfInBounds o (.int .i64 b.1)).setIfInBounds (o + 1) (.int .i64 b.2)) t (0, 0)) := cells_setS (cells_setS h)
theorem set2_below {W : World} {g o base : Nat} {b : Int × Int} (h : base ≤ g) : Below base W (set2 W g o b) := ((Below.refl base W).setCell (p := ⟨g, o, none⟩) h _).setCell (p := ⟨g, o + 1, none⟩) h _
theorem fl_set : ∀ (l : List (Int × Int)) (k : Nat) (b : Int × Int), fl (l.set k b) = ((fl l).set (k * 2) (.int .i64 b.1)).set (k * 2 + 1) (.int .i64 b.2)
  | [], k, b => by simp [fl]
  | x :: l, 0, b => rfl
  | x :: l, k + 1, b => by
    have e : ∀ l : List (Int × Int), fl (x :: l) = .int .i64 x.1 :: .int .i64 x.2 :: fl l := fun _ => rfl
    rw [List.set_cons_succ, e, e, fl_set l k b, show (k + 1) * 2 = k * 2 + 1 + 1 by omega, show k * 2 + 1 + 1 + 1 = k * 2 + 1 + 1 + 1 by omega]
    simp only [List.set_cons_succ]
theorem drop_take_set (xs : List Value) (o n j : Nat) (u : Value) : ((xs.set (o + j) u).drop o).take n = ((xs.drop o).take n).set j u := by
  rw [List.drop_set, if_neg (by omega), List.take_set]
  congr 1
  omega
theorem own_set2 {W : World} {base g o n c k : Nat} {l : List (Int × Int)} (h : OwnS W base (.slice (some ⟨g, o, none⟩) n c) l) (x : Int × Int) : OwnS (set2 W g (o + k * 2) x) base (.slice (some ⟨g, o, none⟩) n c) (l.set k x) := by
  rcases h with ⟨e, _⟩ | ⟨g', o', cap, cur, e, h1, h2, h3, h4, h5, h6, h7⟩
  · cases e
  · injection e with e1 e2 e3
    injection e1 with e1
    injection e1 with e1 e4
    subst e1 e2 e3 e4
    refine .inr ⟨g, o, c, _, by simp, h1, set2_at h2, by simpa using h3, h4, by simpa using h5, by simpa using h6, ?_⟩
    rw [Array.toList_setIfInBounds, Array.toList_setIfInBounds, Nat.add_assoc, drop_take_set, drop_take_set, List.length_set, h7, fl_set]
theorem own_setR {W : World} {base g n c k : Nat} {l : List (Int × Int)} (h : OwnR W base (.slice (some ⟨g, 0, none⟩) n c) l) (x : Int × Int) : OwnR (set2 W g (k * 2) x) base (.slice (some ⟨g, 0, none⟩) n c) (l.set k x) := by
  obtain ⟨h0, h1⟩ := h
  refine ⟨by rw [fl_length], ?_⟩
  rcases h1 with ⟨e, _⟩ | ⟨g', cap, cur, e, h1, h2, h3, h4, h5, h6⟩
  · cases e
  · injection e with e1 e2 e3
    injection e1 with e1
    injection e1 with e1
    subst e1 e2 e3
    refine .inr ⟨g, c, _, by simp, h1, set2_at h2, by simpa using h3, h4, by simpa using h5, ?_⟩
    rw [Array.toList_setIfInBounds, Array.toList_setIfInBounds, List.take_set, List.take_set, List.length_set, h6, fl_set]
attribute [local irreducible] set2
/-- two cells that can be written one after the other -/
def Two (W : World) (g k : Nat) (a : Int) : Prop :=
  (∃ y, W.cell? ⟨g, k, none⟩ = some y) ∧ W.frozen? ⟨g, k, none⟩ = false ∧
  (∃ y, (W.setCell ⟨g, k, none⟩ (.int .i64 a)).cell? ⟨g, k + 1, none⟩ = some y) ∧ (W.setCell ⟨g, k, none⟩ (.int .i64 a)).frozen? ⟨g, k + 1, none⟩ = false
theorem blk_cellB {W : World} {g k : Nat} {cur : Array Value} {t : TypeId} (h : W.heap[g]? = some (.cells cur t (0, 0))) (hk : k < cur.size) : (∃ y, W.cell? ⟨g, k, none⟩ = some y) ∧ W.frozen? ⟨g, k, none⟩ = false := by
  refine ⟨⟨cur[k], ?_⟩, by simp [World.frozen?, h]⟩
  simp only [World.cell?, h, Array.getElem?_eq_getElem hk]
  rfl
theorem two_of {W : World} {g k : Nat} {cur : Array Value} {t : TypeId} (h : W.heap[g]? = some (.cells cur t (0, 0))) (hk : k + 1 < cur.size) (a : Int) : Two W g k a := by
  have h1 := cells_setS (j := k) (u := .int .i64 a) h
  obtain ⟨x0, y0⟩ := blk_cellB h (k := k) (by omega)
  obtain ⟨x1, y1⟩ := blk_cellB h1 (k := k + 1) (by simpa using hk)
  exact ⟨x0, y0, x1, y1⟩
theorem OwnS.two {W : World} {base g o n c : Nat} {l : List (Int × Int)} (h : OwnS W base (.slice (some ⟨g, o, none⟩) n c) l) {k : Nat} (hk : k < l.length) : ∃ cur, W.heap[g]? = some (.cells cur 38 (0, 0)) ∧ o + k * 2 + 1 < cur.size := by
  rcases h with ⟨e, _⟩ | ⟨g', o', cap, cur, e, h1, h2, h3, h4, h5, h6, h7⟩
  · cases e
  · injection e with e1 e2 e3
    injection e1 with e1
    injection e1 with e1 e4
    subst e1 e4
    exact ⟨cur, h2, by omega⟩
theorem OwnS.some {W : World} {base n c : Nat} {a : Option Addr} {l : List (Int × Int)} (h : OwnS W base (.slice a n c) l) (hm : l.length ≠ 0) : ∃ g o, a = some ⟨g, o, none⟩ ∧ n = l.length ∧ l.length ≤ c := by
  rcases h with ⟨e, h0⟩ | ⟨g', o', cap, cur, e, h1, h2, h3, _⟩
  · subst h0; simp at hm
  · injection e with e1 e2 e3
    subst e3
    exact ⟨g', o', e1, e2, h3⟩
theorem row_sameK {W : World} {base n c : Nat} {a : Option Addr} {l : List (Int × Int)} (h : OwnR W base (.slice a n c) l) (hm : l.length ≠ 0) : ∃ g, a = some ⟨g, 0, none⟩ ∧ n = l.length ∧ l.length ≤ c := by
  rcases h.2 with ⟨_, h0⟩ | ⟨g, cap, cur, e, h1, h2, h3, _⟩
  · exact absurd h0 hm
  · injection e with e1 e2 e3
    subst e3
    exact ⟨g, e1, e2, h3⟩
theorem OwnR.form {W : World} {base : Nat} {v : Value} {l : List (Int × Int)} (h : OwnR W base v l) : ∃ a c, v = .slice a l.length c := h.toS.form
end Go.Proofs
