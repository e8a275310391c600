/-
  Sets as rows of ranges: what a slice value reads as, which rows are good, which units they have; a row of the call's own, and one range more behind it.
-/
import Derived.RangeFuncNested
import Derived.RangeFuncBound
import Derived.RangeFuncCalls
import Derived.RangeFuncLeaves
import Derived.Shelf.SlSorted.Search
import Derived.Deep.MidRow
import Derived.Maps.OwnSet
import Derived.Maps.OwnOps
import Derived.Shelf.Abstract
import Derived.Shelf.RegionOpen
import Derived.WalkKit
import Derived.WalkSpells
import Derived.WalkLawsBesides
import Derived.OwnWalkIn
import Derived.TacticsInMore
import Derived.LoopNIn
import Derived.LoopIn
import Derived.BigQuiet
import Derived.RegionIn
import Derived.Deep.QuietTactic
import Derived.Deep.RegionWith
import Derived.Lib.OthersKept
import Derived.Maps.AppendAt
import Derived.Lib.SmallJoins
import Derived.Shelf.SlSortCmp.QuietGrown
import Derived.Deep.DrawnRows
import Derived.Test.YtaekagipnolhiaaDoorCd
namespace Go.Proofs
open Go.RowKit Go.Shelf

set_option maxRecDepth 100000
attribute [local go_sem] Oper.semAt_some
attribute [local go_sem ↓] Go.wp_at_zero Go.wp_at_succ
/-- a range has numbers, all of them units -/
def Whole (x : Int × Int) : Prop := x.1 ≤ x.2 ∧ ((0 ≤ x.1 ∧ x.2 ≤ 55295) ∨ (57344 ≤ x.1 ∧ x.2 ≤ 1114111) ∨ (1114240 ≤ x.1 ∧ x.2 ≤ 1114367))
instance (x : Int × Int) : Decidable (Whole x) := by unfold Whole; infer_instance
theorem whole_iff (a b : Int) : Whole (a, b) ↔ (a ≤ b ∧ ((0 ≤ a ∧ b ≤ 55295) ∨ (57344 ≤ a ∧ b ≤ 1114111) ∨ (1114240 ≤ a ∧ b ≤ 1114367))) := Iff.rfl
def blkLo : Nat → Int | 0 => 0 | 1 => 57344 | _ => 1114240
def blkHi : Nat → Int | 0 => 55295 | 1 => 1114111 | _ => 1114367
/-- the range at a place -/
def rg (l : List (Int × Int)) (j : Nat) : Int × Int := l[j]?.getD (0, 0)
theorem rg_lt {l : List (Int × Int)} {j : Nat} (h : j < l.length) : rg l j = l[j] := by simp [rg, h]
/-- ranges of units that rise and are apart -/
def Good (l : List (Int × Int)) : Prop := (∀ x ∈ l, Whole x) ∧ l.Pairwise (fun x y => x.2 + 2 ≤ y.1)
instance (l : List (Int × Int)) : Decidable (Good l) := by unfold Good; infer_instance
theorem good_nil : Good [] := ⟨by simp, by simp⟩
theorem good_take {l : List (Int × Int)} (h : Good l) (k : Nat) : Good (l.take k) := ⟨fun x hx => h.1 x (List.mem_of_mem_take hx), h.2.sublist (List.take_sublist _ _)⟩
theorem good_succ {l : List (Int × Int)} {k : Nat} (hk : k < l.length) : Good (l.take (k + 1)) ↔ Good (l.take k) ∧ Whole (rg l k) ∧ (0 < k → (rg l (k - 1)).2 + 2 ≤ (rg l k).1) := by
  rw [List.take_succ_eq_append_getElem hk, rg_lt hk]
  constructor
  · rintro ⟨h1, h2⟩
    rw [List.pairwise_append] at h2
    refine ⟨⟨fun x hx => h1 x (List.mem_append_left _ hx), h2.1⟩, h1 _ (List.mem_append_right _ (by simp)), fun h0 => ?_⟩
    rw [rg_lt (show k - 1 < l.length by omega)]
    exact h2.2.2 _ (by rw [List.mem_take_iff_getElem]; exact ⟨k - 1, by omega, rfl⟩) _ (by simp)
  · rintro ⟨⟨h1, h2⟩, h3, h4⟩
    refine ⟨fun x hx => ?_, ?_⟩
    · rw [List.mem_append, List.mem_singleton] at hx
      rcases hx with hx | rfl
      · exact h1 x hx
      · exact h3
    · rw [List.pairwise_append]
      refine ⟨h2, by simp, fun x hx y hy => ?_⟩
      rw [List.mem_singleton] at hy
      subst hy
      rw [List.mem_take_iff_getElem] at hx
      obtain ⟨j, hj, rfl⟩ := hx
      have h5 := h4 (by omega)
      rw [rg_lt (show k - 1 < l.length by omega)] at h5
      by_cases e : j = k - 1
      · subst e; exact h5
      · have h6 := List.pairwise_iff_getElem.1 h2 j (k - 1) (by simp; omega) (by simp; omega) (by omega)
        have h7 := h1 l[k - 1] (by rw [List.mem_take_iff_getElem]; exact ⟨k - 1, by omega, rfl⟩)
        simp only [List.getElem_take] at h6
        have h8 := h7.1
        omega
/-- a slice value that reads as these ranges -/
def Reads (w : World) (g o : Nat) (l : List (Int × Int)) : Prop := ∀ j, j < l.length → w.cell? ⟨g, o + j * 2, none⟩ = some (.int .i64 (rg l j).1) ∧ w.cell? ⟨g, o + j * 2 + 1, none⟩ = some (.int .i64 (rg l j).2)
def Rs (w : World) (v : Value) (l : List (Int × Int)) : Prop :=
  ∃ (a : Option Addr) (cap : Nat), v = .slice a l.length cap ∧ l.length ≤ cap ∧ (l = [] ∨ ∃ g o, a = some ⟨g, o, none⟩ ∧ Reads w g o l)
theorem Reads.lt {w : World} {g o : Nat} {l : List (Int × Int)} (h : Reads w g o l) (h0 : l ≠ []) : g < w.heap.size := by
  obtain ⟨ob, ho, _⟩ := cells_of_cell (h 0 (List.length_pos_iff.2 h0)).1
  exact (Array.getElem?_eq_some_iff.1 ho).1
theorem Reads.below {w w' : World} {n g o : Nat} {l : List (Int × Int)} (h : Reads w g o l) (hb : Below n w w') (hn : g < n) : Reads w' g o l := fun j hj =>
  ⟨(hb.cell (p := ⟨g, o + j * 2, none⟩) hn).trans (h j hj).1, (hb.cell (p := ⟨g, o + j * 2 + 1, none⟩) hn).trans (h j hj).2⟩
theorem Rs.below {w w' : World} {n : Nat} {v : Value} {l : List (Int × Int)} (h : Rs w v l) (hb : Below n w w') (hn : w.heap.size ≤ n) : Rs w' v l := by
  obtain ⟨a, cap, rfl, hcp, h | ⟨g, o, rfl, hc⟩⟩ := h
  · exact ⟨a, cap, rfl, hcp, .inl h⟩
  · by_cases h0 : l = []
    · exact ⟨_, cap, rfl, hcp, .inl h0⟩
    · exact ⟨_, cap, rfl, hcp, .inr ⟨g, o, rfl, hc.below hb (by have := hc.lt h0; omega)⟩⟩
/-- what Valid tells -/
def validB (l : List (Int × Int)) : Bool := decide (l.length ≤ 512 ∧ Good l)
theorem validB_iff (l : List (Int × Int)) : validB l = true ↔ l.length ≤ 512 ∧ Good l := by simp [validB]
theorem validB_no {l : List (Int × Int)} (h : ¬ (l.length ≤ 512 ∧ Good l)) : validB l = false := by simp only [validB, decide_eq_false_iff_not]; exact h
/-! which range has a unit -/
def hasU (l : List (Int × Int)) (u : Int) : Prop := ∃ x ∈ l, x.1 ≤ u ∧ u ≤ x.2
instance (l : List (Int × Int)) (u : Int) : Decidable (hasU l u) := by unfold hasU; infer_instance
theorem good_rise {l : List (Int × Int)} (h : Good l) {i j : Nat} (hij : i < j) (hj : j < l.length) : (rg l i).2 + 2 ≤ (rg l j).1 := by
  rw [rg_lt hj, rg_lt (show i < l.length by omega)]
  exact List.pairwise_iff_getElem.1 h.2 i j (by omega) hj hij
theorem good_at {l : List (Int × Int)} (h : Good l) {i : Nat} (hi : i < l.length) : Whole (rg l i) := by
  rw [rg_lt hi]; exact h.1 _ (List.getElem_mem hi)
theorem hasU_iff (l : List (Int × Int)) (u : Int) : hasU l u ↔ ∃ i, i < l.length ∧ (rg l i).1 ≤ u ∧ u ≤ (rg l i).2 := by
  constructor
  · rintro ⟨x, hx, h⟩
    obtain ⟨i, hi, rfl⟩ := List.getElem_of_mem hx
    exact ⟨i, hi, by rw [rg_lt hi]; exact h⟩
  · rintro ⟨i, hi, h⟩
    rw [rg_lt hi] at h
    exact ⟨_, List.getElem_mem hi, h⟩
/-- the cells of ranges -/
def fl (l : List (Int × Int)) : List Value := l.flatMap fun x => [Value.int .i64 x.1, Value.int .i64 x.2]
theorem fl_append (l k : List (Int × Int)) : fl (l ++ k) = fl l ++ fl k := by simp [fl]
theorem fl_length (l : List (Int × Int)) : (fl l).length = l.length * 2 := by
  induction l with
  | nil => rfl
  | cons a l ih => simp [fl] at ih ⊢; omega
theorem fl_at (l : List (Int × Int)) {j : Nat} (hj : j < l.length) : (fl l)[j * 2]? = some (Value.int .i64 (rg l j).1) ∧ (fl l)[j * 2 + 1]? = some (Value.int .i64 (rg l j).2) := by
  induction l generalizing j with
  | nil => simp at hj
  | cons a l ih =>
    cases j with
    | zero => exact ⟨by simp [fl, rg], by simp [fl, rg]⟩
    | succ j =>
      have := ih (j := j) (by simpa using hj)
      rw [show (j + 1) * 2 = j * 2 + 1 + 1 by omega]
      simpa [fl, rg] using this
theorem fl_one (l : List (Int × Int)) : ∀ u ∈ fl l, u.oneCell' = true := by
  intro u hu
  simp only [fl, List.mem_flatMap] at hu
  obtain ⟨x, _, hx⟩ := hu
  simp only [List.mem_cons, List.not_mem_nil, or_false] at hx
  rcases hx with rfl | rfl <;> rfl
/-- a row of the call's own -/
def OwnR (w : World) (base : Nat) (v : Value) (l : List (Int × Int)) : Prop := w.ownsRow base 31 2 v l.length (fl l)
theorem OwnR.nil (w : World) (base : Nat) : OwnR w base (.slice none 0 0) [] := World.ownsRow_nil _ _ _ _
theorem add_zero_at (g j : Nat) : (⟨g, 0, none⟩ : Addr).add j = ⟨g, j, none⟩ := by
  unfold Addr.add
  by_cases h : j = 0
  · subst h; rfl
  · simp [h]
theorem OwnR.reads {w : World} {base g n cap : Nat} {l : List (Int × Int)} (h : OwnR w base (.slice (some ⟨g, 0, none⟩) n cap) l) : Reads w g 0 l := fun j hj => by
  have h1 := h.cells rfl
  have := fl_at l hj
  have a1 := h1 _ _ this.1
  have a2 := h1 _ _ this.2
  rw [add_zero_at] at a1 a2
  rw [Nat.zero_add]
  exact ⟨a1, a2⟩
theorem OwnR.rs {w : World} {base : Nat} {v : Value} {l : List (Int × Int)} (h : OwnR w base v l) : Rs w v l := by
  rcases h.2 with ⟨rfl, h0⟩ | ⟨g, cap, cur, rfl, _, _, hc, _⟩
  · have : l = [] := List.eq_nil_of_length_eq_zero h0
    subst this
    exact ⟨none, 0, rfl, Nat.le_refl _, .inl rfl⟩
  · exact ⟨_, cap, rfl, hc, .inr ⟨g, 0, rfl, OwnR.reads h⟩⟩
theorem OwnR.le {w : World} {base base' : Nat} {v : Value} {l : List (Int × Int)} (h : OwnR w base v l) (hb : base' ≤ base) : OwnR w base' v l := Joins.ownsRow_le h hb
theorem OwnR.alloc {w : World} {base : Nat} {v : Value} {l : List (Int × Int)} (h : OwnR w base v l) (o : Obj) : OwnR (w.alloc o) base v l := World.ownsRow.alloc h o
theorem OwnR.kept {w w' : World} {row : Option Nat} {base : Nat} {v : Value} {l : List (Int × Int)} (h : OwnR w base v l) (hg : w.grownBy w' row) (hne : v.ownBlock = none ∨ v.ownBlock ≠ row) : OwnR w' base v l := World.ownsRow.kept h hg hne
theorem OwnR.below {w w' : World} {base n : Nat} {v : Value} {l : List (Int × Int)} (h : OwnR w base v l) (hb : Below n w w') (hn : w.heap.size ≤ n) : OwnR w' base v l := by
  refine ⟨h.1, ?_⟩
  rcases h.2 with h | ⟨g, cap, cur, rfl, h1, h2, h3⟩
  · exact .inl h
  · have : g < w.heap.size := (Array.getElem?_eq_some_iff.1 h2).1
    exact .inr ⟨g, cap, cur, rfl, h1, (hb.block g (by omega)).trans h2, h3⟩
theorem info31 : (Tryd.prog.info? 31).map (fun i => (i.zero, i.size, i.bytes)) = some (some (.agg #[.int .i64 0, .int .i64 0]), 2, 16) := by kernel_rfl
theorem own_below {w w' : World} {base : Nat} {v : Value} {l : List (Int × Int)} (h : OwnR w base v l) (hb : base ≤ w.heap.size) (hg : w.grownBy w' v.ownBlock) : Below base w w' := (Below.refl _ w).grown hg hb (fun k hk => (World.ownsRow.lt h k hk).1)
/-- one range more behind a row of the call's own -/
theorem push_R {ops : Array Oper} {rest : List Oper} {o : Oper} {a : Act} {Q : Exit → Act → World → Prop} {w : World} (hgd : o.guard = none) (s x : Operand) (t : TypeId)
    (ho : o.op = .call { callee := .builtin .append, args := #[s, x], argTypes := #[t, t] }) (ht : Tryd.prog.underlying t = some (.slice 31))
    (base : Nat) (v : Value) (l : List (Int × Int)) (hs : a.eval s = v) (hown : OwnR w base v l) (g c : Nat) (p q : Int) (hx : a.eval x = .slice (some ⟨g, 0, none⟩) 1 c)
    (hp : w.cell? ⟨g, 0, none⟩ = some (.int .i64 p)) (hq : w.cell? ⟨g, 1, none⟩ = some (.int .i64 q)) (hl : l.length + 1 ≤ 8796093022208) (hbase : base ≤ w.heap.size)
    (h : ∀ v' w', OwnR w' base v' (l ++ [(p, q)]) → w.grownBy w' v.ownBlock → Below base w w' → wpList Tryd.prog ops Q rest (a.put o.dst v') w') : wpList Tryd.prog ops Q (o :: rest) a w := by
  obtain ⟨i0, hi, hz0, hz1, hz2⟩ := info_parts info31
  refine wpList_append_own w hgd s x t ho base 31 i0 (.agg #[.int .i64 0, .int .i64 0]) 2 16 ht hi hz0 hz1 hz2 rfl (by decide) v l.length (fl l) hs hown ⟨g, 0, none⟩ 1 c (fl [(p, q)]) hx rfl ?_ (fl_one _) (by unfold maxLen; omega) (by omega) hbase (fun v' w' h2 h3 _ => h v' w' ?_ h3 (own_below hown hbase h3))
  · intro j u hj
    match j, hj with
    | 0, hj => simp [fl] at hj; subst hj; exact hp
    | 1, hj => simp [fl] at hj; subst hj; exact hq
  · unfold OwnR
    rw [fl_append, List.length_append]
    exact h2
end Go.Proofs
