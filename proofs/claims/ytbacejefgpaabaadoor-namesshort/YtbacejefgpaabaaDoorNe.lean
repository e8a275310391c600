/-
  names: the parts of a set; gather.
-/
import Derived.Shelf.Abstract
import Derived.Shelf.RegionOpen
import Derived.WalkKit
import Derived.WalkSpells
import Derived.WalkLawsBesides
import Derived.OwnWalk
import Derived.BigQuiet
import Derived.Deep.QuietTactic
import Derived.Deep.RegionWith
import Derived.Lib.OthersKept
import Derived.Maps.AppendAt
import Derived.Laws.AppendOwnNone
import Derived.Lib.SmallJoins
import Derived.Test.YtbacejefgpaabaaDoorNd
namespace Go.Proofs
open Go.RowKit Go.Shelf

set_option maxRecDepth 100000
attribute [local go_sem] Oper.semAt_some

theorem app_types (ty : TypeId) (s : Value) (A : Option Addr) (m c : Nat) (w : World) : (Builtin.append_ #[29, 30] ty #[s, .slice A m c]).run Tryd.prog w = (Builtin.append_ #[29, 29] ty #[s, .slice A m c]).run Tryd.prog w := by
  obtain ⟨i0, hi, -, -, -⟩ := info_parts info38
  cases s <;> simp [Builtin.append_, run_underlying Tryd.underlying29, run_underlying Tryd.underlying30, Go.sizeOf, typeInfo, hi]
theorem app_none (ty : TypeId) (v : Value) (n base : Nat) (xs : List Value) (A : Option Addr) (c : Nat) (w : World) (hO : w.ownsRow base 48 2 v n xs) : (Builtin.append_ #[29, 29] ty #[v, .slice A 0 c]).run Tryd.prog w = .ok v w := by
  obtain ⟨i0, hi, hz0, hz1, hz2⟩ := info_parts info38
  rcases hO.2 with ⟨rfl, _⟩ | ⟨g, cap, cur, rfl, _, hg, hc, _⟩
  · cases A <;> simp [Builtin.append_, run_underlying Tryd.underlying29, Go.sizeOf, typeInfo, hi, Builtin.lenOf, Builtin.firstCells, loadCells, loadCellsFrom]
  · cases A <;> simp [Builtin.append_, run_underlying Tryd.underlying29, Go.sizeOf, typeInfo, hi, Builtin.lenOf, Builtin.firstCells, storeCells, loadCells, loadCellsFrom, hc]
theorem push_Rs {ops : Array Oper} {rest : List Oper} {o : Oper} {a : Act} {Q : Exit → Act → World → Prop} {w : World} (hgd : o.guard = none) (s x : Operand)
    (ho : o.op = .call { callee := .builtin .append, args := #[s, x], argTypes := #[29, 30] }) (base : Nat) (v xv : Value) (l k : List (Int × Int)) (hs : a.eval s = v) (hown : OwnR w base v l) (hx : a.eval x = xv) (hk : Rs w xv k)
    (hn : l.length + k.length ≤ 8796093022208) (hb : base ≤ w.heap.size)
    (h : ∀ v' w', OwnR w' base v' (l ++ k) → Below base w w' → wpList Tryd.prog ops Q rest (a.put o.dst v') w') : wpList Tryd.prog ops Q (o :: rest) a w := by
  obtain ⟨i0, hi, hz0, hz1, hz2⟩ := info_parts info38
  obtain ⟨A, cap, rfl, hc, hr⟩ := hk
  by_cases h0 : k = []
  · subst h0
    refine wpList_plain hgd fun K hK => ?_
    have hrun := (app_types o.type v A 0 cap w).trans (app_none o.type v l.length base (fl l) A cap w hown)
    unfold Oper.wp
    simp [execOp, ho, resolve, invoke, builtin, hs, hx, hrun, Result.andThen]
    exact hK _ _ (h _ _ (by simpa using hown) (Below.refl _ _))
  · obtain ⟨g, off, rfl, hr2⟩ := hr.resolve_left h0
    refine wpList_plain hgd fun K hK => ?_
    obtain ⟨v', w', hrun, h1, h2, _⟩ := run_append_own (P := Tryd.prog) w base 29 o.type 48 i0 (.agg #[.int .i64 0, .int .i64 0]) 2 16 Tryd.underlying29 hi hz0 hz1 hz2 rfl (by decide) v l.length (fl l) hown ⟨g, off, none⟩ k.length cap (fl k) (fl_length k) (reads_fl hr2) (fl_one _) (by unfold maxLen; omega) (by omega) hb
    have hrun2 := (app_types o.type v (some ⟨g, off, none⟩) k.length cap w).trans hrun
    unfold Oper.wp
    simp [execOp, ho, resolve, invoke, builtin, hs, hx, hrun2, Result.andThen]
    refine hK _ _ (h _ _ ?_ ((Below.refl _ w).grown h2 hb (fun j e => (hown.lt j e).1)))
    unfold OwnR
    rw [List.length_append, fl_append]; exact h1
/-- an item at a place of memory -/
def ItAt (W : World) (g o : Nat) (x : It) (ps : Value) : Prop :=
  W.cell? ⟨g, o, none⟩ = some (.int .i64 x.k) ∧ W.cell? ⟨g, o + 1, none⟩ = some (.int .i64 x.u) ∧ W.cell? ⟨g, o + 2, none⟩ = some (.string x.nm) ∧ W.cell? ⟨g, o + 3, none⟩ = some ps ∧ W.cell? ⟨g, o + 4, none⟩ = some (.int .i64 x.lo) ∧ W.cell? ⟨g, o + 5, none⟩ = some (.int .i64 x.hi) ∧ W.cell? ⟨g, o + 6, none⟩ = some (.bool x.nt) ∧ W.cell? ⟨g, o + 7, none⟩ = some (.int .i64 x.ky)
/-- a row of items -/
def PRow (W : World) (v : Value) (l : List (It × Value)) : Prop := ∃ a c, v = .slice a l.length c ∧ (l = [] ∨ ∃ g o, a = some ⟨g, o, none⟩ ∧ g < W.heap.size ∧ ∀ (j : Nat) (hj : j < l.length), ItAt W g (o + j * 8) l[j].1 l[j].2)
theorem ItAt.below {W W' : World} {n g o : Nat} {x : It} {ps : Value} (h : ItAt W g o x ps) (hb : Below n W W') (hg : g < n) : ItAt W' g o x ps := by
  obtain ⟨h0, h1, h2, h3, h4, h5, h6, h7⟩ := h
  exact ⟨(hb.cell (p := ⟨g, _, none⟩) hg).trans h0, (hb.cell (p := ⟨g, _, none⟩) hg).trans h1, (hb.cell (p := ⟨g, _, none⟩) hg).trans h2, (hb.cell (p := ⟨g, _, none⟩) hg).trans h3, (hb.cell (p := ⟨g, _, none⟩) hg).trans h4, (hb.cell (p := ⟨g, _, none⟩) hg).trans h5, (hb.cell (p := ⟨g, _, none⟩) hg).trans h6, (hb.cell (p := ⟨g, _, none⟩) hg).trans h7⟩
theorem PRow.below {W W' : World} {v : Value} {l : List (It × Value)} (h : PRow W v l) (hb : Below W.heap.size W W') : PRow W' v l := by
  obtain ⟨a, c, e, h⟩ := h
  exact ⟨a, c, e, h.imp id (fun ⟨g, o, e2, hg, h⟩ => ⟨g, o, e2, Nat.lt_of_lt_of_le hg hb.size, fun j hj => (h j hj).below hb hg⟩)⟩
noncomputable def partsC (K : ByteArray → Option (List (Int × Int))) : List It → Int
  | [] => 0
  | x :: l => open Classical in if partC K x = 0 then partsC K l else partC K x
noncomputable def partsL (K : ByteArray → Option (List (Int × Int))) (l : List It) : List (Int × Int) := l.flatMap (partL K)
theorem partsC_ok (K : ByteArray → Option (List (Int × Int))) : ∀ (l : List It), (∀ x ∈ l, partC K x = 0) → partsC K l = 0
  | [], _ => rfl
  | x :: l, h => by
    show (if partC K x = 0 then _ else _) = _
    rw [if_pos (h x List.mem_cons_self)]
    exact partsC_ok K l (fun y hy => h y (List.mem_cons_of_mem _ hy))
theorem partsC_bad (K : ByteArray → Option (List (Int × Int))) : ∀ (l : List It) (k : Nat) (hk : k < l.length), (∀ j (hj : j < l.length), j < k → partC K l[j] = 0) → partC K l[k] ≠ 0 → partsC K l = partC K l[k]
  | x :: l, 0, _, _, h => by
    show (if partC K x = 0 then _ else _) = _
    rw [if_neg (show ¬ partC K x = 0 from h)]; rfl
  | x :: l, k + 1, hk, hj, h => by
    show (if partC K x = 0 then _ else _) = _
    rw [if_pos (show partC K x = 0 from hj 0 (by simp) (by omega))]
    exact partsC_bad K l k (by simpa using hk) (fun j h1 h2 => hj (j + 1) (by simpa using h1) (by omega)) h
theorem partL_len (K : ByteArray → Option (List (Int × Int))) (x : It) (h : partC K x = 0) : (partL K x).length ≤ 512 := by
  unfold partC at h
  unfold partL
  split
  · have := clips_len x.lo x.hi; omega
  · rename_i h6
    rw [if_neg h6] at h
    unfold plainC at h
    unfold plainL
    split
    · have := clips_len x.u x.u; omega
    · rename_i h1
      rw [if_neg h1] at h
      split
      · rename_i h2
        rw [if_pos h2] at h
        cases hk : K x.nm with
        | none => simp [nameL]
        | some l =>
          rw [hk] at h
          cases hv : validB l with
          | false => simp [nameC, hv] at h
          | true => exact ((validB_iff l).1 hv).1
      · simp
theorem partsL_len (K : ByteArray → Option (List (Int × Int))) (l : List It) (k : Nat) (h : ∀ j (hj : j < l.length), j < k → partC K l[j] = 0) : (partsL K (l.take k)).length ≤ 512 * k := by
  induction k with
  | zero => simp [partsL]
  | succ k ih =>
    have := ih (fun j hj hjk => h j hj (by omega))
    by_cases hk : k < l.length
    · rw [List.take_succ_eq_append_getElem hk]
      unfold partsL at this ⊢
      rw [List.flatMap_append, List.length_append, List.flatMap_singleton]
      have := partL_len K l[k] (h k hk (by omega))
      omega
    · rw [List.take_of_length_le (by omega)]
      rw [List.take_of_length_le (by omega)] at this
      omega
end Go.Proofs
