/-
  names: rows of items that are appended to.
-/
import Derived.Shelf.Abstract
import Derived.WalkKit
import Derived.WalkSpells
import Derived.WalkLawsBesides
import Derived.OwnWalk
import Derived.Lib.OthersKept
import Derived.Maps.AppendAt
import Derived.WalkMore
import Derived.Lib.SmallJoins
import Derived.ArgAppend
import Derived.Deep.AppendLies
import Derived.Test.YtbacejefgpaabaaDoorNw
namespace Go.Proofs
open Go.RowKit Go.Shelf

set_option maxRecDepth 100000
attribute [local go_sem] Oper.semAt_some

def fi1 (p : It × Value) : List Value := itc p.1.k p.1.u p.1.nm p.2 p.1.lo p.1.hi p.1.nt p.1.ky
def fi (l : List (It × Value)) : List Value := l.flatMap fi1
theorem fi_length : ∀ (l : List (It × Value)), (fi l).length = l.length * 8
  | [] => rfl
  | p :: l => by
    show (fi1 p ++ fi l).length = _
    rw [List.length_append, fi_length l]
    simp [fi1]
    omega
theorem fi_get : ∀ (l : List (It × Value)) (j : Nat) (hj : j < l.length) (i : Nat), i < 8 → (fi l)[j * 8 + i]? = (fi1 l[j])[i]?
  | [], j, hj, _, _ => by simp at hj
  | e :: l, 0, _, i, hi => by
    show (fi1 e ++ fi l)[0 * 8 + i]? = _
    rw [List.getElem?_append_left (by simp [fi1]; omega)]
    simp
  | e :: l, j + 1, hj, i, hi => by
    show (fi1 e ++ fi l)[(j + 1) * 8 + i]? = _
    rw [List.getElem?_append_right (by simp [fi1]; omega)]
    have e1 : (j + 1) * 8 + i - (fi1 e).length = j * 8 + i := by simp [fi1]; omega
    rw [e1, fi_get l j (by simpa using hj) i hi]
    simp
/-- items whose parts are slices -/
def Sls (l : List (It × Value)) : Prop := ∀ q ∈ l, ∃ a n c, q.2 = .slice a n c
theorem fi_one {l : List (It × Value)} (h : Sls l) : ∀ u ∈ fi l, u.oneCell' = true := by
  intro u hu
  unfold fi at hu
  rw [List.mem_flatMap] at hu
  obtain ⟨q, hq, hu⟩ := hu
  obtain ⟨a, n, c, e⟩ := h q hq
  simp only [fi1, itc, e, List.mem_cons, List.not_mem_nil, or_false] at hu
  rcases hu with rfl | rfl | rfl | rfl | rfl | rfl | rfl | rfl <;> rfl
theorem info24 : (Tryd.prog.info? 24).map (fun i => (i.zero, i.size, i.bytes)) = some (some (itv 0 0 ⟨#[]⟩ nl 0 0 false 0), 8, 88) := by kernel_rfl
/-- a row's cells, from the first item's place on -/
theorem prow_cells {W : World} {g o : Nat} {l : List (It × Value)} (h : ∀ (j : Nat) (hj : j < l.length), ItAt W g (o + j * 8) l[j].1 l[j].2) : ∀ j u, (fi l)[j]? = some u → W.cell? ((⟨g, o, none⟩ : Addr).add j) = some u := by
  intro j u hu
  have hlt : j < (fi l).length := (List.getElem?_eq_some_iff.1 hu).1
  rw [fi_length] at hlt
  have hq : j / 8 < l.length := by omega
  have e : j = j / 8 * 8 + j % 8 := by omega
  have hm : j % 8 < 8 := Nat.mod_lt _ (by decide)
  rw [e, fi_get l (j / 8) hq (j % 8) hm] at hu
  obtain ⟨h0, h1, h2, h3, h4, h5, h6, h7⟩ := h (j / 8) hq
  have ea : (⟨g, o, none⟩ : Addr).add j = ⟨g, o + j / 8 * 8 + j % 8, none⟩ := by
    have e2 : o + j / 8 * 8 + j % 8 = o + j := by omega
    rw [e2]
    by_cases hz : j = 0
    · rw [hz]; rfl
    · simp [Addr.add, hz]
  rw [ea]
  generalize j % 8 = i at hm hu
  have : i = 0 ∨ i = 1 ∨ i = 2 ∨ i = 3 ∨ i = 4 ∨ i = 5 ∨ i = 6 ∨ i = 7 := by omega
  rcases this with rfl | rfl | rfl | rfl | rfl | rfl | rfl | rfl
  · rw [← hu]; exact h0
  · rw [← hu]; exact h1
  · rw [← hu]; exact h2
  · rw [← hu]; exact h3
  · rw [← hu]; exact h4
  · rw [← hu]; exact h5
  · rw [← hu]; exact h6
  · rw [← hu]; exact h7
/-- a row of the call's own -/
theorem own_prow {W : World} {base : Nat} {v : Value} {l : List (It × Value)} (h : W.ownsRow base 24 8 v l.length (fi l)) : PRow W v l := by
  by_cases h0 : l = []
  · subst h0
    rcases h.2 with ⟨rfl, _⟩ | ⟨g, cap, cur, rfl, _⟩
    · exact ⟨_, _, rfl, .inl rfl⟩
    · exact ⟨_, _, rfl, .inl rfl⟩
  · obtain ⟨g, cap, rfl, _, hlt⟩ := h.form (List.length_pos_iff.2 h0)
    refine ⟨_, cap, rfl, .inr ⟨g, 0, rfl, hlt, fun j hj => ?_⟩⟩
    have key : ∀ i, i < 8 → W.cell? ⟨g, 0 + j * 8 + i, none⟩ = (fi1 l[j])[i]? := fun i hi => by
      have hlt : i < (fi1 l[j]).length := by simp [fi1]; exact hi
      have := h.cells (g := g) rfl (j * 8 + i) ((fi1 l[j])[i]) (by rw [fi_get l j hj i hi, List.getElem?_eq_getElem hlt])
      rw [add_zero_at] at this
      rw [Nat.zero_add, this, List.getElem?_eq_getElem hlt]
    exact ⟨key 0 (by omega), key 1 (by omega), key 2 (by omega), key 3 (by omega), key 4 (by omega), key 5 (by omega), key 6 (by omega), key 7 (by omega)⟩
theorem append_none (A B : Option Addr) (n c : Nat) (ty : TypeId) (w : World) : (Builtin.append_ #[22, 22] ty #[.slice A n n, .slice B 0 c]).run Tryd.prog w = .ok (.slice A n n) w := by
  obtain ⟨i0, hi, hz0, hz1, hz2⟩ := info_parts info24
  cases A <;> cases B <;> simp [Builtin.append_, run_underlying Tryd.underlying22, Go.sizeOf, typeInfo, hi, Builtin.lenOf, Builtin.firstCells, storeCells, loadCells, loadCellsFrom]
theorem app_items {ops : Array Oper} {rest : List Oper} {op : Oper} {ac : Act} {Q : Exit → Act → World → Prop} {w : World} (hgd : op.guard = none) (s x : Operand)
    (ho : op.op = .call { callee := .builtin .append, args := #[s, x], argTypes := #[22, 22] }) (g : Nat) (p : It × Value) (v : Value) (b : List (It × Value)) (hs : ac.eval s = .slice (some ⟨g, 0, none⟩) 1 1) (hx : ac.eval x = v) (hg : g < w.heap.size)
    (hA : ItAt w g 0 p.1 p.2) (hb : PRow w v b) (hsl : Sls (p :: b)) (hl : b.length ≤ 1000000)
    (h : ∀ A c w', PRow w' (.slice A (b.length + 1) c) (p :: b) → Below w.heap.size w w' → wpList Tryd.prog ops Q rest (ac.put op.dst (.slice A (b.length + 1) c)) w') : wpList Tryd.prog ops Q (op :: rest) ac w := by
  obtain ⟨i0, hi, hz0, hz1, hz2⟩ := info_parts info24
  obtain ⟨B, c, rfl, hb⟩ := hb
  by_cases h0 : b = []
  · subst h0
    refine wpList_plain hgd fun K hK => ?_
    have hrun := append_none (some ⟨g, 0, none⟩) B 1 c op.type w
    have hx' : ac.eval x = .slice B 0 c := hx
    unfold Oper.wp
    simp [execOp, ho, resolve, invoke, builtin, hs, hx', hrun, Result.andThen]
    refine hK _ _ (h (some ⟨g, 0, none⟩) 1 w ⟨_, _, rfl, .inr ⟨g, 0, rfl, hg, fun j hj => ?_⟩⟩ (Below.refl _ _))
    obtain rfl : j = 0 := by have : j < 1 := hj; omega
    exact hA
  · obtain ⟨g2, o2, rfl, _, hr2⟩ := hb.resolve_left h0
    refine wpList_append_grows w hgd s x 22 ho 24 i0 _ 8 88 Tryd.underlying22 hi hz0 hz1 hz2 rfl (by decide) (some ⟨g, 0, none⟩) 1 1 (fi [p]) hs (fun e => by cases e) rfl ?_ ⟨g2, o2, none⟩ b.length c (fi b) hx (fi_length b) (prow_cells hr2) (fi_one (fun q hq => hsl q (List.mem_cons_of_mem _ hq))) (by have := List.length_pos_iff.2 h0; omega) (by unfold maxLen; omega) (by omega) ?_
    · rintro ad e j u hj
      cases e
      exact prow_cells (o := 0) (l := [p]) (fun j hj => by
        obtain rfl : j = 0 := by have : j < 1 := hj; omega
        exact hA) j u hj
    · intro v' w' r1 r2
      have e1 : fi [p] ++ fi b = fi (p :: b) := by simp [fi]
      rw [e1, Nat.add_comm 1 b.length] at r1
      have hP := own_prow (l := p :: b) r1
      obtain ⟨A, c', rfl, hh⟩ := hP
      exact h A c' w' ⟨A, c', rfl, hh⟩ ((Below.refl _ w).grown r2 (Nat.le_refl _) (fun k e => by cases e))
end Go.Proofs
