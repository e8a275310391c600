/-
  Rows of numbers behind rows of the call its own.
-/
import Derived.RangeFuncNested
import Derived.RangeFuncBound
import Derived.RangeFuncCalls
import Derived.RangeFuncLeaves
import Derived.Shelf.Abstract
import Derived.Shelf.RegionOpen
import Derived.WalkKit
import Derived.WalkSpells
import Derived.WalkLawsBesides
import Derived.OwnWalkIn
import Derived.TacticsInMore
import Derived.LoopNIn
import Derived.LoopIn
import Derived.BigQuiet
import Derived.RegionIn
import Derived.Deep.QuietTactic
import Derived.Deep.RegionWith
import Derived.Lib.OthersKept
import Derived.Maps.AppendAt
import Derived.Lib.SmallJoins
import Derived.Shelf.SlSortCmp.QuietGrown
import Derived.Test.YtpppcfppabghhaaDoorNf
import Derived.Test.YtpppcfppabghhaaDoorWe
namespace Go.Proofs
open Go.RowKit Go.Shelf

set_option maxRecDepth 100000
attribute [local go_sem] Oper.semAt_some
attribute [local go_sem ↓] Go.wp_at_zero Go.wp_at_succ
/-- a row of numbers behind a row of the call's own -/
theorem app_I {ops : Array Oper} {rest : List Oper} {o : Oper} {a : Act} {Q : Exit → Act → World → Prop} {w : World} (hgd : o.guard = none) (s x : Operand) (t : TypeId)
    (ho : o.op = .call { callee := .builtin .append, args := #[s, x], argTypes := #[t, t] }) (ht : Tryd.prog.underlying t = some (.slice 3))
    (base : Nat) (v : Value) (l b k : List Int) (hk : l ++ b = k) (hs : a.eval s = v) (hown : OwnI w base v l) (hv : v ≠ .slice none 0 0) (ad : Addr) (m c : Nat) (hx : a.eval x = .slice (some ad) m c)
    (hr : IR w (.slice (some ad) m c) b) (hl : l.length + b.length ≤ 8796093022208) (hbase : base ≤ w.heap.size)
    (h : ∀ g N cap w', N = k.length → OwnI w' base (.slice (some ⟨g, 0, none⟩) N cap) k → Below base w w' → wpList Tryd.prog ops Q rest (a.put o.dst (.slice (some ⟨g, 0, none⟩) N cap)) w') : wpList Tryd.prog ops Q (o :: rest) a w := by
  subst hk
  obtain ⟨i0, hi, hz0, hz1, hz2⟩ := info_parts iinfo3
  obtain ⟨a', c', e, _, hb⟩ := hr
  injection e with e1 e2 e3
  subst e2
  refine wpList_append_own w hgd s x t ho base 3 i0 (.int .i64 0) 1 8 ht hi hz0 hz1 hz2 rfl (by decide) v l.length (ints l) hs hown ad b.length c (ints b) hx (by rw [ints_length, Nat.mul_one]) ?_ (ints_one _) (by unfold maxLen; omega) (by omega) hbase (fun v' w' h2 h3 h4 => ?_)
  · intro j u hj
    rcases hb with hb | ⟨g, o', e2, hR⟩
    · subst hb; simp [ints] at hj
    · rw [e2] at e1
      injection e1 with e1
      subst e1
      have hjl : j < b.length := by rw [← ints_length]; exact (List.getElem?_eq_some_iff.1 hj).1
      have hadd : (⟨g, o', none⟩ : Addr).add j = ⟨g, o' + j, none⟩ := by unfold Addr.add; split <;> simp_all
      rw [hadd, hR j hjl]
      have : (ints b)[j]? = some (.int .i64 b[j]) := by simp [ints, hjl]
      rw [this] at hj
      exact hj
  · have hO : OwnI w' base v' (l ++ b) := by
      unfold OwnI
      rw [List.length_append, ints_append]; exact h2
    rcases hO.2 with ⟨e, _⟩ | ⟨g, cap, cur, e, _, _, hcp, _⟩
    · exact absurd (h4.1 e).1 hv
    · subst e
      exact h g _ cap w' rfl hO ((Below.refl _ w).grown h3 hbase (fun k hk => (World.ownsRow.lt hown k hk).1))
theorem ir_leng {w : World} {a : Option Addr} {n c : Nat} {l : List Int} (h : IR w (.slice a n c) l) : n = l.length := by
  obtain ⟨a', c', e, _, _⟩ := h
  injection e with e1 e2 e3
theorem ir_addr {w : World} {a : Option Addr} {n c : Nat} {l : List Int} (h : IR w (.slice a n c) l) (h0 : l ≠ []) : ∃ g o, a = some ⟨g, o, none⟩ := by
  obtain ⟨a', c', e, _, h⟩ := h
  injection e with e1 e2 e3
  obtain ⟨g, o, h1, _⟩ := h.resolve_left h0
  exact ⟨g, o, e1.trans h1⟩
theorem own_twoI (w : World) (u : Int) : OwnI (w.alloc (.cells #[.int .i64 u, .int .i64 u] 3)) w.heap.size (.slice (some ⟨w.heap.size, 0, none⟩) 2 2) [u, u] :=
  NewI.own ⟨w.heap.size, rfl, Nat.le_refl _, heap_alloc_new _ _⟩ (by show 2 ≤ maxLen; decide)
theorem own_emptyI (w : World) : OwnI (w.alloc (.cells #[] 3)) w.heap.size (.slice (some ⟨w.heap.size, 0, none⟩) 0 0) [] :=
  NewI.own ⟨w.heap.size, rfl, Nat.le_refl _, heap_alloc_new _ _⟩ (by decide)
theorem below_up {b : Nat} {w w' : World} (h : Below b w w') (hb : b ≤ w.heap.size) (o : Obj) : Below b w (w'.alloc o) := h.trans ((Below.refl _ w').alloc (by have := h.size; omega) o)
end Go.Proofs
