/-
  A row behind another one; a set's clone.
-/
import Derived.Shelf.Abstract
import Derived.Shelf.RegionOpen
import Derived.WalkKit
import Derived.WalkSpells
import Derived.WalkLawsBesides
import Derived.OwnWalk
import Derived.BigQuiet
import Derived.Deep.QuietTactic
import Derived.Lib.OthersKept
import Derived.Maps.AppendAt
import Derived.Lib.SmallJoins
import Derived.Test.YtjjkomaokgmkhaaDoorBbn
import Derived.Test.YtjjkomaokgmkhaaDoorGbn
namespace Go.Proofs
open Go.RowKit Go.Shelf

set_option maxRecDepth 100000
attribute [local go_sem] Oper.semAt_some
/-! a row behind another one -/
theorem append_empty (A B : Option Addr) (n c : Nat) (ty : TypeId) (w : World) : (Builtin.append_ #[27, 27] ty #[.slice A n n, .slice B 0 c]).run Tryd.prog w = .ok (.slice A n n) w := by
  obtain ⟨i0, hi, hz0, hz1, hz2⟩ := info_parts info38
  cases A <;> cases B <;> simp [Builtin.append_, run_underlying Tryd.underlying27, Go.sizeOf, typeInfo, hi, Builtin.lenOf, Builtin.firstCells, storeCells, loadCells, loadCellsFrom]
theorem reads_fl {w : World} {g o : Nat} {l : List (Int × Int)} (h : Reads w g o l) : ∀ j u, (fl l)[j]? = some u → w.cell? ((⟨g, o, none⟩ : Addr).add j) = some u := by
  intro j u hj
  have hl : j < (fl l).length := (List.getElem?_eq_some_iff.1 hj).1
  rw [fl_length] at hl
  rw [Addr.add_lit]
  have hk : j / 2 < l.length := by omega
  have h1 := h (j / 2) hk
  have h2 := fl_at l hk
  have h3 : j % 2 = 0 ∨ j % 2 = 1 := by omega
  rcases h3 with h3 | h3
  · have e : j / 2 * 2 = j := by omega
    have e2 : o + j / 2 * 2 = o + j := by omega
    rw [e] at h2
    rw [e2] at h1
    rw [h2.1] at hj; cases hj; exact h1.1
  · have e : j / 2 * 2 + 1 = j := by omega
    have e2 : o + j / 2 * 2 + 1 = o + j := by omega
    rw [e] at h2
    rw [e2] at h1
    rw [h2.2] at hj; cases hj; exact h1.2
theorem app_full {ops : Array Oper} {rest : List Oper} {op : Oper} {ac : Act} {Q : Exit → Act → World → Prop} {w : World} (hgd : op.guard = none) (s x : Operand)
    (ho : op.op = .call { callee := .builtin .append, args := #[s, x], argTypes := #[27, 27] }) (A B : Option Addr) (n m c : Nat) (a b : List (Int × Int)) (hs : ac.eval s = .slice A n n) (hx : ac.eval x = .slice B m c)
    (hn : a.length = n) (hm : b.length = m) (h1 : a = [] ∨ ∃ g o, A = some ⟨g, o, none⟩ ∧ Reads w g o a) (h2 : b = [] ∨ ∃ g o, B = some ⟨g, o, none⟩ ∧ Reads w g o b) (hl : n + m ≤ 8796093022208)
    (h : ∀ v' w', (b ≠ [] → OwnR w' w.heap.size v' (a ++ b)) → (b = [] → v' = .slice A n n ∧ w' = w) → Below w.heap.size w w' → wpList Tryd.prog ops Q rest (ac.put op.dst v') w') : wpList Tryd.prog ops Q (op :: rest) ac w := by
  obtain ⟨i0, hi, hz0, hz1, hz2⟩ := info_parts info38
  by_cases hb : b = []
  · subst hb
    obtain rfl : m = 0 := by simpa using hm.symm
    refine wpList_plain hgd fun K hK => ?_
    have hrun := append_empty A B n c op.type w
    unfold Oper.wp
    simp [execOp, ho, resolve, invoke, builtin, hs, hx, hrun, Result.andThen]
    exact hK _ _ (h _ _ (fun e => absurd rfl e) (fun _ => ⟨rfl, rfl⟩) (Below.refl _ _))
  · obtain ⟨g2, o2, rfl, hr2⟩ := h2.resolve_left hb
    refine wpList_append_grows w hgd s x 27 ho 29 i0 (.agg #[.int .i64 0, .int .i64 0]) 2 16 Tryd.underlying27 hi hz0 hz1 hz2 rfl (by decide) A n n (fl a) hs ?_ (by rw [fl_length, hn]) ?_ ⟨g2, o2, none⟩ m c (fl b) hx (by rw [fl_length, hm]) (reads_fl hr2) (fl_one _) ?_ (by unfold maxLen; omega) (by omega) ?_
    · rintro rfl
      rcases h1 with rfl | ⟨g, o, e, _⟩
      · simp at hn; omega
      · cases e
    · rintro ad rfl j u hj
      rcases h1 with rfl | ⟨g, o, e, hr⟩
      · simp [fl] at hj
      · cases e; exact reads_fl hr j u hj
    · have := List.length_pos_iff.2 hb; omega
    · intro v' w' r1 r2
      have hO : OwnR w' w.heap.size v' (a ++ b) := by
        unfold OwnR
        rw [List.length_append, hn, hm, fl_append]; exact r1
      exact h v' w' (fun _ => hO) (fun e => absurd e hb) ((Below.refl _ w).grown r2 (Nat.le_refl _) (fun k e => by cases e))
theorem eq_some (W : World) (a : Addr) (n c : Nat) : (binOp .eql 27 (.slice (some a) n c) (.slice none 0 0)).run Tryd.prog W = .ok (.bool false) W := by kernel_rfl
theorem eq_none (W : World) (n c : Nat) : (binOp .eql 27 (.slice none n c) (.slice none 0 0)).run Tryd.prog W = .ok (.bool true) W := by kernel_rfl
theorem clone_nil (w : World) (n c : Nat) : Calls Tryd.prog 30 #[.slice none n c] w fun e w' => e = .returned (.slice none 0 0) ∧ w' = w := by
  have he := eq_none
  go_enter Tryd.func30, Tryd.ntmps30
  go_wp2
  go_ret
  exact ⟨rfl, rfl⟩
set_option maxHeartbeats 1000000 in
theorem clone_any (w : World) (g o n c : Nat) (l : List (Int × Int)) (hn : l.length = n) (hl : n ≤ 8796093022208) (hr : l = [] ∨ Reads w g o l) :
    Calls Tryd.prog 30 #[.slice (some ⟨g, o, none⟩) n c] w fun e w' => ∃ v, e = .returned v ∧ OwnR w' w.heap.size v l ∧ Below w.heap.size w w' := by
  have he := eq_some
  have HR : Hid (l = [] ∨ ∃ g' o', some (⟨g, o, none⟩ : Addr) = some ⟨g', o', none⟩ ∧ Reads (w.alloc (.cells #[] 29)) g' o' l) := by
    by_cases h0 : l = []
    · exact .inl h0
    · have h := hr.resolve_left h0
      exact .inr ⟨g, o, rfl, h.below ((Below.refl _ w).alloc (Nat.le_refl _) _) (h.lt h0)⟩
  have HN : Hid (l.length = n) := hn
  obtain ⟨h, hh⟩ : ∃ h, w.heap.size = h := ⟨_, rfl⟩
  have HH : Hid (w.heap.size = h) := hh
  clear hr hn
  go_enter Tryd.func30, Tryd.ntmps30
  go_wp2_with (at_builtin; go_must (refine app_full rfl _ _ rfl (some ⟨h, 0, none⟩) (some ⟨g, o, none⟩) 0 n c [] l rfl rfl rfl HN.out (.inl rfl) HR.out (by omega) ?_); intro v' w3 hr3 hr4 hb3)
  go_ret
  refine ⟨_, rfl, ?_, ((Below.refl _ w).alloc (Nat.le_refl _) _).trans (hb3.mono (by simp))⟩
  by_cases h0 : l = []
  · obtain ⟨rfl, rfl⟩ := hr4 h0
    subst h0
    refine ⟨rfl, .inr ⟨h, 0, #[], rfl, Nat.le_of_eq HH.out, ?_, Nat.le_refl _, Nat.zero_le _, rfl, rfl⟩⟩
    rw [← HH.out]
    exact heap_alloc_new _ _
  · have := (hr3 h0).le (base' := w.heap.size) (by simp)
    simpa using this
end Go.Proofs
