/-
  Join, Meet, Less and Other of sets.
-/
import Derived.RangeFuncNested
import Derived.RangeFuncBound
import Derived.RangeFuncCalls
import Derived.RangeFuncLeaves
import Derived.Shelf.Abstract
import Derived.Shelf.RegionOpen
import Derived.WalkKit
import Derived.WalkSpells
import Derived.WalkLawsBesides
import Derived.OwnWalkIn
import Derived.TacticsInMore
import Derived.LoopNIn
import Derived.LoopIn
import Derived.BigQuiet
import Derived.RegionIn
import Derived.Deep.QuietTactic
import Derived.Deep.RegionWith
import Derived.Lib.OthersKept
import Derived.Maps.AppendAt
import Derived.Lib.SmallJoins
import Derived.ArgAppend
import Derived.Test.YtmgkolelcflcbaaDoorVj
import Derived.Test.YtmgkolelcflcbaaDoorVk
import Derived.Test.YtmgkolelcflcbaaDoorVl
namespace Go.Proofs
open Go.RowKit Go.Shelf

set_option maxRecDepth 100000
attribute [local go_sem] Oper.semAt_some
/-! a row behind another one -/
theorem append_empty (A B : Option Addr) (n c : Nat) (ty : TypeId) (w : World) : (Builtin.append_ #[29, 29] ty #[.slice A n n, .slice B 0 c]).run Tryd.prog w = .ok (.slice A n n) w := by
  obtain ⟨i0, hi, hz0, hz1, hz2⟩ := info_parts info38
  cases A <;> cases B <;> simp [Builtin.append_, run_underlying Tryd.underlying29, Go.sizeOf, typeInfo, hi, Builtin.lenOf, Builtin.firstCells, storeCells, loadCells, loadCellsFrom]
theorem reads_fl {w : World} {g o : Nat} {l : List (Int × Int)} (h : Reads w g o l) : ∀ j u, (fl l)[j]? = some u → w.cell? ((⟨g, o, none⟩ : Addr).add j) = some u := by
  intro j u hj
  have hl : j < (fl l).length := (List.getElem?_eq_some_iff.1 hj).1
  rw [fl_length] at hl
  rw [Addr.add_lit]
  have hk : j / 2 < l.length := by omega
  have h1 := h (j / 2) hk
  have h2 := fl_at l hk
  have h3 : j % 2 = 0 ∨ j % 2 = 1 := by omega
  rcases h3 with h3 | h3
  · have e : j / 2 * 2 = j := by omega
    have e2 : o + j / 2 * 2 = o + j := by omega
    rw [e] at h2
    rw [e2] at h1
    rw [h2.1] at hj; cases hj; exact h1.1
  · have e : j / 2 * 2 + 1 = j := by omega
    have e2 : o + j / 2 * 2 + 1 = o + j := by omega
    rw [e] at h2
    rw [e2] at h1
    rw [h2.2] at hj; cases hj; exact h1.2
theorem app_full {ops : Array Oper} {rest : List Oper} {op : Oper} {ac : Act} {Q : Exit → Act → World → Prop} {w : World} (hgd : op.guard = none) (s x : Operand)
    (ho : op.op = .call { callee := .builtin .append, args := #[s, x], argTypes := #[29, 29] }) (A B : Option Addr) (n m c : Nat) (a b : List (Int × Int)) (hs : ac.eval s = .slice A n n) (hx : ac.eval x = .slice B m c)
    (hn : a.length = n) (hm : b.length = m) (h1 : a = [] ∨ ∃ g o, A = some ⟨g, o, none⟩ ∧ Reads w g o a) (h2 : b = [] ∨ ∃ g o, B = some ⟨g, o, none⟩ ∧ Reads w g o b) (hl : n + m ≤ 8796093022208)
    (h : ∀ v' w', Rs w' v' (a ++ b) → Below w.heap.size w w' → wpList Tryd.prog ops Q rest (ac.put op.dst v') w') : wpList Tryd.prog ops Q (op :: rest) ac w := by
  obtain ⟨i0, hi, hz0, hz1, hz2⟩ := info_parts info38
  by_cases hb : b = []
  · subst hb
    obtain rfl : m = 0 := by simpa using hm.symm
    refine wpList_plain hgd fun K hK => ?_
    have hrun := append_empty A B n c op.type w
    unfold Oper.wp
    simp [execOp, ho, resolve, invoke, builtin, hs, hx, hrun, Result.andThen]
    refine hK _ _ (h _ _ ?_ (Below.refl _ _))
    exact ⟨A, n, by simp [hn], by simp [hn], by simpa using h1⟩
  · obtain ⟨g2, o2, rfl, hr2⟩ := h2.resolve_left hb
    refine wpList_append_grows w hgd s x 29 ho 38 i0 (.agg #[.int .i64 0, .int .i64 0]) 2 16 Tryd.underlying29 hi hz0 hz1 hz2 rfl (by decide) A n n (fl a) hs ?_ (by rw [fl_length, hn]) ?_ ⟨g2, o2, none⟩ m c (fl b) hx (by rw [fl_length, hm]) (reads_fl hr2) (fl_one _) ?_ (by unfold maxLen; omega) (by omega) ?_
    · rintro rfl
      rcases h1 with rfl | ⟨g, o, e, _⟩
      · simp at hn; omega
      · cases e
    · rintro ad rfl j u hj
      rcases h1 with rfl | ⟨g, o, e, hr⟩
      · simp [fl] at hj
      · cases e; exact reads_fl hr j u hj
    · have := List.length_pos_iff.2 hb; omega
    · intro v' w' r1 r2
      have hO : OwnR w' w.heap.size v' (a ++ b) := by
        unfold OwnR
        rw [List.length_append, hn, hm, fl_append]; exact r1
      exact h v' w' hO.rs ((Below.refl _ w).grown r2 (Nat.le_refl _) (fun k e => by cases e))
/-- what a call that makes a set answers -/
def Ans (B : Nat) (r : List (Int × Int)) (e : Ending) (w' : World) : Prop := (r.length ≤ 512 ∧ ∃ v, e = .returned (.tuple #[v, .int .i64 0]) ∧ OwnR w' B v r) ∨ (512 < r.length ∧ e = .returned (.tuple #[.slice none 0 0, .int .i64 21]))
theorem few_ans (v : Value) (r : List (Int × Int)) (B : Nat) (w : World) (h : OwnR w B v r) : Calls Tryd.prog 46 #[v] w fun e w' => Ans B r e w' ∧ w' = w := by
  obtain ⟨a, c, rfl, _, _⟩ := OwnR.rs h
  refine (few_any a r.length c w).mono ?_
  rintro e w' ⟨rfl, rfl⟩
  refine ⟨?_, rfl⟩
  by_cases hl : r.length ≤ 512
  · rw [if_pos hl]; exact .inl ⟨hl, _, rfl, h⟩
  · rw [if_neg hl]; exact .inr ⟨by omega, rfl⟩
theorem Ans.pair {B : Nat} {r : List (Int × Int)} {e : Ending} {w' : World} (h : Ans B r e w') : ∃ v n, e = .returned (.tuple #[v, .int .i64 n]) := by
  rcases h with ⟨_, v, rfl, _⟩ | ⟨_, rfl⟩
  · exact ⟨_, _, rfl⟩
  · exact ⟨_, _, rfl⟩
theorem Ans.le {B B' : Nat} {r : List (Int × Int)} {e : Ending} {w' : World} (h : Ans B r e w') (hb : B' ≤ B) : Ans B' r e w' := by
  rcases h with ⟨h1, v, h2, h3⟩ | h
  · exact .inl ⟨h1, v, h2, h3.le hb⟩
  · exact .inr h
set_option maxHeartbeats 2000000 in
theorem join_any (va vb : Value) (a b : List (Int × Int)) (w : World) (hT : Tab w) (ha : Rs w va a) (hb : Rs w vb b) (hva : validB a = true) (hvb : validB b = true) :
    Calls Tryd.prog 32 #[va, vb] w fun e w' => ∃ r, (Good r ∧ ∀ u, hasU r u ↔ hasU a u ∨ hasU b u) ∧ Ans w.heap.size r e w' ∧ Below w.heap.size w w' := by
  have hGa := (validB_iff a).1 hva
  have hGb := (validB_iff b).1 hvb
  have HA : Hid (Calls Tryd.prog 19 #[va] w fun e w' => e = .returned (.bool true) ∧ Grown w w') := by have := valid_any va a w hT ha; rw [hva] at this; exact this
  have HB : Hid (∀ W, Grown w W → Calls Tryd.prog 19 #[vb] W fun e w' => e = .returned (.bool true) ∧ Grown W w') := fun W hW => by have := valid_any vb b W (hT.grown hW) (hb.below hW.below (Nat.le_refl _)); rw [hvb] at this; exact this
  obtain ⟨A, c1, rfl, hc1, h1⟩ := ha
  obtain ⟨B, c2, rfl, hc2, h2⟩ := hb
  obtain ⟨n1, hn1⟩ : ∃ n, a.length = n := ⟨_, rfl⟩
  obtain ⟨n2, hn2⟩ : ∃ n, b.length = n := ⟨_, rfl⟩
  have HN : Hid (a.length = n1 ∧ b.length = n2) := ⟨hn1, hn2⟩
  have HG : Hid ((a.length ≤ 512 ∧ Good a) ∧ (b.length ≤ 512 ∧ Good b)) := ⟨hGa, hGb⟩
  have H1 : Hid (a = [] ∨ ∃ g o, A = some ⟨g, o, none⟩ ∧ Reads w g o a) := h1
  have H2 : Hid (b = [] ∨ ∃ g o, B = some ⟨g, o, none⟩ ∧ Reads w g o b) := h2
  rw [hn1] at hc1 HA ⊢
  rw [hn2] at hc2 HB ⊢
  have k1 : n1 ≤ 512 := by omega
  have k2 : n2 ≤ 512 := by omega
  have k3 : (n1 : Int) ≤ (c1 : Int) := by omega
  have k4 : (0 : Int) ≤ (n1 : Int) := by omega
  clear hn1 hn2 h1 h2 hGa hGb hva hvb
  go_enter Tryd.func32, Tryd.ntmps32
  go_wp2_with fail
  refine HA.out.mono ?_
  rintro e w1 ⟨rfl, hb1⟩
  go_wp2_with fail
  refine (HB.out w1 hb1).mono ?_
  rintro e w2 ⟨rfl, hb2⟩
  have hG2 := hb1.trans hb2
  have rd : ∀ (l : List (Int × Int)) (X : Option Addr), (l = [] ∨ ∃ g o, X = some ⟨g, o, none⟩ ∧ Reads w g o l) → (l = [] ∨ ∃ g o, X = some ⟨g, o, none⟩ ∧ Reads w2 g o l) := fun l X h => by
    rcases h with h | ⟨g, o, e, h⟩
    · exact .inl h
    · exact .inr ⟨g, o, e, fun j hj => ⟨hG2.cellv (h j hj).1, hG2.cellv (h j hj).2⟩⟩
  have HD : Hid (∀ (l : List (Int × Int)) (X : Option Addr), (l = [] ∨ ∃ g o, X = some ⟨g, o, none⟩ ∧ Reads w g o l) → (l = [] ∨ ∃ g o, X = some ⟨g, o, none⟩ ∧ Reads w2 g o l)) := rd
  clear rd hb1 hb2
  go_wp2_with (at_builtin; go_must (refine app_full rfl _ _ rfl A B n1 n2 c2 a b rfl rfl HN.out.1 HN.out.2 (HD.out a A H1.out) (HD.out b B H2.out) (by omega) ?_); intro v' w3 hr3 hb3)
  have hB3 : Below w.heap.size w w3 := hG2.below.trans (hb3.mono hG2.size)
  refine (of_any v' (a ++ b) w3 (hT.below hB3 hT.pos) hr3 (by rw [List.length_append, HN.out.1, HN.out.2]; omega)).mono ?_
  rintro e w4 ⟨r, hr, hans, hb4⟩
  have hans' : Ans w3.heap.size r e w4 := hans
  obtain ⟨v4, n4, rfl⟩ := hans'.pair
  have HR : Hid (Good r ∧ ∀ u, hasU r u ↔ hasU a u ∨ hasU b u) := ⟨hr.1, fun u => by
    rw [hr.2 u, hasU_append]
    exact ⟨fun k => k.2, fun k => ⟨by rcases k with k | k; exact good_units HG.out.1.2 k; exact good_units HG.out.2.2 k, k⟩⟩⟩
  have HE : Hid (Ans w.heap.size r (.returned (.tuple #[v4, .int .i64 n4])) w4) := hans'.le hB3.size
  clear hr hans hans' hr3
  go_wp2
  go_ret2
  exact ⟨r, HR.out, HE.out, hB3.trans (hb4.mono hB3.size)⟩
set_option maxHeartbeats 2000000 in
theorem meet_any (va vb : Value) (a b : List (Int × Int)) (w : World) (hT : Tab w) (ha : Rs w va a) (hb : Rs w vb b) (hva : validB a = true) (hvb : validB b = true) :
    Calls Tryd.prog 34 #[va, vb] w fun e w' => ∃ r, (Good r ∧ ∀ u, hasU r u ↔ hasU a u ∧ hasU b u) ∧ Ans w.heap.size r e w' ∧ Below w.heap.size w w' := by
  have hGa := (validB_iff a).1 hva
  have hGb := (validB_iff b).1 hvb
  have HA : Hid (Calls Tryd.prog 19 #[va] w fun e w' => e = .returned (.bool true) ∧ Grown w w') := by have := valid_any va a w hT ha; rw [hva] at this; exact this
  have HB : Hid (∀ W, Grown w W → Calls Tryd.prog 19 #[vb] W fun e w' => e = .returned (.bool true) ∧ Grown W w') := fun W hW => by have := valid_any vb b W (hT.grown hW) (hb.below hW.below (Nat.le_refl _)); rw [hvb] at this; exact this
  have HG : Hid ((a.length ≤ 512 ∧ Good a) ∧ (b.length ≤ 512 ∧ Good b)) := ⟨hGa, hGb⟩
  have H1 : Hid (Rs w va a) := ha
  have H2 : Hid (Rs w vb b) := hb
  clear hGa hGb hva hvb ha hb
  go_enter Tryd.func34, Tryd.ntmps34
  go_wp2_with fail
  refine HA.out.mono ?_
  rintro e w1 ⟨rfl, hb1⟩
  go_wp2_with fail
  refine (HB.out w1 hb1).mono ?_
  rintro e w2 ⟨rfl, hb2⟩
  have hG2 := hb1.trans hb2
  clear hb1 hb2
  go_wp2_with fail
  refine (common_any va vb a b w2 (H1.out.below hG2.below (Nat.le_refl _)) (H2.out.below hG2.below (Nat.le_refl _)) HG.out.1.2 HG.out.2.2.2 (by have := HG.out.1.1; omega) (by have := HG.out.2.1; omega)).mono ?_
  rintro e w3 ⟨v3, r, rfl, hr, hO3, hb3⟩
  have hB3 : Below w.heap.size w w3 := hG2.below.trans (hb3.mono hG2.size)
  have HR : Hid (Good r ∧ ∀ u, hasU r u ↔ hasU a u ∧ hasU b u) := hr
  have HO : Hid (OwnR w3 w.heap.size v3 r) := hO3.le hG2.size
  clear hr hO3 hb3
  go_wp2_with fail
  refine (few_ans v3 r _ w3 HO.out).mono ?_
  rintro e w4 ⟨hans, rfl⟩
  obtain ⟨v4, n4, rfl⟩ := hans.pair
  have HE : Hid (Ans w.heap.size r (.returned (.tuple #[v4, .int .i64 n4])) w4) := hans
  clear hans
  go_wp2
  go_ret2
  exact ⟨r, HR.out, HE.out, hB3⟩
set_option maxHeartbeats 2000000 in
theorem less_any (va vb : Value) (a b : List (Int × Int)) (w : World) (hT : Tab w) (ha : Rs w va a) (hb : Rs w vb b) (hva : validB a = true) (hvb : validB b = true) :
    Calls Tryd.prog 36 #[va, vb] w fun e w' => ∃ r, (Good r ∧ ∀ u, hasU r u ↔ hasU a u ∧ ¬ hasU b u) ∧ Ans w.heap.size r e w' ∧ Below w.heap.size w w' := by
  have hGa := (validB_iff a).1 hva
  have hGb := (validB_iff b).1 hvb
  have HA : Hid (Calls Tryd.prog 19 #[va] w fun e w' => e = .returned (.bool true) ∧ Grown w w') := by have := valid_any va a w hT ha; rw [hva] at this; exact this
  have HB : Hid (∀ W, Grown w W → Calls Tryd.prog 19 #[vb] W fun e w' => e = .returned (.bool true) ∧ Grown W w') := fun W hW => by have := valid_any vb b W (hT.grown hW) (hb.below hW.below (Nat.le_refl _)); rw [hvb] at this; exact this
  have HG : Hid ((a.length ≤ 512 ∧ Good a) ∧ (b.length ≤ 512 ∧ Good b)) := ⟨hGa, hGb⟩
  have H1 : Hid (Rs w va a) := ha
  have H2 : Hid (Rs w vb b) := hb
  clear hGa hGb hva hvb ha hb
  go_enter Tryd.func36, Tryd.ntmps36
  go_wp2_with fail
  refine HA.out.mono ?_
  rintro e w1 ⟨rfl, hb1⟩
  go_wp2_with fail
  refine (HB.out w1 hb1).mono ?_
  rintro e w2 ⟨rfl, hb2⟩
  have hG2 := hb1.trans hb2
  clear hb1 hb2
  go_wp2_with fail
  refine (gaps_any vb b w2 (H2.out.below hG2.below (Nat.le_refl _)) HG.out.2.2 HG.out.2.1).mono ?_
  rintro e w3 ⟨v3, gp, rfl, hgp, hO3, hb3⟩
  have hB3 : Below w.heap.size w w3 := hG2.below.trans (hb3.mono hG2.size)
  have HP : Hid (gp.Pairwise (fun x y => x.2 + 2 ≤ y.1) ∧ (∀ u, 0 ≤ u → u ≤ 1114367 → (hasU gp u ↔ ¬ hasU b u)) ∧ gp.length ≤ 513) := hgp
  have HV : Hid (Rs w3 v3 gp) := hO3.rs
  clear hgp hO3 hb3
  go_wp2_with fail
  refine (common_any va v3 a gp w3 (H1.out.below hB3 (Nat.le_refl _)) HV.out HG.out.1.2 HP.out.1 (by have := HG.out.1.1; omega) (by have := HP.out.2.2; omega)).mono ?_
  rintro e w4 ⟨v4, r, rfl, hr, hO4, hb4⟩
  have hB4 : Below w.heap.size w w4 := hB3.trans (hb4.mono hB3.size)
  have HR : Hid (Good r ∧ ∀ u, hasU r u ↔ hasU a u ∧ ¬ hasU b u) := ⟨hr.1, fun u => by
    rw [hr.2 u]
    constructor
    · rintro ⟨k1, k2⟩
      have hu := good_units HG.out.1.2 k1
      unfold isU at hu
      exact ⟨k1, (HP.out.2.1 u (by omega) (by omega)).1 k2⟩
    · rintro ⟨k1, k2⟩
      have hu := good_units HG.out.1.2 k1
      unfold isU at hu
      exact ⟨k1, (HP.out.2.1 u (by omega) (by omega)).2 k2⟩⟩
  have HO : Hid (OwnR w4 w.heap.size v4 r) := hO4.le hB3.size
  clear hr hO4 hb4
  go_wp2_with fail
  refine (few_ans v4 r _ w4 HO.out).mono ?_
  rintro e w5 ⟨hans, rfl⟩
  obtain ⟨v5, n5, rfl⟩ := hans.pair
  have HE : Hid (Ans w.heap.size r (.returned (.tuple #[v5, .int .i64 n5])) w5) := hans
  clear hans
  go_wp2
  go_ret2
  exact ⟨r, HR.out, HE.out, hB4⟩
def runesL : List (Int × Int) := [(0, 55295), (57344, 1114111)]
theorem runes_valid : validB runesL = true := by decide +kernel
set_option maxHeartbeats 2000000 in
theorem other_any (va : Value) (a : List (Int × Int)) (w : World) (hT : Tab w) (ha : Rs w va a) (hva : validB a = true) :
    Calls Tryd.prog 38 #[va] w fun e w' => ∃ r, (Good r ∧ ∀ u, hasU r u ↔ hasU runesL u ∧ ¬ hasU a u) ∧ Ans w.heap.size r e w' ∧ Below w.heap.size w w' := by
  have H1 : Hid (Rs w va a) := ha
  have HV : Hid (validB a = true) := hva
  clear ha hva
  go_enter Tryd.func38, Tryd.ntmps38
  go_wp2_with fail
  refine (runes_any w hT).mono ?_
  rintro e w1 ⟨v1, rfl, hr1, hb1⟩
  have HR1 : Hid (Rs w1 v1 runesL) := hr1
  clear hr1
  go_wp2_with fail
  refine (less_any v1 va runesL a w1 (hT.below hb1 hT.pos) HR1.out (H1.out.below hb1 (Nat.le_refl _)) runes_valid HV.out).mono ?_
  rintro e w2 ⟨r, hr, hans, hb2⟩
  obtain ⟨v5, n5, rfl⟩ := hans.pair
  have HR : Hid (Good r ∧ ∀ u, hasU r u ↔ hasU runesL u ∧ ¬ hasU a u) := hr
  have HE : Hid (Ans w.heap.size r (.returned (.tuple #[v5, .int .i64 n5])) w2) := hans.le hb1.size
  clear hans hr
  go_wp2
  go_ret2
  exact ⟨r, HR.out, HE.out, hb1.trans (hb2.mono hb1.size)⟩
end Go.Proofs
