/-
  Join, Meet, Less, Other: ours and the document's, whatever they are given.
-/
import Derived.RangeFuncNested
import Derived.RangeFuncBound
import Derived.RangeFuncCalls
import Derived.RangeFuncLeaves
import Derived.Shelf.Abstract
import Derived.Shelf.RegionOpen
import Derived.WalkKit
import Derived.WalkSpells
import Derived.WalkLawsBesides
import Derived.OwnWalkIn
import Derived.TacticsInMore
import Derived.LoopNIn
import Derived.LoopIn
import Derived.BigQuiet
import Derived.RegionIn
import Derived.Deep.QuietTactic
import Derived.Deep.RegionWith
import Derived.Lib.OthersKept
import Derived.Maps.AppendAt
import Derived.Maps.OwnIn
import Derived.Lib.SmallJoins
import Derived.ArgAppend
import Derived.Deep.Upon
import Derived.Deep.AppendLies
import Derived.Test.YtmgkolelcflcbaaDoorRx
import Derived.Test.YtmgkolelcflcbaaDoorVm
import Derived.Test.YtmgkolelcflcbaaDoorB0
namespace Go.Proofs
open Go.RowKit Go.Shelf

set_option maxRecDepth 100000
attribute [local go_sem] Oper.semAt_some
attribute [local go_sem ↓] Go.wp_at_zero Go.wp_at_succ
theorem app_types (ty : TypeId) (s : Value) (A : Option Addr) (m c : Nat) (w : World) : (Builtin.append_ #[22, 29] ty #[s, .slice A m c]).run Tryd.prog w = (Builtin.append_ #[22, 22] ty #[s, .slice A m c]).run Tryd.prog w := by
  obtain ⟨i0, hi, -, -, -⟩ := info_parts info38
  cases s <;> simp [Builtin.append_, run_underlying Tryd.underlying22, run_underlying Tryd.underlying29, Go.sizeOf, typeInfo, hi]
theorem app_none (ty : TypeId) (v : Value) (n base : Nat) (xs : List Value) (A : Option Addr) (c : Nat) (w : World) (hO : w.ownsRow base 38 2 v n xs) : (Builtin.append_ #[22, 22] ty #[v, .slice A 0 c]).run Tryd.prog w = .ok v w := by
  obtain ⟨i0, hi, hz0, hz1, hz2⟩ := info_parts info38
  rcases hO.2 with ⟨rfl, _⟩ | ⟨g, cap, cur, rfl, _, hg, hc, _⟩
  · cases A <;> simp [Builtin.append_, run_underlying Tryd.underlying22, Go.sizeOf, typeInfo, hi, Builtin.lenOf, Builtin.firstCells, loadCells, loadCellsFrom]
  · cases A <;> simp [Builtin.append_, run_underlying Tryd.underlying22, Go.sizeOf, typeInfo, hi, Builtin.lenOf, Builtin.firstCells, storeCells, loadCells, loadCellsFrom, hc]
theorem push_Rs {ops : Array Oper} {rest : List Oper} {o : Oper} {a : Act} {Q : Exit → Act → World → Prop} {w : World} (hgd : o.guard = none) (s x : Operand)
    (ho : o.op = .call { callee := .builtin .append, args := #[s, x], argTypes := #[22, 29] }) (base : Nat) (v xv : Value) (l k : List (Int × Int)) (hs : a.eval s = v) (hown : OwnR w base v l) (hx : a.eval x = xv) (hk : Rs w xv k)
    (hn : l.length + k.length ≤ 8796093022208) (hb : base ≤ w.heap.size)
    (h : ∀ v' w', OwnR w' base v' (l ++ k) → Below base w w' → wpList Tryd.prog ops Q rest (a.put o.dst v') w') : wpList Tryd.prog ops Q (o :: rest) a w := by
  obtain ⟨i0, hi, hz0, hz1, hz2⟩ := info_parts info38
  obtain ⟨A, cap, rfl, hc, hr⟩ := hk
  by_cases h0 : k = []
  · subst h0
    refine wpList_plain hgd fun K hK => ?_
    have hrun := (app_types o.type v A 0 cap w).trans (app_none o.type v l.length base (fl l) A cap w hown)
    unfold Oper.wp
    simp [execOp, ho, resolve, invoke, builtin, hs, hx, hrun, Result.andThen]
    exact hK _ _ (h _ _ (by simpa using hown) (Below.refl _ _))
  · obtain ⟨g, off, rfl, hr2⟩ := hr.resolve_left h0
    refine wpList_plain hgd fun K hK => ?_
    obtain ⟨v', w', hrun, h1, h2, _⟩ := run_append_own (P := Tryd.prog) w base 22 o.type 38 i0 (.agg #[.int .i64 0, .int .i64 0]) 2 16 Tryd.underlying22 hi hz0 hz1 hz2 rfl (by decide) v l.length (fl l) hown ⟨g, off, none⟩ k.length cap (fl k) (fl_length k) (reads_fl hr2) (fl_one _) (by unfold maxLen; omega) (by omega) hb
    have hrun2 := (app_types o.type v (some ⟨g, off, none⟩) k.length cap w).trans hrun
    unfold Oper.wp
    simp [execOp, ho, resolve, invoke, builtin, hs, hx, hrun2, Result.andThen]
    refine hK _ _ (h _ _ ?_ ((Below.refl _ w).grown h2 hb (fun j e => (hown.lt j e).1)))
    unfold OwnR
    rw [List.length_append, fl_append]; exact h1

/-- what a call tells of a set: its row, or why there is none -/
def Sp (P : Int → Prop) (vb : Bool) (l : List (Int × Int)) (n : Int) : Prop :=
  (vb = false ∧ l = [] ∧ n = 20) ∨ (vb = true ∧ ∃ r, Good r ∧ (∀ u, hasU r u ↔ P u) ∧ ((r.length ≤ 512 ∧ l = r ∧ n = 0) ∨ (512 < r.length ∧ l = [] ∧ n = 21)))
theorem Sp.unique {P : Int → Prop} {vb : Bool} {l l' : List (Int × Int)} {n n' : Int} (h : Sp P vb l n) (k : Sp P vb l' n') : l = l' ∧ n = n' := by
  rcases h with ⟨h0, h1, h2⟩ | ⟨h0, r, h1, h2, h3⟩ <;> rcases k with ⟨k0, k1, k2⟩ | ⟨k0, s, k1, k2, k3⟩
  · exact ⟨h1.trans k1.symm, h2.trans k2.symm⟩
  · rw [h0] at k0; cases k0
  · rw [h0] at k0; cases k0
  · have e : r = s := good_unique r s h1 k1 fun u => (h2 u).trans (k2 u).symm
    subst e
    rcases h3 with ⟨a1, a2, a3⟩ | ⟨a1, a2, a3⟩ <;> rcases k3 with ⟨b1, b2, b3⟩ | ⟨b1, b2, b3⟩
    · exact ⟨a2.trans b2.symm, a3.trans b3.symm⟩
    · omega
    · omega
    · exact ⟨a2.trans b2.symm, a3.trans b3.symm⟩
theorem Sp.len {P : Int → Prop} {vb : Bool} {l : List (Int × Int)} {n : Int} (h : Sp P vb l n) : l.length ≤ 512 := by
  rcases h with ⟨_, h1, _⟩ | ⟨_, r, _, _, ⟨a1, a2, _⟩ | ⟨_, a2, _⟩⟩
  · rw [h1]; simp
  · rw [a2]; exact a1
  · rw [a2]; simp
/-- what a call that makes a set answers, whatever it was given -/
def OpQ (P : Int → Prop) (vb : Bool) (w : World) (e : Ending) (w' : World) : Prop :=
  ∃ v l n, e = .returned (.tuple #[v, .int .i64 n]) ∧ OwnR w' w.heap.size v l ∧ Sp P vb l n ∧ Below w.heap.size w w'
theorem OpQ.of {P : Int → Prop} {w w' : World} {e : Ending} {r : List (Int × Int)} (hr : Good r ∧ ∀ u, hasU r u ↔ P u) (h : Ans w.heap.size r e w') (hb : Below w.heap.size w w') : OpQ P true w e w' := by
  rcases h with ⟨h1, v, h2, h3⟩ | ⟨h1, h2⟩
  · exact ⟨v, r, 0, h2, h3, .inr ⟨rfl, r, hr.1, hr.2, .inl ⟨h1, rfl, rfl⟩⟩, hb⟩
  · exact ⟨_, [], 21, h2, OwnR.nil _ _, .inr ⟨rfl, r, hr.1, hr.2, .inr ⟨h1, rfl, rfl⟩⟩, hb⟩
theorem OpQ.bad {P : Int → Prop} {w w' : World} (hb : Grown w w') : OpQ P false w (.returned (.tuple #[.slice none 0 0, .int .i64 20])) w' :=
  ⟨_, [], 20, rfl, OwnR.nil _ _, .inl ⟨rfl, rfl, rfl⟩, hb.below⟩
set_option maxHeartbeats 1000000 in
theorem join_no (va vb : Value) (a b : List (Int × Int)) (w : World) (hT : Tab w) (ha : Rs w va a) (hb : Rs w vb b) (hv : (validB a && validB b) = false) : Calls Tryd.prog 32 #[va, vb] w fun e w' => e = .returned (.tuple #[.slice none 0 0, .int .i64 20]) ∧ Grown w w' := by
  have HA : Hid (Calls Tryd.prog 19 #[va] w fun e w' => e = .returned (.bool (validB a)) ∧ Grown w w') := valid_any va a w hT ha
  have HB : Hid (∀ W, Grown w W → Calls Tryd.prog 19 #[vb] W fun e w' => e = .returned (.bool (validB b)) ∧ Grown W w') := fun W hW => valid_any vb b W (hT.grown hW) (hb.below hW.below (Nat.le_refl _))
  clear ha hb
  cases h1 : validB a with
  | false =>
    rw [h1] at HA
    clear hv h1 HB
    go_enter Tryd.func32, Tryd.ntmps32
    go_wp2_with fail
    refine HA.out.mono ?_
    rintro e w1 ⟨rfl, hb1⟩
    go_wp2
    go_ret2
    exact ⟨rfl, hb1⟩
  | true =>
    rw [h1] at HA hv
    rw [Bool.true_and] at hv
    rw [hv] at HB
    clear hv h1
    go_enter Tryd.func32, Tryd.ntmps32
    go_wp2_with fail
    refine HA.out.mono ?_
    rintro e w1 ⟨rfl, hb1⟩
    go_wp2_with fail
    refine (HB.out w1 hb1).mono ?_
    rintro e w2 ⟨rfl, hb2⟩
    go_wp2
    go_ret2
    exact ⟨rfl, hb1.trans hb2⟩
set_option maxHeartbeats 1000000 in
theorem meet_no (va vb : Value) (a b : List (Int × Int)) (w : World) (hT : Tab w) (ha : Rs w va a) (hb : Rs w vb b) (hv : (validB a && validB b) = false) : Calls Tryd.prog 34 #[va, vb] w fun e w' => e = .returned (.tuple #[.slice none 0 0, .int .i64 20]) ∧ Grown w w' := by
  have HA : Hid (Calls Tryd.prog 19 #[va] w fun e w' => e = .returned (.bool (validB a)) ∧ Grown w w') := valid_any va a w hT ha
  have HB : Hid (∀ W, Grown w W → Calls Tryd.prog 19 #[vb] W fun e w' => e = .returned (.bool (validB b)) ∧ Grown W w') := fun W hW => valid_any vb b W (hT.grown hW) (hb.below hW.below (Nat.le_refl _))
  clear ha hb
  cases h1 : validB a with
  | false =>
    rw [h1] at HA
    clear hv h1 HB
    go_enter Tryd.func34, Tryd.ntmps34
    go_wp2_with fail
    refine HA.out.mono ?_
    rintro e w1 ⟨rfl, hb1⟩
    go_wp2
    go_ret2
    exact ⟨rfl, hb1⟩
  | true =>
    rw [h1] at HA hv
    rw [Bool.true_and] at hv
    rw [hv] at HB
    clear hv h1
    go_enter Tryd.func34, Tryd.ntmps34
    go_wp2_with fail
    refine HA.out.mono ?_
    rintro e w1 ⟨rfl, hb1⟩
    go_wp2_with fail
    refine (HB.out w1 hb1).mono ?_
    rintro e w2 ⟨rfl, hb2⟩
    go_wp2
    go_ret2
    exact ⟨rfl, hb1.trans hb2⟩
set_option maxHeartbeats 1000000 in
theorem less_no (va vb : Value) (a b : List (Int × Int)) (w : World) (hT : Tab w) (ha : Rs w va a) (hb : Rs w vb b) (hv : (validB a && validB b) = false) : Calls Tryd.prog 36 #[va, vb] w fun e w' => e = .returned (.tuple #[.slice none 0 0, .int .i64 20]) ∧ Grown w w' := by
  have HA : Hid (Calls Tryd.prog 19 #[va] w fun e w' => e = .returned (.bool (validB a)) ∧ Grown w w') := valid_any va a w hT ha
  have HB : Hid (∀ W, Grown w W → Calls Tryd.prog 19 #[vb] W fun e w' => e = .returned (.bool (validB b)) ∧ Grown W w') := fun W hW => valid_any vb b W (hT.grown hW) (hb.below hW.below (Nat.le_refl _))
  clear ha hb
  cases h1 : validB a with
  | false =>
    rw [h1] at HA
    clear hv h1 HB
    go_enter Tryd.func36, Tryd.ntmps36
    go_wp2_with fail
    refine HA.out.mono ?_
    rintro e w1 ⟨rfl, hb1⟩
    go_wp2
    go_ret2
    exact ⟨rfl, hb1⟩
  | true =>
    rw [h1] at HA hv
    rw [Bool.true_and] at hv
    rw [hv] at HB
    clear hv h1
    go_enter Tryd.func36, Tryd.ntmps36
    go_wp2_with fail
    refine HA.out.mono ?_
    rintro e w1 ⟨rfl, hb1⟩
    go_wp2_with fail
    refine (HB.out w1 hb1).mono ?_
    rintro e w2 ⟨rfl, hb2⟩
    go_wp2
    go_ret2
    exact ⟨rfl, hb1.trans hb2⟩
set_option maxHeartbeats 1000000 in
theorem rjoin_no (va vb : Value) (a b : List (Int × Int)) (w : World) (ha : Rs w va a) (hb : Rs w vb b) (hv : (validB a && validB b) = false) : Calls Tryd.prog 33 #[va, vb] w fun e w' => e = .returned (.tuple #[.slice none 0 0, .int .i64 20]) ∧ Grown w w' := by
  have HA : Hid (Calls Tryd.prog 20 #[va] w fun e w' => e = .returned (.bool (validB a)) ∧ Grown w w') := rvalid_any va a w ha
  have HB : Hid (∀ W, Grown w W → Calls Tryd.prog 20 #[vb] W fun e w' => e = .returned (.bool (validB b)) ∧ Grown W w') := fun W hW => rvalid_any vb b W (hb.below hW.below (Nat.le_refl _))
  clear ha hb
  cases h1 : validB a with
  | false =>
    rw [h1] at HA
    clear hv h1 HB
    go_enter Tryd.func33, Tryd.ntmps33
    go_wp2_with fail
    refine HA.out.mono ?_
    rintro e w1 ⟨rfl, hb1⟩
    go_wp2
    go_ret2
    exact ⟨rfl, hb1⟩
  | true =>
    rw [h1] at HA hv
    rw [Bool.true_and] at hv
    rw [hv] at HB
    clear hv h1
    go_enter Tryd.func33, Tryd.ntmps33
    go_wp2_with fail
    refine HA.out.mono ?_
    rintro e w1 ⟨rfl, hb1⟩
    go_wp2_with fail
    refine (HB.out w1 hb1).mono ?_
    rintro e w2 ⟨rfl, hb2⟩
    go_wp2
    go_ret2
    exact ⟨rfl, hb1.trans hb2⟩
set_option maxHeartbeats 1000000 in
theorem rmeet_no (va vb : Value) (a b : List (Int × Int)) (w : World) (ha : Rs w va a) (hb : Rs w vb b) (hv : (validB a && validB b) = false) : Calls Tryd.prog 35 #[va, vb] w fun e w' => e = .returned (.tuple #[.slice none 0 0, .int .i64 20]) ∧ Grown w w' := by
  have HA : Hid (Calls Tryd.prog 20 #[va] w fun e w' => e = .returned (.bool (validB a)) ∧ Grown w w') := rvalid_any va a w ha
  have HB : Hid (∀ W, Grown w W → Calls Tryd.prog 20 #[vb] W fun e w' => e = .returned (.bool (validB b)) ∧ Grown W w') := fun W hW => rvalid_any vb b W (hb.below hW.below (Nat.le_refl _))
  clear ha hb
  cases h1 : validB a with
  | false =>
    rw [h1] at HA
    clear hv h1 HB
    go_enter Tryd.func35, Tryd.ntmps35
    go_wp2_with fail
    refine HA.out.mono ?_
    rintro e w1 ⟨rfl, hb1⟩
    go_wp2
    go_ret2
    exact ⟨rfl, hb1⟩
  | true =>
    rw [h1] at HA hv
    rw [Bool.true_and] at hv
    rw [hv] at HB
    clear hv h1
    go_enter Tryd.func35, Tryd.ntmps35
    go_wp2_with fail
    refine HA.out.mono ?_
    rintro e w1 ⟨rfl, hb1⟩
    go_wp2_with fail
    refine (HB.out w1 hb1).mono ?_
    rintro e w2 ⟨rfl, hb2⟩
    go_wp2
    go_ret2
    exact ⟨rfl, hb1.trans hb2⟩
set_option maxHeartbeats 1000000 in
theorem rless_no (va vb : Value) (a b : List (Int × Int)) (w : World) (ha : Rs w va a) (hb : Rs w vb b) (hv : (validB a && validB b) = false) : Calls Tryd.prog 37 #[va, vb] w fun e w' => e = .returned (.tuple #[.slice none 0 0, .int .i64 20]) ∧ Grown w w' := by
  have HA : Hid (Calls Tryd.prog 20 #[va] w fun e w' => e = .returned (.bool (validB a)) ∧ Grown w w') := rvalid_any va a w ha
  have HB : Hid (∀ W, Grown w W → Calls Tryd.prog 20 #[vb] W fun e w' => e = .returned (.bool (validB b)) ∧ Grown W w') := fun W hW => rvalid_any vb b W (hb.below hW.below (Nat.le_refl _))
  clear ha hb
  cases h1 : validB a with
  | false =>
    rw [h1] at HA
    clear hv h1 HB
    go_enter Tryd.func37, Tryd.ntmps37
    go_wp2_with fail
    refine HA.out.mono ?_
    rintro e w1 ⟨rfl, hb1⟩
    go_wp2
    go_ret2
    exact ⟨rfl, hb1⟩
  | true =>
    rw [h1] at HA hv
    rw [Bool.true_and] at hv
    rw [hv] at HB
    clear hv h1
    go_enter Tryd.func37, Tryd.ntmps37
    go_wp2_with fail
    refine HA.out.mono ?_
    rintro e w1 ⟨rfl, hb1⟩
    go_wp2_with fail
    refine (HB.out w1 hb1).mono ?_
    rintro e w2 ⟨rfl, hb2⟩
    go_wp2
    go_ret2
    exact ⟨rfl, hb1.trans hb2⟩

theorem join_op (va vb : Value) (a b : List (Int × Int)) (w : World) (hT : Tab w) (ha : Rs w va a) (hb : Rs w vb b) : Calls Tryd.prog 32 #[va, vb] w fun e w' => OpQ (fun u => hasU a u ∨ hasU b u) (validB a && validB b) w e w' := by
  cases hv : (validB a && validB b) with
  | false =>
    refine (join_no va vb a b w hT ha hb hv).mono ?_
    rintro e w' ⟨rfl, hb⟩
    exact OpQ.bad hb
  | true =>
    rw [Bool.and_eq_true] at hv
    refine (join_any va vb a b w hT ha hb hv.1 hv.2).mono ?_
    rintro e w' ⟨r, hr, hans, hb⟩
    exact OpQ.of hr hans hb

theorem meet_op (va vb : Value) (a b : List (Int × Int)) (w : World) (hT : Tab w) (ha : Rs w va a) (hb : Rs w vb b) : Calls Tryd.prog 34 #[va, vb] w fun e w' => OpQ (fun u => hasU a u ∧ hasU b u) (validB a && validB b) w e w' := by
  cases hv : (validB a && validB b) with
  | false =>
    refine (meet_no va vb a b w hT ha hb hv).mono ?_
    rintro e w' ⟨rfl, hb⟩
    exact OpQ.bad hb
  | true =>
    rw [Bool.and_eq_true] at hv
    refine (meet_any va vb a b w hT ha hb hv.1 hv.2).mono ?_
    rintro e w' ⟨r, hr, hans, hb⟩
    exact OpQ.of hr hans hb

theorem less_op (va vb : Value) (a b : List (Int × Int)) (w : World) (hT : Tab w) (ha : Rs w va a) (hb : Rs w vb b) : Calls Tryd.prog 36 #[va, vb] w fun e w' => OpQ (fun u => hasU a u ∧ ¬ hasU b u) (validB a && validB b) w e w' := by
  cases hv : (validB a && validB b) with
  | false =>
    refine (less_no va vb a b w hT ha hb hv).mono ?_
    rintro e w' ⟨rfl, hb⟩
    exact OpQ.bad hb
  | true =>
    rw [Bool.and_eq_true] at hv
    refine (less_any va vb a b w hT ha hb hv.1 hv.2).mono ?_
    rintro e w' ⟨r, hr, hans, hb⟩
    exact OpQ.of hr hans hb

set_option maxHeartbeats 2000000 in
theorem other_op (va : Value) (a : List (Int × Int)) (w : World) (hT : Tab w) (ha : Rs w va a) : Calls Tryd.prog 38 #[va] w fun e w' => OpQ (fun u => hasU runesL u ∧ ¬ hasU a u) (validB a) w e w' := by
  have H1 : Hid (Rs w va a) := ha
  clear ha
  go_enter Tryd.func38, Tryd.ntmps38
  go_wp2_with fail
  refine (runes_any w hT).mono ?_
  rintro e w1 ⟨v1, rfl, hr1, hb1⟩
  have HR1 : Hid (Rs w1 v1 runesL) := hr1
  clear hr1
  go_wp2_with fail
  refine (less_op v1 va runesL a w1 (hT.below hb1 hT.pos) HR1.out (H1.out.below hb1 (Nat.le_refl _))).mono ?_
  rintro e w2 ⟨v2, l, n, rfl, hO, hS, hb2⟩
  have HE : Hid (OwnR w2 w.heap.size v2 l ∧ Sp (fun u => hasU runesL u ∧ ¬ hasU a u) (validB a) l n ∧ Below w.heap.size w w2) := by
    rw [runes_valid, Bool.true_and] at hS
    exact ⟨hO.le hb1.size, hS, hb1.trans (hb2.mono hb1.size)⟩
  clear hO hS hb2
  go_wp2
  go_ret2
  exact ⟨v2, l, n, rfl, HE.out.1, HE.out.2.1, HE.out.2.2⟩
set_option maxHeartbeats 2000000 in
theorem rless_yes (va vb : Value) (a b : List (Int × Int)) (w : World) (ha : Rs w va a) (hb : Rs w vb b) (hva : validB a = true) (hvb : validB b = true) :
    Calls Tryd.prog 37 #[va, vb] w fun e w' => OpQ (fun u => hasU a u ∧ ¬ hasU b u) true w e w' := by
  have hGa := (validB_iff a).1 hva
  have hGb := (validB_iff b).1 hvb
  have HA : Hid (Calls Tryd.prog 20 #[va] w fun e w' => e = .returned (.bool true) ∧ Grown w w') := by have := rvalid_any va a w ha; rw [hva] at this; exact this
  have HB : Hid (∀ W, Grown w W → Calls Tryd.prog 20 #[vb] W fun e w' => e = .returned (.bool true) ∧ Grown W w') := fun W hW => by have := rvalid_any vb b W (hb.below hW.below (Nat.le_refl _)); rw [hvb] at this; exact this
  have HW : Hid (∀ W, Grown w W → Calls Tryd.prog 56 #[va, vb] W fun e w' => ∃ v r, e = .returned v ∧ (Good r ∧ ∀ u, hasU r u ↔ hasU a u ∧ ¬ hasU b u) ∧ OwnR w' W.heap.size v r ∧ Below W.heap.size W w') := fun W hW => rwithout_any va vb a b W (ha.below hW.below (Nat.le_refl _)) (hb.below hW.below (Nat.le_refl _)) hGa.2 hGb.2 hGa.1
  clear hGa hGb hva hvb ha hb
  go_enter Tryd.func37, Tryd.ntmps37
  go_wp2_with fail
  refine HA.out.mono ?_
  rintro e w1 ⟨rfl, hb1⟩
  go_wp2_with fail
  refine (HB.out w1 hb1).mono ?_
  rintro e w2 ⟨rfl, hb2⟩
  have hG2 := hb1.trans hb2
  clear hb1 hb2
  go_wp2_with fail
  refine (HW.out w2 hG2).mono ?_
  rintro e w3 ⟨v3, r, rfl, hr, hO3, hb3⟩
  have hB3 : Below w.heap.size w w3 := hG2.below.trans (hb3.mono hG2.size)
  have HR : Hid (Good r ∧ ∀ u, hasU r u ↔ hasU a u ∧ ¬ hasU b u) := hr
  have HO : Hid (OwnR w3 w.heap.size v3 r) := hO3.le hG2.size
  clear hr hO3 hb3
  go_wp2_with fail
  refine (rfew_ans v3 r _ w3 HO.out).mono ?_
  rintro e w4 ⟨hans, rfl⟩
  have HE := Hid.mk2 (OpQ.of HR.out hans hB3)
  obtain ⟨v4, n4, rfl⟩ := hans.pair
  clear hans
  go_wp2
  go_ret2
  exact HE.out
set_option maxHeartbeats 2000000 in
theorem rmeet_yes (va vb : Value) (a b : List (Int × Int)) (w : World) (ha : Rs w va a) (hb : Rs w vb b) (hva : validB a = true) (hvb : validB b = true) :
    Calls Tryd.prog 35 #[va, vb] w fun e w' => OpQ (fun u => hasU a u ∧ hasU b u) true w e w' := by
  have hGa := (validB_iff a).1 hva
  have hGb := (validB_iff b).1 hvb
  have HA : Hid (Calls Tryd.prog 20 #[va] w fun e w' => e = .returned (.bool true) ∧ Grown w w') := by have := rvalid_any va a w ha; rw [hva] at this; exact this
  have HB : Hid (∀ W, Grown w W → Calls Tryd.prog 20 #[vb] W fun e w' => e = .returned (.bool true) ∧ Grown W w') := fun W hW => by have := rvalid_any vb b W (hb.below hW.below (Nat.le_refl _)); rw [hvb] at this; exact this
  have HW : Hid (∀ W, Grown w W → Calls Tryd.prog 56 #[va, vb] W fun e w' => ∃ v r, e = .returned v ∧ (Good r ∧ ∀ u, hasU r u ↔ hasU a u ∧ ¬ hasU b u) ∧ OwnR w' W.heap.size v r ∧ Below W.heap.size W w') := fun W hW => rwithout_any va vb a b W (ha.below hW.below (Nat.le_refl _)) (hb.below hW.below (Nat.le_refl _)) hGa.2 hGb.2 hGa.1
  have HW2 : Hid (∀ W v3 r, Below w.heap.size w W → Good r → Rs W v3 r → Calls Tryd.prog 56 #[va, v3] W fun e w' => ∃ v s, e = .returned v ∧ (Good s ∧ ∀ u, hasU s u ↔ hasU a u ∧ ¬ hasU r u) ∧ OwnR w' W.heap.size v s ∧ Below W.heap.size W w') := fun W v3 r hW hg hr => rwithout_any va v3 a r W (ha.below hW (Nat.le_refl _)) hr hGa.2 hg hGa.1
  clear hGa hGb hva hvb ha hb
  go_enter Tryd.func35, Tryd.ntmps35
  go_wp2_with fail
  refine HA.out.mono ?_
  rintro e w1 ⟨rfl, hb1⟩
  go_wp2_with fail
  refine (HB.out w1 hb1).mono ?_
  rintro e w2 ⟨rfl, hb2⟩
  have hG2 := hb1.trans hb2
  clear hb1 hb2
  go_wp2_with fail
  refine (HW.out w2 hG2).mono ?_
  rintro e w3 ⟨v3, r, rfl, hr, hO3, hb3⟩
  have hB3 : Below w.heap.size w w3 := hG2.below.trans (hb3.mono hG2.size)
  have HR : Hid (Good r ∧ ∀ u, hasU r u ↔ hasU a u ∧ ¬ hasU b u) := hr
  have HO : Hid (Rs w3 v3 r) := hO3.rs
  clear hr hO3 hb3
  go_wp2_with fail
  refine (HW2.out w3 v3 r hB3 HR.out.1 HO.out).mono ?_
  rintro e w5 ⟨v5, s, rfl, hs, hO5, hb5⟩
  have hB5 : Below w.heap.size w w5 := hB3.trans (hb5.mono hB3.size)
  have HS : Hid (Good s ∧ ∀ u, hasU s u ↔ hasU a u ∧ hasU b u) := ⟨hs.1, fun u => by
    rw [hs.2 u, HR.out.2 u]
    constructor
    · rintro ⟨k1, k2⟩
      refine ⟨k1, ?_⟩
      by_cases hb : hasU b u
      · exact hb
      · exact absurd ⟨k1, hb⟩ k2
    · rintro ⟨k1, k2⟩
      exact ⟨k1, fun k => k.2 k2⟩⟩
  have HO5 : Hid (OwnR w5 w.heap.size v5 s) := hO5.le hB3.size
  clear hs hO5 hb5
  go_wp2_with fail
  refine (rfew_ans v5 s _ w5 HO5.out).mono ?_
  rintro e w4 ⟨hans, rfl⟩
  have HE := Hid.mk2 (OpQ.of HS.out hans hB5)
  obtain ⟨v4, n4, rfl⟩ := hans.pair
  clear hans
  go_wp2
  go_ret2
  exact HE.out
set_option maxHeartbeats 2000000 in
theorem rother_op (va : Value) (a : List (Int × Int)) (w : World) (ha : Rs w va a) : Calls Tryd.prog 39 #[va] w fun e w' => OpQ (fun u => hasU runesL u ∧ ¬ hasU a u) (validB a) w e w' := by
  have HA : Hid (Calls Tryd.prog 20 #[va] w fun e w' => e = .returned (.bool (validB a)) ∧ Grown w w') := rvalid_any va a w ha
  cases hv : validB a with
  | false =>
    rw [hv] at HA
    clear hv ha
    go_enter Tryd.func39, Tryd.ntmps39
    go_wp2_with fail
    refine HA.out.mono ?_
    rintro e w1 ⟨rfl, hb1⟩
    go_wp2
    go_ret2
    exact OpQ.bad hb1
  | true =>
    rw [hv] at HA
    have hGa := (validB_iff a).1 hv
    have hGr := (validB_iff runesL).1 runes_valid
    have HW : Hid (∀ W v1, Below w.heap.size w W → Rs W v1 runesL → Calls Tryd.prog 56 #[v1, va] W fun e w' => ∃ v r, e = .returned v ∧ (Good r ∧ ∀ u, hasU r u ↔ hasU runesL u ∧ ¬ hasU a u) ∧ OwnR w' W.heap.size v r ∧ Below W.heap.size W w') := fun W v1 hW h1 => rwithout_any v1 va runesL a W h1 (ha.below hW (Nat.le_refl _)) hGr.2 hGa.2 hGr.1
    clear hGa hGr ha hv
    go_enter Tryd.func39, Tryd.ntmps39
    go_wp2_with fail
    refine HA.out.mono ?_
    rintro e w1 ⟨rfl, hb1⟩
    go_wp2_with fail
    refine (rrunes_any w1).mono ?_
    rintro e w2 ⟨v2, rfl, hr2, hb2⟩
    have hB2 : Below w.heap.size w w2 := hb1.below.trans (hb2.mono hb1.size)
    have HR2 : Hid (Rs w2 v2 runesL) := hr2
    clear hr2 hb2
    go_wp2_with fail
    refine (HW.out w2 v2 hB2 HR2.out).mono ?_
    rintro e w3 ⟨v3, r, rfl, hr, hO3, hb3⟩
    have hB3 : Below w.heap.size w w3 := hB2.trans (hb3.mono hB2.size)
    have HR : Hid (Good r ∧ ∀ u, hasU r u ↔ hasU runesL u ∧ ¬ hasU a u) := hr
    have HO : Hid (OwnR w3 w.heap.size v3 r) := hO3.le hB2.size
    clear hr hO3 hb3
    go_wp2_with fail
    refine (rfew_ans v3 r _ w3 HO.out).mono ?_
    rintro e w4 ⟨hans, rfl⟩
    have HE := Hid.mk2 (OpQ.of HR.out hans hB3)
    obtain ⟨v4, n4, rfl⟩ := hans.pair
    clear hans
    go_wp2
    go_ret2
    exact HE.out
set_option maxHeartbeats 2000000 in
theorem rjoin_yes (va vb : Value) (a b : List (Int × Int)) (w : World) (ha : Rs w va a) (hb : Rs w vb b) (hva : validB a = true) (hvb : validB b = true) :
    Calls Tryd.prog 33 #[va, vb] w fun e w' => OpQ (fun u => hasU a u ∨ hasU b u) true w e w' := by
  have hGa := (validB_iff a).1 hva
  have hGb := (validB_iff b).1 hvb
  have HA : Hid (Calls Tryd.prog 20 #[va] w fun e w' => e = .returned (.bool true) ∧ Grown w w') := by have := rvalid_any va a w ha; rw [hva] at this; exact this
  have HB : Hid (∀ W, Grown w W → Calls Tryd.prog 20 #[vb] W fun e w' => e = .returned (.bool true) ∧ Grown W w') := fun W hW => by have := rvalid_any vb b W (hb.below hW.below (Nat.le_refl _)); rw [hvb] at this; exact this
  have HG : Hid ((a.length ≤ 512 ∧ Good a) ∧ (b.length ≤ 512 ∧ Good b)) := ⟨hGa, hGb⟩
  have HRa : Hid (∀ W, Below w.heap.size w W → Rs W va a) := fun W hW => ha.below hW (Nat.le_refl _)
  have HRb : Hid (∀ W, Below w.heap.size w W → Rs W vb b) := fun W hW => hb.below hW (Nat.le_refl _)
  obtain ⟨A, c1, rfl, _, _⟩ := ha
  obtain ⟨B, c2, rfl, _, _⟩ := hb
  obtain ⟨n1, hn1⟩ : ∃ n, a.length = n := ⟨_, rfl⟩
  obtain ⟨n2, hn2⟩ : ∃ n, b.length = n := ⟨_, rfl⟩
  rw [hn1] at HA HRa ⊢
  rw [hn2] at HB HRb ⊢
  have hs1 : ([] : List (Int × Int)).length + a.length ≤ 8796093022208 := by have := hGa.1; simp; omega
  have hs2 : ([] ++ a : List (Int × Int)).length + b.length ≤ 8796093022208 := by have := hGa.1; have := hGb.1; simp; omega
  clear hGa hGb hva hvb hn1 hn2
  go_enter Tryd.func33, Tryd.ntmps33
  go_wp2_with fail
  refine HA.out.mono ?_
  rintro e w1 ⟨rfl, hb1⟩
  go_wp2_with fail
  refine (HB.out w1 hb1).mono ?_
  rintro e w2 ⟨rfl, hb2⟩
  have hG2 := hb1.trans hb2
  have hB3 : Below w.heap.size w (w2.alloc (.cells #[] 38)) := hG2.below.alloc hG2.size _
  have hO3 : OwnR (w2.alloc (.cells #[] 38)) w2.heap.size (.slice (some ⟨w2.heap.size, 0, none⟩) 0 0) [] := World.ownsRow_lit (e := 38) (size := 2) w2 #[] 0 (Nat.le_refl _) (by unfold maxLen; omega) rfl
  have hz3 : w2.heap.size ≤ (w2.alloc (.cells #[] 38)).heap.size := by rw [World.size_alloc]; omega
  have HG2 : Hid (Below w.heap.size w w2) := hG2.below
  clear hb1 hb2 hG2
  go_wp2_with (at_builtin; first | (refine push_Rs rfl _ _ rfl w2.heap.size v4 (.slice B n2 c2) ([] ++ a) b rfl hO4 rfl (HRb.out _ hB4) hs2 hz4 ?_; intro v5 w5 hO5 hb5; have hB5 : Below w.heap.size w w5 := hB4.trans (hb5.mono HG2.out.size)) | (refine push_Rs rfl _ _ rfl w2.heap.size (.slice (some ⟨w2.heap.size, 0, none⟩) 0 0) (.slice A n1 c1) [] a rfl hO3 rfl (HRa.out _ hB3) hs1 hz3 ?_; intro v4 w4 hO4 hb4; have hB4 : Below w.heap.size w w4 := hB3.trans (hb4.mono HG2.out.size); have hz4 := Nat.le_trans hz3 hb4.size; clear hO3 hB3 hz3))
  rw [List.nil_append] at hO5
  refine (rof_any v5 (a ++ b) w5 hO5.rs (by rw [List.length_append]; have := HG.out; omega)).mono ?_
  rintro e w6 ⟨r, hr, hans, hb6⟩
  have HR : Hid (Good r ∧ ∀ u, hasU r u ↔ hasU a u ∨ hasU b u) := ⟨hr.1, fun u => by
    rw [hr.2 u, hasU_append]
    exact ⟨fun k => k.2, fun k => ⟨by rcases k with k | k; exact good_units HG.out.1.2 k; exact good_units HG.out.2.2 k, k⟩⟩⟩
  have HE := Hid.mk2 (OpQ.of HR.out (hans.le hB5.size) (hB5.trans (hb6.mono hB5.size)))
  obtain ⟨v7, n7, rfl⟩ := hans.pair
  clear hans hr hb6
  go_wp2
  go_ret2
  exact HE.out

theorem rjoin_op (va vb : Value) (a b : List (Int × Int)) (w : World) (ha : Rs w va a) (hb : Rs w vb b) : Calls Tryd.prog 33 #[va, vb] w fun e w' => OpQ (fun u => hasU a u ∨ hasU b u) (validB a && validB b) w e w' := by
  cases hv : (validB a && validB b) with
  | false =>
    refine (rjoin_no va vb a b w ha hb hv).mono ?_
    rintro e w' ⟨rfl, hb⟩
    exact OpQ.bad hb
  | true =>
    rw [Bool.and_eq_true] at hv
    exact rjoin_yes va vb a b w ha hb hv.1 hv.2

theorem rmeet_op (va vb : Value) (a b : List (Int × Int)) (w : World) (ha : Rs w va a) (hb : Rs w vb b) : Calls Tryd.prog 35 #[va, vb] w fun e w' => OpQ (fun u => hasU a u ∧ hasU b u) (validB a && validB b) w e w' := by
  cases hv : (validB a && validB b) with
  | false =>
    refine (rmeet_no va vb a b w ha hb hv).mono ?_
    rintro e w' ⟨rfl, hb⟩
    exact OpQ.bad hb
  | true =>
    rw [Bool.and_eq_true] at hv
    exact rmeet_yes va vb a b w ha hb hv.1 hv.2

theorem rless_op (va vb : Value) (a b : List (Int × Int)) (w : World) (ha : Rs w va a) (hb : Rs w vb b) : Calls Tryd.prog 37 #[va, vb] w fun e w' => OpQ (fun u => hasU a u ∧ ¬ hasU b u) (validB a && validB b) w e w' := by
  cases hv : (validB a && validB b) with
  | false =>
    refine (rless_no va vb a b w ha hb hv).mono ?_
    rintro e w' ⟨rfl, hb⟩
    exact OpQ.bad hb
  | true =>
    rw [Bool.and_eq_true] at hv
    exact rless_yes va vb a b w ha hb hv.1 hv.2
end Go.Proofs
