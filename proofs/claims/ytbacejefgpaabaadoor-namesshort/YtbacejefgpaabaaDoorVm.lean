/-
  Join, Meet, Less and Other of sets.
-/
import Derived.RangeFuncNested
import Derived.RangeFuncBound
import Derived.RangeFuncCalls
import Derived.RangeFuncLeaves
import Derived.Shelf.Abstract
import Derived.Shelf.RegionOpen
import Derived.WalkKit
import Derived.WalkSpells
import Derived.WalkLawsBesides
import Derived.OwnWalkIn
import Derived.TacticsInMore
import Derived.LoopNIn
import Derived.LoopIn
import Derived.BigQuiet
import Derived.RegionIn
import Derived.Deep.QuietTactic
import Derived.Deep.RegionWith
import Derived.Lib.OthersKept
import Derived.Maps.AppendAt
import Derived.Lib.SmallJoins
import Derived.ArgAppend
import Derived.Test.YtbacejefgpaabaaDoorNa
import Derived.Test.YtbacejefgpaabaaDoorVk
import Derived.Test.YtbacejefgpaabaaDoorVl
namespace Go.Proofs
open Go.RowKit Go.Shelf

set_option maxRecDepth 100000
attribute [local go_sem] Oper.semAt_some
theorem good_units {r : List (Int × Int)} (h : Good r) {u : Int} (hu : hasU r u) : isU u := by
  obtain ⟨x, hx, h1, h2⟩ := hu
  have := (h.1 x hx).2
  unfold isU; omega
theorem canon_good {l r : List (Int × Int)} (h : Canon l r) (hl : Good l) : r = l :=
  good_unique r l h.1 hl (fun u => by rw [h.2 u]; exact ⟨fun k => k.2, fun k => ⟨good_units hl k, k⟩⟩)
def Ans (B : Nat) (r : List (Int × Int)) (e : Ending) (w' : World) : Prop := (r.length ≤ 512 ∧ ∃ v, e = .returned (.tuple #[v, .int .i64 0]) ∧ OwnR w' B v r) ∨ (512 < r.length ∧ e = .returned (.tuple #[.slice none 0 0, .int .i64 21]))
theorem few_ans (v : Value) (r : List (Int × Int)) (B : Nat) (w : World) (h : OwnR w B v r) : Calls Tryd.prog 72 #[v] w fun e w' => Ans B r e w' ∧ w' = w := by
  obtain ⟨a, c, rfl, _, _⟩ := OwnR.rs h
  refine (few_any a r.length c w).mono ?_
  rintro e w' ⟨rfl, rfl⟩
  refine ⟨?_, rfl⟩
  by_cases hl : r.length ≤ 512
  · rw [if_pos hl]; exact .inl ⟨hl, _, rfl, h⟩
  · rw [if_neg hl]; exact .inr ⟨by omega, rfl⟩
theorem Ans.pair {B : Nat} {r : List (Int × Int)} {e : Ending} {w' : World} (h : Ans B r e w') : ∃ v n, e = .returned (.tuple #[v, .int .i64 n]) := by
  rcases h with ⟨_, v, rfl, _⟩ | ⟨_, rfl⟩
  · exact ⟨_, _, rfl⟩
  · exact ⟨_, _, rfl⟩
theorem Ans.le {B B' : Nat} {r : List (Int × Int)} {e : Ending} {w' : World} (h : Ans B r e w') (hb : B' ≤ B) : Ans B' r e w' := by
  rcases h with ⟨h1, v, h2, h3⟩ | h
  · exact .inl ⟨h1, v, h2, h3.le hb⟩
  · exact .inr h
set_option maxHeartbeats 2000000 in
theorem less_any (va vb : Value) (a b : List (Int × Int)) (w : World) (hT : Tab w) (ha : Rs w va a) (hb : Rs w vb b) (hva : validB a = true) (hvb : validB b = true) :
    Calls Tryd.prog 74 #[va, vb] w fun e w' => ∃ r, (Good r ∧ ∀ u, hasU r u ↔ hasU a u ∧ ¬ hasU b u) ∧ Ans w.heap.size r e w' ∧ Below w.heap.size w w' := by
  have hGa := (validB_iff a).1 hva
  have hGb := (validB_iff b).1 hvb
  have HA : Hid (Calls Tryd.prog 49 #[va] w fun e w' => e = .returned (.bool true) ∧ Grown w w') := by have := valid_any va a w hT ha; rw [hva] at this; exact this
  have HB : Hid (∀ W, Grown w W → Calls Tryd.prog 49 #[vb] W fun e w' => e = .returned (.bool true) ∧ Grown W w') := fun W hW => by have := valid_any vb b W (hT.grown hW) (hb.below hW.below (Nat.le_refl _)); rw [hvb] at this; exact this
  have HG : Hid ((a.length ≤ 512 ∧ Good a) ∧ (b.length ≤ 512 ∧ Good b)) := ⟨hGa, hGb⟩
  have H1 : Hid (Rs w va a) := ha
  have H2 : Hid (Rs w vb b) := hb
  clear hGa hGb hva hvb ha hb
  go_enter Tryd.func74, Tryd.ntmps74
  go_wp2_with fail
  refine HA.out.mono ?_
  rintro e w1 ⟨rfl, hb1⟩
  go_wp2_with fail
  refine (HB.out w1 hb1).mono ?_
  rintro e w2 ⟨rfl, hb2⟩
  have hG2 := hb1.trans hb2
  clear hb1 hb2
  go_wp2_with fail
  refine (gaps_any vb b w2 (H2.out.below hG2.below (Nat.le_refl _)) HG.out.2.2 HG.out.2.1).mono ?_
  rintro e w3 ⟨v3, gp, rfl, hgp, hO3, hb3⟩
  have hB3 : Below w.heap.size w w3 := hG2.below.trans (hb3.mono hG2.size)
  have HP : Hid (gp.Pairwise (fun x y => x.2 + 2 ≤ y.1) ∧ (∀ u, 0 ≤ u → u ≤ 1114367 → (hasU gp u ↔ ¬ hasU b u)) ∧ gp.length ≤ 513) := hgp
  have HV : Hid (Rs w3 v3 gp) := hO3.rs
  clear hgp hO3 hb3
  go_wp2_with fail
  refine (common_any va v3 a gp w3 (H1.out.below hB3 (Nat.le_refl _)) HV.out HG.out.1.2 HP.out.1 (by have := HG.out.1.1; omega) (by have := HP.out.2.2; omega)).mono ?_
  rintro e w4 ⟨v4, r, rfl, hr, hO4, hb4⟩
  have hB4 : Below w.heap.size w w4 := hB3.trans (hb4.mono hB3.size)
  have HR : Hid (Good r ∧ ∀ u, hasU r u ↔ hasU a u ∧ ¬ hasU b u) := ⟨hr.1, fun u => by
    rw [hr.2 u]
    constructor
    · rintro ⟨k1, k2⟩
      have hu := good_units HG.out.1.2 k1
      unfold isU at hu
      exact ⟨k1, (HP.out.2.1 u (by omega) (by omega)).1 k2⟩
    · rintro ⟨k1, k2⟩
      have hu := good_units HG.out.1.2 k1
      unfold isU at hu
      exact ⟨k1, (HP.out.2.1 u (by omega) (by omega)).2 k2⟩⟩
  have HO : Hid (OwnR w4 w.heap.size v4 r) := hO4.le hB3.size
  clear hr hO4 hb4
  go_wp2_with fail
  refine (few_ans v4 r _ w4 HO.out).mono ?_
  rintro e w5 ⟨hans, rfl⟩
  obtain ⟨v5, n5, rfl⟩ := hans.pair
  have HE : Hid (Ans w.heap.size r (.returned (.tuple #[v5, .int .i64 n5])) w5) := hans
  clear hans
  go_wp2
  go_ret2
  exact ⟨r, HR.out, HE.out, hB4⟩
theorem runes_valid : validB runesL = true := by decide +kernel
set_option maxHeartbeats 2000000 in
theorem other_any (va : Value) (a : List (Int × Int)) (w : World) (hT : Tab w) (ha : Rs w va a) (hva : validB a = true) :
    Calls Tryd.prog 54 #[va] w fun e w' => ∃ r, (Good r ∧ ∀ u, hasU r u ↔ hasU runesL u ∧ ¬ hasU a u) ∧ Ans w.heap.size r e w' ∧ Below w.heap.size w w' := by
  have H1 : Hid (Rs w va a) := ha
  have HV : Hid (validB a = true) := hva
  clear ha hva
  go_enter Tryd.func54, Tryd.ntmps54
  go_wp2_with fail
  refine (runes_any w hT).mono ?_
  rintro e w1 ⟨v1, rfl, hr1, hb1⟩
  have HR1 : Hid (Rs w1 v1 runesL) := hr1
  clear hr1
  go_wp2_with fail
  refine (less_any v1 va runesL a w1 (hT.below hb1 hT.pos) HR1.out (H1.out.below hb1 (Nat.le_refl _)) runes_valid HV.out).mono ?_
  rintro e w2 ⟨r, hr, hans, hb2⟩
  obtain ⟨v5, n5, rfl⟩ := hans.pair
  have HR : Hid (Good r ∧ ∀ u, hasU r u ↔ hasU runesL u ∧ ¬ hasU a u) := hr
  have HE : Hid (Ans w.heap.size r (.returned (.tuple #[v5, .int .i64 n5])) w2) := hans.le hb1.size
  clear hans hr
  go_wp2
  go_ret2
  exact ⟨r, HR.out, HE.out, hb1.trans (hb2.mono hb1.size)⟩
end Go.Proofs
