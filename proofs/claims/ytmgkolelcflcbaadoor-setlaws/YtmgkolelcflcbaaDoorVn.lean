/-
  SetLaws, walked.
-/
import Derived.RangeFuncNested
import Derived.RangeFuncBound
import Derived.RangeFuncCalls
import Derived.RangeFuncLeaves
import Derived.Shelf.Abstract
import Derived.Shelf.RegionOpen
import Derived.WalkKit
import Derived.WalkSpells
import Derived.WalkLawsBesides
import Derived.OwnWalkIn
import Derived.TacticsInMore
import Derived.LoopNIn
import Derived.LoopIn
import Derived.BigQuiet
import Derived.RegionIn
import Derived.Deep.QuietTactic
import Derived.Deep.RegionWith
import Derived.Lib.OthersKept
import Derived.Maps.AppendAt
import Derived.Lib.SmallJoins
import Derived.Deep.DeepCutAuto
import Derived.Test.YtmgkolelcflcbaaDoorVm
namespace Go.Proofs
open Go.RowKit Go.Shelf

set_option maxRecDepth 100000
attribute [local go_sem] Oper.semAt_some
/-- an answer, looked at: its row, and the error's number -/
def View (r : List (Int × Int)) (n : Int) (rv : List (Int × Int)) : Prop := (n = 0 ∧ rv = r ∧ r.length ≤ 512) ∨ (n = 21 ∧ rv = [])
theorem Ans.view {B : Nat} {r : List (Int × Int)} {e : Ending} {w' : World} (h : Ans B r e w') : ∃ v n rv, e = .returned (.tuple #[v, .int .i64 n]) ∧ Rs w' v rv ∧ View r n rv := by
  rcases h with ⟨h1, v, rfl, h3⟩ | ⟨_, rfl⟩
  · exact ⟨v, 0, r, rfl, h3.rs, .inl ⟨rfl, rfl, h1⟩⟩
  · exact ⟨_, 21, [], rfl, ⟨none, 0, rfl, Nat.le_refl _, .inl rfl⟩, .inr ⟨rfl, rfl⟩⟩
theorem view_n {r lv : List (Int × Int)} {n : Int} (h : View r n lv) : n = 0 ∨ n = 21 := by
  rcases h with h | h
  · exact .inl h.1
  · exact .inr h.1
theorem view_l {r lv : List (Int × Int)} {n : Int} (h : View r n lv) (hn : n = 0) : lv = r ∧ r.length ≤ 512 := by
  rcases h with h | h
  · exact h.2
  · omega
theorem view_ok {r lv : List (Int × Int)} {n : Int} (h : View r n lv) (hn : n = 0) (hg : Good r) : validB lv = true := by
  obtain ⟨rfl, hl⟩ := view_l h hn
  exact (validB_iff _).2 ⟨hl, hg⟩
theorem view_has {r lv : List (Int × Int)} {n u : Int} {v : Value} {W0 : World} (h : View r n lv) (hg : Good r) (hR : ∀ W, Below W0.heap.size W0 W → Rs W v lv) (hT : ∀ W, Below W0.heap.size W0 W → Tab W) (x : Bool) (hx : decide (hasU r u) = x) (hn : n = 0) :
    ∀ W, Below W0.heap.size W0 W → Calls Tryd.prog 29 #[v, .int .i64 u] W fun e w' => e = .returned (.bool x) ∧ Below W0.heap.size W0 w' := fun W hW => by
  have hv := view_ok h hn hg
  obtain ⟨rfl, hl⟩ := view_l h hn
  have := has_any v lv u W (hT W hW) (hR W hW)
  rw [hv, Bool.true_and, hx] at this
  exact this.mono fun _ _ ⟨h1, h2⟩ => ⟨h1, hW.trans (h2.below.mono hW.size)⟩
theorem view_valid {r lv : List (Int × Int)} {n : Int} {v : Value} {W0 : World} (h : View r n lv) (hg : Good r) (hR : ∀ W, Below W0.heap.size W0 W → Rs W v lv) (hT : ∀ W, Below W0.heap.size W0 W → Tab W) (hn : n = 0) :
    ∀ W, Below W0.heap.size W0 W → Calls Tryd.prog 19 #[v] W fun e w' => e = .returned (.bool true) ∧ Below W0.heap.size W0 w' := fun W hW => by
  have := valid_any v lv W (hT W hW) (hR W hW)
  rw [view_ok h hn hg] at this
  exact this.mono fun _ _ ⟨h1, h2⟩ => ⟨h1, hW.trans (h2.below.mono hW.size)⟩
theorem view_len {l : List (Int × Int)} {v : Value} {W0 : World} (hR : ∀ W, Below W0.heap.size W0 W → Rs W v l) (hT : ∀ W, Below W0.heap.size W0 W → Tab W) :
    ∀ W, Below W0.heap.size W0 W → Calls Tryd.prog 31 #[v] W fun e w' => e = .returned (.int .i64 (lenU l)) ∧ Below W0.heap.size W0 w' := fun W hW =>
  (len_any v l W (hT W hW) (hR W hW)).mono fun _ _ ⟨h1, h2⟩ => ⟨h1, hW.trans (h2.below.mono hW.size)⟩
theorem len_bound (l : List (Int × Int)) : 0 ≤ lenU l ∧ lenU l ≤ 600000000 := by
  unfold lenU
  split
  · rename_i h
    have h' := (validB_iff l).1 h
    have := tot_bound h'.2.1
    omega
  · omega
theorem len_or {a b rj rm lj lm : List (Int × Int)} {nj nm : Int} (ha : validB a = true) (hb : validB b = true) (hj : View rj nj lj) (hm : View rm nm lm) (gj : Good rj ∧ ∀ u, hasU rj u ↔ hasU a u ∨ hasU b u) (gm : Good rm ∧ ∀ u, hasU rm u ↔ hasU a u ∧ hasU b u) (h1 : nj = 0) (h2 : nm = 0) : lenU lj + lenU lm = lenU a + lenU b := by
  have vj := view_ok hj h1 gj.1
  have vm := view_ok hm h2 gm.1
  obtain ⟨rfl, _⟩ := view_l hj h1
  obtain ⟨rfl, _⟩ := view_l hm h2
  unfold lenU
  rw [if_pos ha, if_pos hb, if_pos vj, if_pos vm]
  exact tot_or ((validB_iff a).1 ha).2 ((validB_iff b).1 hb).2 gj.1 gm.1 gj.2 gm.2
set_option maxHeartbeats 1000000 in
theorem laws_bad1 (va vb : Value) (a : List (Int × Int)) (u : Int) (w : World) (hT : Tab w) (ha : Rs w va a) (hva : validB a = false) : Calls Tryd.prog 6 #[va, vb, .int .i64 u] w fun e w' => e = .returned (.bool true) ∧ Below w.heap.size w w' := by
  have HA : Hid (∀ W, Below w.heap.size w W → Calls Tryd.prog 19 #[va] W fun e w' => e = .returned (.bool false) ∧ Grown W w') := fun W hW => by have := valid_any va a W (hT.below hW hT.pos) (ha.below hW (Nat.le_refl _)); rw [hva] at this; exact this
  clear ha hva
  go_enter Tryd.func6, Tryd.ntmps6
  go_wp2_with fail
  refine (shown_any w hT).mono ?_
  rintro e w0 ⟨rfl, hb0⟩
  go_wp2_with fail
  refine (HA.out w0 hb0).mono ?_
  rintro e w1 ⟨rfl, hb1⟩
  go_wp2
  go_ret
  exact ⟨rfl, hb0.trans (hb1.below.mono hb0.size)⟩
set_option maxHeartbeats 1000000 in
theorem laws_bad2 (va vb : Value) (a b : List (Int × Int)) (u : Int) (w : World) (hT : Tab w) (ha : Rs w va a) (hb : Rs w vb b) (hva : validB a = true) (hvb : validB b = false) : Calls Tryd.prog 6 #[va, vb, .int .i64 u] w fun e w' => e = .returned (.bool true) ∧ Below w.heap.size w w' := by
  have HA : Hid (∀ W, Below w.heap.size w W → Calls Tryd.prog 19 #[va] W fun e w' => e = .returned (.bool true) ∧ Grown W w') := fun W hW => by have := valid_any va a W (hT.below hW hT.pos) (ha.below hW (Nat.le_refl _)); rw [hva] at this; exact this
  have HB : Hid (∀ W, Below w.heap.size w W → Calls Tryd.prog 19 #[vb] W fun e w' => e = .returned (.bool false) ∧ Grown W w') := fun W hW => by have := valid_any vb b W (hT.below hW hT.pos) (hb.below hW (Nat.le_refl _)); rw [hvb] at this; exact this
  clear ha hva hb hvb
  go_enter Tryd.func6, Tryd.ntmps6
  go_wp2_with fail
  refine (shown_any w hT).mono ?_
  rintro e w0 ⟨rfl, hb0⟩
  go_wp2_with fail
  refine (HA.out w0 hb0).mono ?_
  rintro e w1 ⟨rfl, hb1⟩
  have hB1 := hb0.trans (hb1.below.mono hb0.size)
  clear hb1
  go_wp2_with fail
  refine (HB.out w1 hB1).mono ?_
  rintro e w2 ⟨rfl, hb2⟩
  go_wp2
  go_ret
  exact ⟨rfl, hB1.trans (hb2.below.mono hB1.size)⟩
set_option maxHeartbeats 8000000 in
theorem laws_good (va vb : Value) (a b : List (Int × Int)) (u : Int) (w : World) (hT : Tab w) (ha : Rs w va a) (hb : Rs w vb b) (hva : validB a = true) (hvb : validB b = true) : Calls Tryd.prog 6 #[va, vb, .int .i64 u] w fun e w' => e = .returned (.bool true) ∧ Below w.heap.size w w' := by
  have HT : Hid (∀ W, Below w.heap.size w W → Tab W) := fun W hW => hT.below hW hT.pos
  have HA : Hid (∀ W, Below w.heap.size w W → Rs W va a) := fun W hW => ha.below hW (Nat.le_refl _)
  have HB : Hid (∀ W, Below w.heap.size w W → Rs W vb b) := fun W hW => hb.below hW (Nat.le_refl _)
  have HVA : Hid (validB a = true) := hva
  have HVB : Hid (validB b = true) := hvb
  have HGA : Hid (Good a) := ((validB_iff a).1 hva).2
  have HGB : Hid (Good b) := ((validB_iff b).1 hvb).2
  have HS : Hid (Calls Tryd.prog 8 #[] w fun e w' => e = .returned (.bool true) ∧ Below w.heap.size w w') := shown_any w hT
  have HQA : Hid (∀ W, Below w.heap.size w W → Calls Tryd.prog 19 #[va] W fun e w' => e = .returned (.bool true) ∧ Grown W w') := fun W hW => by have := valid_any va a W (HT.out W hW) (HA.out W hW); rw [hva] at this; exact this
  have HQB : Hid (∀ W, Below w.heap.size w W → Calls Tryd.prog 19 #[vb] W fun e w' => e = .returned (.bool true) ∧ Grown W w') := fun W hW => by have := valid_any vb b W (HT.out W hW) (HB.out W hW); rw [hvb] at this; exact this
  obtain ⟨p, hp⟩ : ∃ p : Bool, decide (hasU a u) = p := ⟨_, rfl⟩
  obtain ⟨q, hq⟩ : ∃ q : Bool, decide (hasU b u) = q := ⟨_, rfl⟩
  have HP : Hid (decide (hasU a u) = p) := hp
  have HQ : Hid (decide (hasU b u) = q) := hq
  have HHA : Hid (∀ W, Below w.heap.size w W → Calls Tryd.prog 29 #[va, .int .i64 u] W fun e w' => e = .returned (.bool p) ∧ Grown W w') := fun W hW => by have := has_any va a u W (HT.out W hW) (HA.out W hW); rw [hva, hp, Bool.true_and] at this; exact this
  have HHB : Hid (∀ W, Below w.heap.size w W → Calls Tryd.prog 29 #[vb, .int .i64 u] W fun e w' => e = .returned (.bool q) ∧ Grown W w') := fun W hW => by have := has_any vb b u W (HT.out W hW) (HB.out W hW); rw [hvb, hq, Bool.true_and] at this; exact this
  clear hT ha hb hva hvb hp hq
  go_enter Tryd.func6, Tryd.ntmps6
  go_wp2_with fail
  refine HS.out.mono ?_
  rintro e w0 ⟨rfl, hB0⟩
  go_wp2_with fail
  refine (HQA.out w0 hB0).mono ?_
  rintro e w1 ⟨rfl, hb1⟩
  have hB1 := hB0.trans (hb1.below.mono hB0.size)
  clear hb1 hB0
  go_wp2_with fail
  refine (HQB.out w1 hB1).mono ?_
  rintro e w2 ⟨rfl, hb2⟩
  have hB2 := hB1.trans (hb2.below.mono hB1.size)
  clear hb2 hB1
  go_wp2_with fail
  refine (join_any va vb a b w2 (HT.out _ hB2) (HA.out _ hB2) (HB.out _ hB2) HVA.out HVB.out).mono ?_
  rintro e w3 ⟨rj, hrj, hans, hb3⟩
  obtain ⟨vj, nj, lj, rfl, hRj, hVj⟩ := hans.view
  have hB3 := hB2.trans (hb3.mono hB2.size)
  have HJ : Hid (Good rj ∧ ∀ u, hasU rj u ↔ hasU a u ∨ hasU b u) := hrj
  have HJV : Hid (View rj nj lj) := hVj
  have HJR : Hid (∀ W, Below w3.heap.size w3 W → Rs W vj lj) := fun W hW => hRj.below hW (Nat.le_refl _)
  clear hans hrj hRj hVj hb3 hB2
  go_wp2_with fail
  refine (meet_any va vb a b w3 (HT.out _ hB3) (HA.out _ hB3) (HB.out _ hB3) HVA.out HVB.out).mono ?_
  rintro e w4 ⟨rm, hrm, hans, hb4⟩
  obtain ⟨vm, nm, lm, rfl, hRm, hVm⟩ := hans.view
  have hB4 := hB3.trans (hb4.mono hB3.size)
  have hC4 := hb4
  have HM : Hid (Good rm ∧ ∀ u, hasU rm u ↔ hasU a u ∧ hasU b u) := hrm
  have HMV : Hid (View rm nm lm) := hVm
  have HMR : Hid (∀ W, Below w4.heap.size w4 W → Rs W vm lm) := fun W hW => hRm.below hW (Nat.le_refl _)
  clear hans hrm hRm hVm hb4 hB3
  go_wp2_with fail
  refine (less_any va vb a b w4 (HT.out _ hB4) (HA.out _ hB4) (HB.out _ hB4) HVA.out HVB.out).mono ?_
  rintro e w5 ⟨rl, hrl, hans, hb5⟩
  obtain ⟨vl, nl, ll, rfl, hRl, hVl⟩ := hans.view
  have hB5 := hB4.trans (hb5.mono hB4.size)
  have hC5 := hb5
  have HL : Hid (Good rl ∧ ∀ u, hasU rl u ↔ hasU a u ∧ ¬ hasU b u) := hrl
  have HLV : Hid (View rl nl ll) := hVl
  have HLR : Hid (∀ W, Below w5.heap.size w5 W → Rs W vl ll) := fun W hW => hRl.below hW (Nat.le_refl _)
  clear hans hrl hRl hVl hb5 hB4
  go_wp2_with fail
  refine (other_any va a w5 (HT.out _ hB5) (HA.out _ hB5) HVA.out).mono ?_
  rintro e w6 ⟨rc, hrc, hans, hb6⟩
  obtain ⟨vc, nc, lc, rfl, hRc, hVc⟩ := hans.view
  have hB6 := hB5.trans (hb6.mono hB5.size)
  have HC : Hid (Good rc ∧ ∀ u, hasU rc u ↔ hasU runesL u ∧ ¬ hasU a u) := hrc
  have HCV : Hid (View rc nc lc) := hVc
  have HCR : Hid (∀ W, Below w6.heap.size w6 W → Rs W vc lc) := fun W hW => hRc.below hW (Nat.le_refl _)
  have z3 := hC4.size
  have z4 := hC5.size
  have z5 := hb6.size
  have HJ6 : Hid (∀ W, Below w6.heap.size w6 W → Rs W vj lj) := fun W hW => HJR.out W ((hC4.trans (hC5.mono z3)).trans ((hb6.mono (by omega)).trans (hW.mono (by omega))))
  have HM6 : Hid (∀ W, Below w6.heap.size w6 W → Rs W vm lm) := fun W hW => HMR.out W (hC5.trans ((hb6.mono (by omega)).trans (hW.mono (by omega))))
  have HL6 : Hid (∀ W, Below w6.heap.size w6 W → Rs W vl ll) := fun W hW => HLR.out W (hb6.trans (hW.mono (by omega)))
  have HB6 : Hid (∀ W, Below w6.heap.size w6 W → Below w.heap.size w W) := fun W hW => hB6.trans (hW.mono hB6.size)
  clear hans hrc hRc hVc hb6 hB5 hC4 hC5 HJR HMR HLR z3 z4 z5
  go_wp2_with fail
  refine (HHA.out w6 hB6).mono ?_
  rintro e w7 ⟨rfl, hb7⟩
  have hD7 := hb7.below
  clear hb7
  go_wp2_with fail
  refine (HHB.out w7 (HB6.out _ hD7)).mono ?_
  rintro e w8 ⟨rfl, hb8⟩
  have hD8 : Below w6.heap.size w6 w8 := hD7.trans (hb8.below.mono hD7.size)
  clear hb8 hD7
  go_upto_region 12 with fail
  go_cut [134] (fun s134 wx => s134 = .bool false ∧ Below w6.heap.size w6 wx)
  case first =>
    as_aux_lemma =>
      have HT6 : ∀ W, Below w6.heap.size w6 W → Tab W := fun W hW => HT.out W (HB6.out W hW)
      have HJh : Hid (nj = 0 → ∀ W, Below w6.heap.size w6 W → Calls Tryd.prog 29 #[vj, .int .i64 u] W fun e w' => e = .returned (.bool (p || q)) ∧ Below w6.heap.size w6 w') := view_has HJV.out HJ.out.1 HJ6.out HT6 _ (by rw [← HP.out, ← HQ.out, ← Bool.decide_or]; simp only [HJ.out.2])
      have HJv : Hid (nj = 0 → ∀ W, Below w6.heap.size w6 W → Calls Tryd.prog 19 #[vj] W fun e w' => e = .returned (.bool true) ∧ Below w6.heap.size w6 w') := view_valid HJV.out HJ.out.1 HJ6.out HT6
      have HMh : Hid (nm = 0 → ∀ W, Below w6.heap.size w6 W → Calls Tryd.prog 29 #[vm, .int .i64 u] W fun e w' => e = .returned (.bool (p && q)) ∧ Below w6.heap.size w6 w') := view_has HMV.out HM.out.1 HM6.out HT6 _ (by rw [← HP.out, ← HQ.out, ← Bool.decide_and]; simp only [HM.out.2])
      have HMv : Hid (nm = 0 → ∀ W, Below w6.heap.size w6 W → Calls Tryd.prog 19 #[vm] W fun e w' => e = .returned (.bool true) ∧ Below w6.heap.size w6 w') := view_valid HMV.out HM.out.1 HM6.out HT6
      have HLh : Hid (nl = 0 → ∀ W, Below w6.heap.size w6 W → Calls Tryd.prog 29 #[vl, .int .i64 u] W fun e w' => e = .returned (.bool (p && !q)) ∧ Below w6.heap.size w6 w') := view_has HLV.out HL.out.1 HL6.out HT6 _ (by rw [← HP.out, ← HQ.out, ← decide_not, ← Bool.decide_and]; simp only [HL.out.2])
      have HLv : Hid (nl = 0 → ∀ W, Below w6.heap.size w6 W → Calls Tryd.prog 19 #[vl] W fun e w' => e = .returned (.bool true) ∧ Below w6.heap.size w6 w') := view_valid HLV.out HL.out.1 HL6.out HT6
      have ej := view_n HJV.out
      have em := view_n HMV.out
      have el := view_n HLV.out
      have hD := hD8
      clear HJV HMV HLV HCV HJ6 HM6 HL6 HCR HHA HHB HP HQ HJ HM HL HC HQA HQB HA HB HT6 HT HVA HVB HGA HGB HS hD8 hB6
      rcases ej with rfl | rfl <;> rcases em with rfl | rfl <;> rcases el with rfl | rfl
      · cases p <;> cases q
        all_goals
          as_aux_lemma =>
            go_wp2_with fail
            refine (HJh.out (by trivial) _ hD).mono ?_
            rintro e y1 ⟨rfl, hD1⟩
            go_wp2_with fail
            refine (HJv.out (by trivial) _ hD1).mono ?_
            rintro e y2 ⟨rfl, hD2⟩
            go_wp2_with fail
            refine (HMh.out (by trivial) _ hD2).mono ?_
            rintro e y3 ⟨rfl, hD3⟩
            go_wp2_with fail
            refine (HMv.out (by trivial) _ hD3).mono ?_
            rintro e y4 ⟨rfl, hD4⟩
            go_wp2_with fail
            refine (HLh.out (by trivial) _ hD4).mono ?_
            rintro e y5 ⟨rfl, hD5⟩
            go_wp2_with fail
            refine (HLv.out (by trivial) _ hD5).mono ?_
            rintro e y6 ⟨rfl, hD6⟩
            go_wp2
            go_meet
            exact ⟨rfl, hD6⟩
      · cases p <;> cases q
        all_goals
          as_aux_lemma =>
            go_wp2_with fail
            refine (HJh.out (by trivial) _ hD).mono ?_
            rintro e y1 ⟨rfl, hD1⟩
            go_wp2_with fail
            refine (HJv.out (by trivial) _ hD1).mono ?_
            rintro e y2 ⟨rfl, hD2⟩
            go_wp2_with fail
            refine (HMh.out (by trivial) _ hD2).mono ?_
            rintro e y3 ⟨rfl, hD3⟩
            go_wp2_with fail
            refine (HMv.out (by trivial) _ hD3).mono ?_
            rintro e y4 ⟨rfl, hD4⟩
            go_wp2
            go_meet
            exact ⟨rfl, hD4⟩
      · cases p <;> cases q
        all_goals
          as_aux_lemma =>
            go_wp2_with fail
            refine (HJh.out (by trivial) _ hD).mono ?_
            rintro e y1 ⟨rfl, hD1⟩
            go_wp2_with fail
            refine (HJv.out (by trivial) _ hD1).mono ?_
            rintro e y2 ⟨rfl, hD2⟩
            go_wp2_with fail
            refine (HLh.out (by trivial) _ hD2).mono ?_
            rintro e y3 ⟨rfl, hD3⟩
            go_wp2_with fail
            refine (HLv.out (by trivial) _ hD3).mono ?_
            rintro e y4 ⟨rfl, hD4⟩
            go_wp2
            go_meet
            exact ⟨rfl, hD4⟩
      · cases p
        · cases q
          all_goals
            as_aux_lemma =>
              go_wp2_with fail
              refine (HJh.out (by trivial) _ hD).mono ?_
              rintro e y1 ⟨rfl, hD1⟩
              go_wp2_with fail
              refine (HJv.out (by trivial) _ hD1).mono ?_
              rintro e y2 ⟨rfl, hD2⟩
              go_wp2
              go_meet
              exact ⟨rfl, hD2⟩
        · as_aux_lemma =>
            go_wp2_with fail
            refine (HJh.out (by trivial) _ hD).mono ?_
            rintro e y1 ⟨rfl, hD1⟩
            go_wp2_with fail
            refine (HJv.out (by trivial) _ hD1).mono ?_
            rintro e y2 ⟨rfl, hD2⟩
            go_wp2
            go_meet
            exact ⟨rfl, hD2⟩
      · cases p
        · as_aux_lemma =>
            go_wp2_with fail
            refine (HMh.out (by trivial) _ hD).mono ?_
            rintro e y1 ⟨rfl, hD1⟩
            go_wp2_with fail
            refine (HMv.out (by trivial) _ hD1).mono ?_
            rintro e y2 ⟨rfl, hD2⟩
            go_wp2_with fail
            refine (HLh.out (by trivial) _ hD2).mono ?_
            rintro e y3 ⟨rfl, hD3⟩
            go_wp2_with fail
            refine (HLv.out (by trivial) _ hD3).mono ?_
            rintro e y4 ⟨rfl, hD4⟩
            go_wp2
            go_meet
            exact ⟨rfl, hD4⟩
        · cases q
          all_goals
            as_aux_lemma =>
              go_wp2_with fail
              refine (HMh.out (by trivial) _ hD).mono ?_
              rintro e y1 ⟨rfl, hD1⟩
              go_wp2_with fail
              refine (HMv.out (by trivial) _ hD1).mono ?_
              rintro e y2 ⟨rfl, hD2⟩
              go_wp2_with fail
              refine (HLh.out (by trivial) _ hD2).mono ?_
              rintro e y3 ⟨rfl, hD3⟩
              go_wp2_with fail
              refine (HLv.out (by trivial) _ hD3).mono ?_
              rintro e y4 ⟨rfl, hD4⟩
              go_wp2
              go_meet
              exact ⟨rfl, hD4⟩
      · cases p
        · as_aux_lemma =>
            go_wp2_with fail
            refine (HMh.out (by trivial) _ hD).mono ?_
            rintro e y1 ⟨rfl, hD1⟩
            go_wp2_with fail
            refine (HMv.out (by trivial) _ hD1).mono ?_
            rintro e y2 ⟨rfl, hD2⟩
            go_wp2
            go_meet
            exact ⟨rfl, hD2⟩
        · cases q
          all_goals
            as_aux_lemma =>
              go_wp2_with fail
              refine (HMh.out (by trivial) _ hD).mono ?_
              rintro e y1 ⟨rfl, hD1⟩
              go_wp2_with fail
              refine (HMv.out (by trivial) _ hD1).mono ?_
              rintro e y2 ⟨rfl, hD2⟩
              go_wp2
              go_meet
              exact ⟨rfl, hD2⟩
      · cases p
        · as_aux_lemma =>
            go_wp2_with fail
            refine (HLh.out (by trivial) _ hD).mono ?_
            rintro e y1 ⟨rfl, hD1⟩
            go_wp2_with fail
            refine (HLv.out (by trivial) _ hD1).mono ?_
            rintro e y2 ⟨rfl, hD2⟩
            go_wp2
            go_meet
            exact ⟨rfl, hD2⟩
        · cases q
          all_goals
            as_aux_lemma =>
              go_wp2_with fail
              refine (HLh.out (by trivial) _ hD).mono ?_
              rintro e y1 ⟨rfl, hD1⟩
              go_wp2_with fail
              refine (HLv.out (by trivial) _ hD1).mono ?_
              rintro e y2 ⟨rfl, hD2⟩
              go_wp2
              go_meet
              exact ⟨rfl, hD2⟩
      · as_aux_lemma =>
          go_wp2
          go_meet
          exact ⟨rfl, hD⟩
  case rest =>
    as_aux_lemma =>
      obtain ⟨rfl, hD9⟩ := hcut
      have HT6 : Hid (∀ W, Below w6.heap.size w6 W → Tab W) := fun W hW => HT.out W (HB6.out W hW)
      obtain ⟨s, hs⟩ : ∃ s : Bool, decide (hasU runesL u) = s := ⟨_, rfl⟩
      have HSs : Hid (decide (hasU runesL u) = s) := hs
      have HHR : Hid (∀ v W, Rs W v runesL → Below w6.heap.size w6 W → Calls Tryd.prog 29 #[v, .int .i64 u] W fun e w' => e = .returned (.bool s) ∧ Below w6.heap.size w6 w') := fun v W hR hW => by
        have := has_any v runesL u W (HT6.out W hW) hR
        rw [runes_valid, Bool.true_and, hs] at this
        exact this.mono fun _ _ ⟨h1, h2⟩ => ⟨h1, hW.trans (h2.below.mono hW.size)⟩
      clear hs
      go_wp2_with fail
      refine (runes_any wc (HT6.out _ hD9)).mono ?_
      rintro e w9 ⟨v9, rfl, hR9, hb9⟩
      have hD10 := hD9.trans (hb9.mono hD9.size)
      have HR9 : Hid (Rs w9 v9 runesL) := hR9
      clear hR9 hb9 hD9
      go_wp2_with fail
      refine (HHR.out v9 w9 HR9.out hD10).mono ?_
      rintro e w10 ⟨rfl, hD11⟩
      clear HHR HR9 hD10
      go_upto_region 15 with fail
      go_cut [155] (fun s155 wx => s155 = .bool false ∧ Below w6.heap.size w6 wx)
      case first =>
        as_aux_lemma =>
          have HCh : Hid (nc = 0 → ∀ W, Below w6.heap.size w6 W → Calls Tryd.prog 29 #[vc, .int .i64 u] W fun e w' => e = .returned (.bool (s && !p)) ∧ Below w6.heap.size w6 w') := view_has HCV.out HC.out.1 HCR.out HT6.out _ (by rw [← HP.out, ← HSs.out, ← decide_not, ← Bool.decide_and]; simp only [HC.out.2])
          have HCv : Hid (nc = 0 → ∀ W, Below w6.heap.size w6 W → Calls Tryd.prog 19 #[vc] W fun e w' => e = .returned (.bool true) ∧ Below w6.heap.size w6 w') := view_valid HCV.out HC.out.1 HCR.out HT6.out
          have ec := view_n HCV.out
          have hD := hD11
          clear HJV HMV HLV HCV HJ6 HM6 HL6 HCR HHA HHB HP HQ HJ HM HL HC HQA HQB HA HB HT6 HT HVA HVB HGA HGB HS hB6 hD11 HSs
          rcases ec with rfl | rfl
          · cases p <;> cases s
            all_goals
              as_aux_lemma =>
                go_wp2_with fail
                refine (HCh.out (by trivial) _ hD).mono ?_
                rintro e y1 ⟨rfl, hD1⟩
                go_wp2_with fail
                refine (HCv.out (by trivial) _ hD1).mono ?_
                rintro e y2 ⟨rfl, hD2⟩
                go_wp2
                go_meet
                exact ⟨rfl, hD2⟩
          · cases p <;> cases s
            all_goals
              as_aux_lemma =>
                go_wp2
                go_meet
                exact ⟨rfl, hD⟩
      case rest =>
        as_aux_lemma =>
          obtain ⟨rfl, hD12⟩ := hcut
          go_upto_region 17 with fail
          go_cut [174] (fun s174 wx => s174 = .bool false ∧ Below w6.heap.size w6 wx)
          case first =>
            as_aux_lemma =>
              have HA6 : ∀ W, Below w6.heap.size w6 W → Rs W va a := fun W hW => HA.out W (HB6.out W hW)
              have HB7 : ∀ W, Below w6.heap.size w6 W → Rs W vb b := fun W hW => HB.out W (HB6.out W hW)
              have HS4 : nj = 0 → nm = 0 → lenU lj + lenU lm = lenU a + lenU b := len_or HVA.out HVB.out HJV.out HMV.out HJ.out HM.out
              have KJ := view_len HJ6.out HT6.out
              have KM := view_len HM6.out HT6.out
              have KA := view_len HA6 HT6.out
              have KB := view_len HB7 HT6.out
              have bj := len_bound lj
              have bm := len_bound lm
              have ba := len_bound a
              have bb := len_bound b
              generalize lenU lj = xj at HS4 KJ bj
              generalize lenU lm = xm at HS4 KM bm
              generalize lenU a = xa at HS4 KA ba
              generalize lenU b = xb at HS4 KB bb
              have HKJ : Hid (∀ W, Below w6.heap.size w6 W → Calls Tryd.prog 31 #[vj] W fun e w' => e = .returned (.int .i64 xj) ∧ Below w6.heap.size w6 w') := KJ
              have HKM : Hid (∀ W, Below w6.heap.size w6 W → Calls Tryd.prog 31 #[vm] W fun e w' => e = .returned (.int .i64 xm) ∧ Below w6.heap.size w6 w') := KM
              have HKA : Hid (∀ W, Below w6.heap.size w6 W → Calls Tryd.prog 31 #[va] W fun e w' => e = .returned (.int .i64 xa) ∧ Below w6.heap.size w6 w') := KA
              have HKB : Hid (∀ W, Below w6.heap.size w6 W → Calls Tryd.prog 31 #[vb] W fun e w' => e = .returned (.int .i64 xb) ∧ Below w6.heap.size w6 w') := KB
              obtain ⟨bj1, bj2⟩ := bj
              obtain ⟨bm1, bm2⟩ := bm
              obtain ⟨ba1, ba2⟩ := ba
              obtain ⟨bb1, bb2⟩ := bb
              have ej := view_n HJV.out
              have em := view_n HMV.out
              have hD := hD12
              clear HJV HMV HLV HCV HJ6 HM6 HL6 HCR HHA HHB HP HQ HJ HM HL HC HQA HQB HA HB HA6 HB7 HT6 HT HVA HVB HGA HGB HS hB6 hD11 hD12 HSs KJ KM KA KB
              rcases ej with rfl | rfl <;> rcases em with rfl | rfl
              · have hsum := HS4 rfl rfl
                have hne : ((xj + xm : Int) != xa + xb) = false := by simp [hsum]
                clear HS4 hsum
                go_wp2_with fail
                refine (HKJ.out _ hD).mono ?_
                rintro e y1 ⟨rfl, hD1⟩
                go_wp2_with fail
                refine (HKM.out _ hD1).mono ?_
                rintro e y2 ⟨rfl, hD2⟩
                go_wp2_with fail
                refine (HKA.out _ hD2).mono ?_
                rintro e y3 ⟨rfl, hD3⟩
                go_wp2_with fail
                refine (HKB.out _ hD3).mono ?_
                rintro e y4 ⟨rfl, hD4⟩
                go_wp2
                go_meet
                exact ⟨rfl, hD4⟩
              all_goals
                clear HS4
                go_wp2
                go_meet
                exact ⟨rfl, hD⟩
          case rest =>
            as_aux_lemma =>
              obtain ⟨rfl, hD13⟩ := hcut
              obtain ⟨pn, hpn⟩ : ∃ pn : Int, (if p then placeU a u else 0) = pn := ⟨_, rfl⟩
              have HPl : Hid (∀ W, Below w6.heap.size w6 W → Calls Tryd.prog 23 #[va, .int .i64 u] W fun e w' => e = .returned (.tuple #[.int .i64 pn, .bool p]) ∧ Below w6.heap.size w6 w') := fun W hW => by
                have := place_any va a u W (HT6.out W hW) (HA.out W (HB6.out W hW))
                rw [HVA.out, HP.out, Bool.true_and, hpn] at this
                exact this.mono fun _ _ ⟨h1, h2⟩ => ⟨h1, hW.trans (h2.below.mono hW.size)⟩
              have hpb : pn ≤ 9223372036854775807 := by
                rw [← hpn]
                split
                · rename_i hpt
                  have hu : hasU a u := by have := HP.out; rw [hpt] at this; simpa using this
                  have h1 := tot_bound (l := a.take (fnd a u)) (fun y hy => HGA.out.1 y (List.mem_of_mem_take hy))
                  have h2 := good_units HGA.out hu
                  have h3 : (a.take (fnd a u)).length ≤ 512 := by have := ((validB_iff a).1 HVA.out).1; rw [List.length_take]; omega
                  have hlt : fnd a u < a.length := by
                    have h4 := fnd_le a u
                    by_cases e : fnd a u = a.length
                    · exact absurd hu (hasU_end HGA.out e)
                    · omega
                  have h5 := good_at HGA.out hlt
                  unfold Whole at h5
                  unfold isU at h2
                  unfold placeU
                  omega
                · omega
              obtain ⟨tv, tb, hnt⟩ : ∃ tv tb, nthV (nthU a pn) = .tuple #[.int .i64 tv, .bool tb] := ⟨_, _, rfl⟩
              have HNt : Hid (∀ W, Below w6.heap.size w6 W → Calls Tryd.prog 25 #[va, .int .i64 pn] W fun e w' => e = .returned (.tuple #[.int .i64 tv, .bool tb]) ∧ Below w6.heap.size w6 w') := fun W hW => by
                have := nth_any va a pn W (HT6.out W hW) (HA.out W (HB6.out W hW)) hpb
                rw [hnt] at this
                exact this.mono fun _ _ ⟨h1, h2⟩ => ⟨h1, hW.trans (h2.below.mono hW.size)⟩
              have HNv : Hid (p = true → tv = u ∧ tb = true) := fun hpt => by
                have hu : hasU a u := by have := HP.out; rw [hpt] at this; simpa using this
                have h1 := nth_place HGA.out hu
                rw [← hpn, if_pos hpt] at hnt
                unfold nthU at hnt
                rw [if_neg (by rw [HVA.out]; simp; exact h1.2), h1.1] at hnt
                simp only [nthV, Option.getD_some, Option.isSome_some] at hnt
                injection hnt with hnt
                simp at hnt
                exact ⟨hnt.1.symm, hnt.2⟩
              clear hpn hpb hnt
              go_wp2_with fail
              refine (HPl.out _ hD13).mono ?_
              rintro e w11 ⟨rfl, hD14⟩
              clear HPl
              go_wp2_with fail
              refine (HNt.out _ hD14).mono ?_
              rintro e w12 ⟨rfl, hD15⟩
              clear HNt hD14 hD13
              go_upto_region 21 with fail
              go_cut [201] (fun s201 wx => s201 = .bool false ∧ Below w6.heap.size w6 wx)
              case first =>
                as_aux_lemma =>
                  cases p with
                  | false =>
                    clear HNv HP
                    go_wp2
                    go_meet
                    exact ⟨rfl, hD15⟩
                  | true =>
                    obtain ⟨rfl, rfl⟩ := HNv.out rfl
                    clear HNv HP
                    go_wp2
                    go_meet
                    exact ⟨rfl, hD15⟩
              case rest =>
                as_aux_lemma =>
                  obtain ⟨rfl, hD16⟩ := hcut
                  clear HNv hD15
                  have hA16 := HA.out wc (HB6.out _ hD16)
                  have hla : a.length ≤ 512 := ((validB_iff a).1 HVA.out).1
                  go_wp2_with fail
                  refine (of_any va a wc (HT6.out _ hD16) hA16 (by omega)).mono ?_
                  rintro e w13 ⟨r, hr, hres, hb13⟩
                  obtain rfl := canon_good hr HGA.out
                  obtain ⟨v13, rfl, hO13⟩ : ∃ v, e = .returned (.tuple #[v, .int .i64 0]) ∧ OwnR w13 wc.heap.size v r := by
                    rcases hres with ⟨_, h⟩ | ⟨h, _⟩
                    · exact h
                    · omega
                  have hD17 := hD16.trans (hb13.mono hD16.size)
                  have HRg : Hid (Calls Tryd.prog 40 #[v13, va] w13 fun e w' => e = .returned (.bool true) ∧ Below w6.heap.size w6 w') := by
                    have := ranges_any v13 va r r w13 hO13.rs (HA.out _ (HB6.out _ hD17)) (by omega)
                    rw [decide_eq_true rfl] at this
                    exact this.mono fun _ _ ⟨h1, h2⟩ => ⟨h1, hD17.trans (h2.below.mono hD17.size)⟩
                  clear hr hres hO13 hb13 hA16 hD16
                  go_wp2_with fail
                  refine HRg.out.mono ?_
                  rintro e w14 ⟨rfl, hD18⟩
                  clear HRg hD17
                  go_wp2_with fail
                  refine (other_any vb b w14 (HT6.out _ hD18) (HB.out _ (HB6.out _ hD18)) HVB.out).mono ?_
                  rintro e w15 ⟨rd, hrd, hans, hb15⟩
                  obtain ⟨vd, nd, ld, rfl, hRd, hVd⟩ := hans.view
                  have hD19 := hD18.trans (hb15.mono hD18.size)
                  have HDd : Hid (Good rd ∧ ∀ u, hasU rd u ↔ hasU runesL u ∧ ¬ hasU b u) := hrd
                  have HDV : Hid (View rd nd ld) := hVd
                  have HDR : Hid (∀ W, Below w15.heap.size w15 W → Rs W vd ld) := fun W hW => hRd.below hW (Nat.le_refl _)
                  have HD6 : Hid (∀ W, Below w15.heap.size w15 W → Below w6.heap.size w6 W) := fun W hW => hD19.trans (hW.mono hD19.size)
                  have ej := view_n HJV.out
                  have ec := view_n HCV.out
                  have ed := view_n hVd
                  clear hans hrd hRd hVd hb15 hD18 HM HMV HM6 HL HLV HL6 HHA HHB HP HQ HSs HQA HQB HS hB6 hD11 hD12 hD8
                  rcases ej with rfl | rfl
                  · rcases ec with rfl | rfl
                    · rcases ed with rfl | rfl
                      · as_aux_lemma =>
                          obtain ⟨elj, hlj⟩ := view_l HJV.out rfl
                          obtain ⟨elc, hlc⟩ := view_l HCV.out rfl
                          obtain ⟨eld, hld⟩ := view_l HDV.out rfl
                          have vJ := view_ok HJV.out rfl HJ.out.1
                          have vC := view_ok HCV.out rfl HC.out.1
                          have vD := view_ok HDV.out rfl HDd.out.1
                          subst elj
                          subst elc
                          subst eld
                          have HT15 : Hid (∀ W, Below w15.heap.size w15 W → Tab W) := fun W hW => HT6.out W (HD6.out W hW)
                          have HJF : Hid (∀ W, Below w15.heap.size w15 W → Rs W vj lj) := fun W hW => HJ6.out W (HD6.out W hW)
                          have HCF : Hid (∀ W, Below w15.heap.size w15 W → Rs W vc lc) := fun W hW => HCR.out W (HD6.out W hW)
                          have HAF : Hid (∀ W, Below w15.heap.size w15 W → Rs W va r) := fun W hW => HA.out W (HB6.out W (HD6.out W hW))
                          have HVS : Hid (validB lj = true ∧ validB lc = true ∧ validB ld = true) := ⟨vJ, vC, vD⟩
                          have hE0 := Below.refl w15.heap.size w15
                          clear vJ vC vD HJV HCV HDV hlj hlc hld HJ6 HCR HA HB HT HT6 hD19 HGB HVB
                          go_wp2_with fail
                          refine (other_any vj lj w15 (HT15.out _ hE0) (HJF.out _ hE0) HVS.out.1).mono ?_
                          rintro e w16 ⟨rx, hrx, hans, hb16⟩
                          obtain ⟨vx, nx, lx, rfl, hRx, hVx⟩ := hans.view
                          have hE1 : Below w15.heap.size w15 w16 := hb16
                          have HX : Hid (Good rx ∧ ∀ u, hasU rx u ↔ hasU runesL u ∧ ¬ hasU lj u) := hrx
                          have HXV : Hid (View rx nx lx) := hVx
                          have HXR : Hid (∀ W, Below w16.heap.size w16 W → Rs W vx lx) := fun W hW => hRx.below hW (Nat.le_refl _)
                          clear hans hrx hRx hVx hb16 hE0
                          go_wp2_with fail
                          refine (meet_any vc vd lc ld w16 (HT15.out _ hE1) (HCF.out _ hE1) (HDR.out _ hE1) HVS.out.2.1 HVS.out.2.2).mono ?_
                          rintro e w17 ⟨ry, hry, hans, hb17⟩
                          obtain ⟨vy, ny, ly, rfl, hRy, hVy⟩ := hans.view
                          have hE2 : Below w15.heap.size w15 w17 := hE1.trans (hb17.mono hE1.size)
                          have HY : Hid (Good ry ∧ ∀ u, hasU ry u ↔ hasU lc u ∧ hasU ld u) := hry
                          have HYV : Hid (View ry ny ly) := hVy
                          obtain ⟨m1, hm1⟩ : ∃ m1 : Bool, decide (lx = ly) = m1 := ⟨_, rfl⟩
                          have hlx : lx.length ≤ 512 := by rcases HXV.out with h | h; rw [h.2.1]; exact h.2.2; rw [h.2]; simp
                          have HM1 : Hid (Calls Tryd.prog 40 #[vx, vy] w17 fun e w' => e = .returned (.bool m1) ∧ Below w15.heap.size w15 w') := by
                            have := ranges_any vx vy lx ly w17 (HXR.out _ hb17) hRy (by omega)
                            rw [hm1] at this
                            exact this.mono fun _ _ ⟨h1, h2⟩ => ⟨h1, hE2.trans (h2.below.mono hE2.size)⟩
                          have HMo : Hid (nx = 0 → ny = 0 → m1 = true) := fun h1 h2 => by
                            rw [← hm1, decide_eq_true_eq]
                            obtain ⟨rfl, _⟩ := view_l HXV.out h1
                            obtain ⟨rfl, _⟩ := view_l HYV.out h2
                            refine good_unique _ _ HX.out.1 HY.out.1 (fun u => ?_)
                            rw [HX.out.2 u, HY.out.2 u, HJ.out.2 u, HC.out.2 u, HDd.out.2 u]
                            constructor
                            · rintro ⟨k1, k2⟩
                              exact ⟨⟨k1, fun k => k2 (.inl k)⟩, ⟨k1, fun k => k2 (.inr k)⟩⟩
                            · rintro ⟨⟨k1, k2⟩, ⟨_, k3⟩⟩
                              exact ⟨k1, fun k => k.elim k2 k3⟩
                          have ex := view_n HXV.out
                          have ey := view_n HYV.out
                          clear hans hry hRy hVy hb17 hm1 hlx hE1 HXR HX HXV HY HYV HJ HDd HJF HDR
                          go_wp2_with fail
                          refine HM1.out.mono ?_
                          rintro e w18 ⟨rfl, hE3⟩
                          clear HM1 hE2
                          go_wp2_with fail
                          refine (other_any vc lc w18 (HT15.out _ hE3) (HCF.out _ hE3) HVS.out.2.1).mono ?_
                          rintro e w19 ⟨rz, hrz, hans, hb19⟩
                          obtain ⟨vz, nz, lz, rfl, hRz, hVz⟩ := hans.view
                          have hE4 : Below w15.heap.size w15 w19 := hE3.trans (hb19.mono hE3.size)
                          have HZ : Hid (Good rz ∧ ∀ u, hasU rz u ↔ hasU runesL u ∧ ¬ hasU lc u) := hrz
                          have HZV : Hid (View rz nz lz) := hVz
                          have HZR : Hid (∀ W, Below w19.heap.size w19 W → Rs W vz lz) := fun W hW => hRz.below hW (Nat.le_refl _)
                          clear hans hrz hRz hVz hb19 hE3
                          go_wp2_with fail
                          refine (runes_any w19 (HT15.out _ hE4)).mono ?_
                          rintro e w20 ⟨v20, rfl, hR20, hb20⟩
                          have hE5 : Below w15.heap.size w15 w20 := hE4.trans (hb20.mono hE4.size)
                          have HR20 : Hid (Rs w20 v20 runesL) := hR20
                          have HZR2 : Hid (∀ W, Below w20.heap.size w20 W → Rs W vz lz) := fun W hW => HZR.out W (hb20.trans (hW.mono hb20.size))
                          clear hR20 hb20 hE4 HZR
                          go_wp2_with fail
                          refine (meet_any va v20 r runesL w20 (HT15.out _ hE5) (HAF.out _ hE5) HR20.out HVA.out runes_valid).mono ?_
                          rintro e w21 ⟨rw, hrw, hans, hb21⟩
                          obtain ⟨vw, nw, lw, rfl, hRw, hVw⟩ := hans.view
                          have hE6' : Below w15.heap.size w15 w21 := hE5.trans (hb21.mono hE5.size)
                          have HW : Hid (Good rw ∧ ∀ u, hasU rw u ↔ hasU r u ∧ hasU runesL u) := hrw
                          have HWV : Hid (View rw nw lw) := hVw
                          obtain ⟨m2, hm2⟩ : ∃ m2 : Bool, decide (lz = lw) = m2 := ⟨_, rfl⟩
                          have hlz : lz.length ≤ 512 := by rcases HZV.out with h | h; rw [h.2.1]; exact h.2.2; rw [h.2]; simp
                          have HM2 : Hid (Calls Tryd.prog 40 #[vz, vw] w21 fun e w' => e = .returned (.bool m2) ∧ Below w15.heap.size w15 w') := by
                            have := ranges_any vz vw lz lw w21 (HZR2.out _ hb21) hRw (by omega)
                            rw [hm2] at this
                            exact this.mono fun _ _ ⟨h1, h2⟩ => ⟨h1, hE6'.trans (h2.below.mono hE6'.size)⟩
                          have HMp : Hid (nz = 0 → nw = 0 → m2 = true) := fun h1 h2 => by
                            rw [← hm2, decide_eq_true_eq]
                            obtain ⟨rfl, _⟩ := view_l HZV.out h1
                            obtain ⟨rfl, _⟩ := view_l HWV.out h2
                            refine good_unique _ _ HZ.out.1 HW.out.1 (fun u => ?_)
                            rw [HZ.out.2 u, HW.out.2 u, HC.out.2 u]
                            constructor
                            · rintro ⟨k1, k2⟩
                              exact ⟨Classical.byContradiction fun k => k2 ⟨k1, k⟩, k1⟩
                            · rintro ⟨k1, k2⟩
                              exact ⟨k2, fun k => k.2 k1⟩
                          have ez := view_n HZV.out
                          have ew := view_n HWV.out
                          clear hans hrw hRw hVw hb21 hm2 hlz hE5 HZR2 HZ HZV HW HWV HC HCF HAF HVS HVA HGA
                          go_wp2_with fail
                          refine HM2.out.mono ?_
                          rintro e w22 ⟨rfl, hE6⟩
                          clear HM2 hE6'
                          have k1 : nx = 21 ∨ (nx = 0 ∧ ny = 21) ∨ (nx = 0 ∧ ny = 0 ∧ m1 = true) := by
                            rcases ex with h | h
                            · rcases ey with h2 | h2
                              · exact .inr (.inr ⟨h, h2, HMo.out h h2⟩)
                              · exact .inr (.inl ⟨h, h2⟩)
                            · exact .inl h
                          have k2 : nz = 21 ∨ (nz = 0 ∧ nw = 21) ∨ (nz = 0 ∧ nw = 0 ∧ m2 = true) := by
                            rcases ez with h | h
                            · rcases ew with h2 | h2
                              · exact .inr (.inr ⟨h, h2, HMp.out h h2⟩)
                              · exact .inr (.inl ⟨h, h2⟩)
                            · exact .inl h
                          clear HMo HMp ex ey ez ew
                          rcases k1 with rfl | ⟨rfl, rfl⟩ | ⟨rfl, rfl, rfl⟩ <;> rcases k2 with rfl | ⟨rfl, rfl⟩ | ⟨rfl, rfl, rfl⟩
                          all_goals
                            as_aux_lemma =>
                              go_wp2
                              go_ret
                              exact ⟨rfl, HB6.out _ (HD6.out _ hE6)⟩
                      · as_aux_lemma =>
                          go_wp2
                          go_ret
                          exact ⟨rfl, HB6.out _ hD19⟩
                    · as_aux_lemma =>
                        go_wp2
                        go_ret
                        exact ⟨rfl, HB6.out _ hD19⟩
                  · as_aux_lemma =>
                      go_wp2
                      go_ret
                      exact ⟨rfl, HB6.out _ hD19⟩
theorem laws_any (va vb : Value) (a b : List (Int × Int)) (u : Int) (w : World) (hT : Tab w) (ha : Rs w va a) (hb : Rs w vb b) : Calls Tryd.prog 6 #[va, vb, .int .i64 u] w fun e w' => e = .returned (.bool true) ∧ Below w.heap.size w w' := by
  cases hva : validB a with
  | false => exact laws_bad1 va vb a u w hT ha hva
  | true =>
    cases hvb : validB b with
    | false => exact laws_bad2 va vb a b u w hT ha hb hva hvb
    | true => exact laws_good va vb a b u w hT ha hb hva hvb
end Go.Proofs
