/-
  touch: whether two sets have a unit in common.
-/
import Derived.RangeFuncNested
import Derived.RangeFuncBound
import Derived.RangeFuncCalls
import Derived.RangeFuncLeaves
import Derived.Shelf.Abstract
import Derived.Shelf.RegionOpen
import Derived.WalkKit
import Derived.WalkSpells
import Derived.WalkLawsBesides
import Derived.OwnWalkIn
import Derived.TacticsInMore
import Derived.LoopNIn
import Derived.LoopIn
import Derived.BigQuiet
import Derived.RegionIn
import Derived.Deep.QuietTactic
import Derived.Deep.RegionWith
import Derived.Lib.OthersKept
import Derived.Maps.AppendAt
import Derived.Lib.SmallJoins
import Derived.Shelf.SlSortCmp.QuietGrown
import Derived.Test.YtkijbaofhodplaaDoorWx
namespace Go.Proofs
open Go.RowKit Go.Shelf

set_option maxRecDepth 100000
attribute [local go_sem] Oper.semAt_some
attribute [local go_sem ↓] Go.wp_at_zero Go.wp_at_succ
/-- whether two rows of ranges touch, in so many steps -/
def touchF : Nat → List (Int × Int) → List (Int × Int) → Bool
  | 0, _, _ => false
  | _ + 1, [], _ => false
  | _ + 1, _ :: _, [] => false
  | f + 1, x :: a, y :: b => if x.2 < y.1 then touchF f a (y :: b) else if y.2 < x.1 then touchF f (x :: a) b else true
/-- whether two rows of ranges touch -/
def touchL (a b : List (Int × Int)) : Bool := touchF (a.length + b.length) a b
theorem touchF_same : ∀ (f g : Nat) (a b : List (Int × Int)), a.length + b.length ≤ f → a.length + b.length ≤ g → touchF f a b = touchF g a b
  | 0, g, a, b, h, _ => by
    have ha : a = [] := List.eq_nil_of_length_eq_zero (by omega)
    subst ha
    cases g <;> rfl
  | f + 1, g, [], b, _, _ => by cases g <;> rfl
  | f + 1, g, x :: a, [], _, _ => by cases g <;> rfl
  | f + 1, 0, x :: a, y :: b, _, h => by simp at h
  | f + 1, g + 1, x :: a, y :: b, h1, h2 => by
    simp only [List.length_cons] at h1 h2
    have e1 := touchF_same f g a (y :: b) (by simp; omega) (by simp; omega)
    have e2 := touchF_same f g (x :: a) b (by simp; omega) (by simp; omega)
    simp only [touchF, e1, e2]
theorem drop_rg' {l : List (Int × Int)} {k : Nat} (hk : k < l.length) : l.drop k = rg l k :: l.drop (k + 1) := by
  rw [rg_lt hk]; exact List.drop_eq_getElem_cons hk
theorem touch_nil_left (b : List (Int × Int)) : touchL [] b = false := by
  unfold touchL
  cases b.length <;> rfl
theorem touch_nil_right (a : List (Int × Int)) : touchL a [] = false := by
  unfold touchL
  cases a <;> rfl
theorem touch_cons (x y : Int × Int) (a b : List (Int × Int)) : touchL (x :: a) (y :: b) = if x.2 < y.1 then touchL a (y :: b) else if y.2 < x.1 then touchL (x :: a) b else true := by
  unfold touchL
  rw [touchF_same ((x :: a).length + (y :: b).length) (a.length + b.length + 1 + 1) _ _ (Nat.le_refl _) (by simp; omega)]
  rw [touchF]
  rw [touchF_same (a.length + b.length + 1) (a.length + (y :: b).length) a (y :: b) (by simp; omega) (Nat.le_refl _)]
  rw [touchF_same (a.length + b.length + 1) ((x :: a).length + b.length) (x :: a) b (by simp; omega) (Nat.le_refl _)]
set_option maxHeartbeats 2000000 in
theorem touch_any (va vb : Value) (a b : List (Int × Int)) (w : World) (ha : Rs w va a) (hb : Rs w vb b) (hna : a.length ≤ 1000000) (hnb : b.length ≤ 1000000) :
    Calls Tryd.prog 95 #[va, vb] w fun e w' => e = .returned (.bool (touchL a b)) ∧ Grown w w' := by
  obtain ⟨A, ca, rfl, _, h1⟩ := ha
  obtain ⟨B, cb, rfl, _, h2⟩ := hb
  obtain ⟨n, hnn⟩ : ∃ n, a.length = n := ⟨_, rfl⟩
  obtain ⟨m, hmm⟩ : ∃ m, b.length = m := ⟨_, rfl⟩
  have HA : Hid (a.length = n) := hnn
  have HB : Hid (b.length = m) := hmm
  rw [hnn] at hna ⊢
  rw [hmm] at hnb ⊢
  obtain ⟨r, hr⟩ : ∃ r : Bool, touchL a b = r := ⟨_, rfl⟩
  have HR : Hid (touchL (a.drop 0) (b.drop 0) = r) := hr
  have H1 : Hid (a = [] ∨ ∃ g o, A = some ⟨g, o, none⟩ ∧ Reads w g o a) := h1
  have H2 : Hid (b = [] ∨ ∃ g o, B = some ⟨g, o, none⟩ ∧ Reads w g o b) := h2
  rw [hr]
  clear hr h1 h2 hnn hmm
  have hnI : (n : Int) ≤ 1000000 := by omega
  have hmI : (m : Int) ≤ 1000000 := by omega
  go_enter Tryd.func95, Tryd.ntmps95
  go_wp2
  go_loopw [5, 6] (fun vi vj wr => ∃ i j : Nat, vi = .int .i64 i ∧ vj = .int .i64 j ∧ i ≤ n ∧ j ≤ m ∧ Hid (touchL (a.drop i) (b.drop j) = r) ∧ Grown w wr) (fun vi vj _ => (n - (intOf vi).toNat) + (m - (intOf vj).toNat))
  case atStart => exact ⟨0, 0, rfl, rfl, by omega, by omega, HR, Grown.refl _⟩
  case round =>
    obtain ⟨i, j, rfl, rfl, hi, hj, hT, hG⟩ := hrel
    clear HR
    have hi0 : (0 : Int) ≤ (i : Int) := by omega
    have hj0 : (0 : Int) ≤ (j : Int) := by omega
    by_cases hli : i < n
    · have hli' : (i : Int) < (n : Int) := by omega
      by_cases hlj : j < m
      · as_aux_lemma =>
          have hlj' : (j : Int) < (m : Int) := by omega
          have hka : i < a.length := by rw [HA.out]; exact hli
          have hkb : j < b.length := by rw [HB.out]; exact hlj
          obtain ⟨g1, o1, hA1, hr1⟩ := H1.out.resolve_left (fun e => by rw [e] at hka; simp at hka)
          obtain ⟨g2, o2, hB1, hr2⟩ := H2.out.resolve_left (fun e => by rw [e] at hkb; simp at hkb)
          subst hA1
          subst hB1
          obtain ⟨p, q, hpq⟩ : ∃ p q : Int, rg a i = (p, q) := ⟨_, _, rfl⟩
          obtain ⟨s, t, hst⟩ : ∃ s t : Int, rg b j = (s, t) := ⟨_, _, rfl⟩
          have x1 := hr1 i hka
          have x2 := hr2 j hkb
          have hT2 := hT.out
          rw [drop_rg' hka, drop_rg' hkb, hpq, hst, touch_cons] at hT2
          rw [hpq] at x1
          rw [hst] at x2
          have cp := hG.cellv x1.1
          have cq := hG.cellv x1.2
          have cs := hG.cellv x2.1
          have ct := hG.cellv x2.2
          simp only at cp cq cs ct hT2
          clear x1 x2 hr1 hr2
          by_cases hc1 : q < s
          · as_aux_lemma =>
              have HT2 : Hid (touchL (a.drop (i + 1)) (b.drop j) = r) := by rw [if_pos hc1] at hT2; rw [drop_rg' hkb, hst]; exact hT2
              clear hT2 hT hpq hst
              go_wp2
              go_quiet (fail)
              go_wp2
              exact ⟨⟨i + 1, j, by go_num, rfl, by omega, by omega, HT2, (by first | exact hG.drewN _ | exact (hG.drewN _).drewN _)⟩, by simp [intOf]; omega⟩
          · by_cases hc2 : t < p
            · as_aux_lemma =>
                have HT2 : Hid (touchL (a.drop i) (b.drop (j + 1)) = r) := by rw [if_neg hc1, if_pos hc2] at hT2; rw [drop_rg' hka, hpq]; exact hT2
                clear hT2 hT hpq hst
                go_wp2
                go_quiet (fail)
                go_wp2
                go_quiet (fail)
                go_wp2
                exact ⟨⟨i, j + 1, rfl, by go_num, by omega, by omega, HT2, (by first | exact hG.drewN _ | exact (hG.drewN _).drewN _)⟩, by simp [intOf]; omega⟩
            · as_aux_lemma =>
                have HT2 : Hid (r = true) := by rw [if_neg hc1, if_neg hc2] at hT2; exact hT2.symm
                clear hT2 hT hpq hst
                go_wp2
                go_quiet (fail)
                go_wp2
                go_quiet (fail)
                go_wp2
                go_ret
                have hrt := HT2.out
                exact ⟨by first | rfl | (rw [hrt]; rfl), (by first | exact hG.drewN _ | exact (hG.drewN _).drewN _)⟩
      · as_aux_lemma =>
          have hge : ¬ (j : Int) < (m : Int) := by omega
          have HT2 : Hid (r = false) := by
            have := hT.out
            rw [(List.drop_eq_nil_of_le (by rw [HB.out]; omega) : b.drop j = []), touch_nil_right] at this
            exact this.symm
          clear hT
          go_wp2
          go_ret
          have hrt := HT2.out
          exact ⟨by first | rfl | (rw [hrt]; rfl), hG⟩
    · as_aux_lemma =>
        have hge : ¬ (i : Int) < (n : Int) := by omega
        have HT2 : Hid (r = false) := by
          have := hT.out
          rw [(List.drop_eq_nil_of_le (by rw [HA.out]; omega) : a.drop i = []), touch_nil_left] at this
          exact this.symm
        clear hT
        go_wp2
        go_ret
        have hrt := HT2.out
        exact ⟨by first | rfl | (rw [hrt]; rfl), hG⟩
end Go.Proofs
