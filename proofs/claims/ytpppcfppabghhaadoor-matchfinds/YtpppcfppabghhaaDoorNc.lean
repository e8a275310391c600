/-
  Whether one side has what is asked for there: stands.
-/
import Derived.RangeFuncNested
import Derived.RangeFuncBound
import Derived.RangeFuncCalls
import Derived.RangeFuncLeaves
import Derived.Shelf.Abstract
import Derived.Shelf.RegionOpen
import Derived.WalkKit
import Derived.WalkSpells
import Derived.WalkLawsBesides
import Derived.OwnWalkIn
import Derived.TacticsInMore
import Derived.LoopNIn
import Derived.LoopIn
import Derived.BigQuiet
import Derived.RegionIn
import Derived.Deep.QuietTactic
import Derived.Deep.RegionWith
import Derived.Lib.OthersKept
import Derived.Maps.AppendAt
import Derived.Lib.SmallJoins
import Derived.Shelf.SlSortCmp.QuietGrown
import Derived.Test.YtpppcfppabghhaaDoorNb
namespace Go.Proofs
open Go.RowKit Go.Shelf

set_option maxRecDepth 100000
attribute [local go_sem] Oper.semAt_some
attribute [local go_sem ↓] Go.wp_at_zero Go.wp_at_succ

set_option maxHeartbeats 4000000 in
theorem standsB_any (gv wv : Value) (us : List Int) (ss : List (List (Int × Int))) (al : Bool) (w : World) (hT : Tab w) (hU : UnitF w 36 gv us) (hA : AskF w 37 wv ss) (hn : ss.length ≤ 100) :
    Calls Tryd.prog 35 #[.func (.func 36) #[gv] #[], .func (.func 37) #[wv] #[], .bool al] w fun e w' => e = .returned (.bool (stU us ss al)) ∧ Grown w w' := by
  have HU := Hid.mk' hU
  have HA := Hid.mk' hA
  have HT := Hid.mk' hT
  clear hU hA hT
  obtain ⟨R, hR⟩ : ∃ R, stU us ss al = R := ⟨_, rfl⟩
  have HR : Hid (stU us ss al = R) := hR
  rw [hR]
  obtain ⟨n, hN⟩ : ∃ n, ss.length = n := ⟨_, rfl⟩
  have HN : Hid (ss.length = n) := hN
  rw [hN] at hn
  have hnI : (n : Int) ≤ 100 := by omega
  clear hR hN
  go_enter Tryd.func35, Tryd.ntmps35
  go_wp2
  go_loopw [7] (fun vi wr => ∃ k : Nat, vi = .int .i64 k ∧ k ≤ n ∧ Hid (stU (us.drop k) (ss.drop k) al = R) ∧ Grown w wr) (fun vi _ => n - (intOf vi).toNat)
  case atStart => exact ⟨0, rfl, by omega, by simpa using HR, Grown.refl _⟩
  case round =>
    obtain ⟨k, rfl, hk, HQ, hG⟩ := hrel
    have hkI : (k : Int) ≤ 100 := by omega
    have hk0 : (0 : Int) ≤ (k : Int) := by omega
    by_cases hlt : k < n
    · have hkl : k < ss.length := by rw [HN.out]; exact hlt
      obtain ⟨sv, hsv, hC⟩ := HA.out.sth k ss[k] (List.getElem?_eq_getElem hkl)
      have HS := Hid.mk' hsv
      have HC := Hid.mk' hC
      obtain ⟨s1, s2, s3, rfl⟩ := hsv.sl
      have hQ := HQ.out
      rw [List.drop_eq_getElem_cons hkl] at hQ
      clear hsv hC HQ
      by_cases hu : k < us.length
      · have HD : Hid (∀ W, Grown wr W → Calls Tryd.prog 36 #[gv, .int .i64 k] W fun e w' => e = .returned (.tuple #[.int .i64 us[k], .bool true]) ∧ Grown W w') := fun W hW => HU.out.sth k us[k] (List.getElem?_eq_getElem hu) W (hG.trans hW)
        rw [List.drop_eq_getElem_cons hu, stU_cons] at hQ
        have HB : Hid (∀ W, Grown wr W → Calls Tryd.prog 49 #[.slice s1 s2 s3, .int .i64 us[k]] W fun e w' => e = .returned (.bool (hasB ss[k] us[k])) ∧ Grown W w') := fun W hW => has_any _ ss[k] us[k] W (HT.out.grown (hG.trans hW)) (HS.out.grown (hG.trans hW))
        generalize us[k] = u at HD HB hQ
        cases hb : hasB ss[k] u with
        | true =>
          as_aux_lemma =>
            rw [hb, Bool.true_and] at hQ
            have HQ2 : Hid (stU (us.drop (k + 1)) (ss.drop (k + 1)) al = R) := hQ
            rw [hb] at HB
            clear hQ hb hu HS hkl
            go_wp2_with (go_at_call 36; refine (HD.out _ (Grown.refl _)).mono ?_; rintro e w1 ⟨rfl, hg1⟩)
            go_wp2_with (go_at_call 37; refine (HC.out _ (hG.trans hg1)).mono ?_; rintro e w2 ⟨rfl, hg2⟩)
            go_wp2_with (go_at_call 49; refine (HB.out _ (hg1.trans hg2)).mono ?_; rintro e w3 ⟨rfl, hg3⟩)
            exact ⟨⟨k + 1, by go_num, by omega, HQ2, ((hG.trans hg1).trans hg2).trans hg3⟩, by simp [intOf]; omega⟩
        | false =>
          as_aux_lemma =>
            rw [hb, Bool.false_and] at hQ
            rw [hb] at HB
            have HQ2 := Hid.mk' hQ
            clear hQ hb hu HS hkl
            go_wp2_with (go_at_call 36; refine (HD.out _ (Grown.refl _)).mono ?_; rintro e w1 ⟨rfl, hg1⟩)
            go_wp2_with (go_at_call 37; refine (HC.out _ (hG.trans hg1)).mono ?_; rintro e w2 ⟨rfl, hg2⟩)
            go_wp2_with (go_at_call 49; refine (HB.out _ (hg1.trans hg2)).mono ?_; rintro e w3 ⟨rfl, hg3⟩)
            go_ret
            exact ⟨by rw [← HQ2.out]; rfl, ((hG.trans hg1).trans hg2).trans hg3⟩
      · as_aux_lemma =>
          have HD : Hid (∀ W, Grown wr W → Calls Tryd.prog 36 #[gv, .int .i64 k] W fun e w' => e = .returned (.tuple #[.int .i64 0, .bool false]) ∧ Grown W w') := fun W hW => HU.out.non k (by omega) (by omega) W (hG.trans hW)
          rw [List.drop_eq_nil_of_le (by omega), stU_none] at hQ
          have HQ2 := Hid.mk' hQ
          clear hQ hu HS hkl
          go_wp2_with (go_at_call 36; refine (HD.out _ (Grown.refl _)).mono ?_; rintro e w1 ⟨rfl, hg1⟩)
          go_wp2_with (go_at_call 37; refine (HC.out _ (hG.trans hg1)).mono ?_; rintro e w2 ⟨rfl, hg2⟩)
          go_ret
          exact ⟨by rw [← HQ2.out]; rfl, (hG.trans hg1).trans hg2⟩
    · have hkn : ss.length ≤ k := by rw [HN.out]; omega
      have hQ := HQ.out
      rw [List.drop_eq_nil_of_le hkn, stU_end] at hQ
      have HC := Hid.mk' (HA.out.non k hkn (by omega))
      clear HQ hkn
      by_cases hu : k < us.length
      · as_aux_lemma =>
          have HD : Hid (∀ W, Grown wr W → Calls Tryd.prog 36 #[gv, .int .i64 k] W fun e w' => e = .returned (.tuple #[.int .i64 us[k], .bool true]) ∧ Grown W w') := fun W hW => HU.out.sth k us[k] (List.getElem?_eq_getElem hu) W (hG.trans hW)
          rw [List.drop_eq_getElem_cons hu] at hQ
          have hQ2 : (!al) = R := by rw [← hQ]; cases al <;> rfl
          generalize us[k] = u at HD
          have HQ2 := Hid.mk' hQ2
          clear hQ hu hQ2
          cases al with
          | true =>
            go_wp2_with (go_at_call 36; refine (HD.out _ (Grown.refl _)).mono ?_; rintro e w1 ⟨rfl, hg1⟩)
            go_wp2_with (go_at_call 37; refine (HC.out _ (hG.trans hg1)).mono ?_; rintro e w2 ⟨rfl, hg2⟩)
            go_ret
            exact ⟨by rw [← HQ2.out]; rfl, (hG.trans hg1).trans hg2⟩
          | false =>
            go_wp2_with (go_at_call 36; refine (HD.out _ (Grown.refl _)).mono ?_; rintro e w1 ⟨rfl, hg1⟩)
            go_wp2_with (go_at_call 37; refine (HC.out _ (hG.trans hg1)).mono ?_; rintro e w2 ⟨rfl, hg2⟩)
            go_ret
            exact ⟨by rw [← HQ2.out]; rfl, (hG.trans hg1).trans hg2⟩
      · as_aux_lemma =>
          have HD : Hid (∀ W, Grown wr W → Calls Tryd.prog 36 #[gv, .int .i64 k] W fun e w' => e = .returned (.tuple #[.int .i64 0, .bool false]) ∧ Grown W w') := fun W hW => HU.out.non k (by omega) (by omega) W (hG.trans hW)
          rw [List.drop_eq_nil_of_le (by omega)] at hQ
          have hQ2 : true = R := by rw [← hQ]; cases al <;> rfl
          have HQ2 := Hid.mk' hQ2
          clear hQ hu hQ2
          cases al with
          | true =>
            go_wp2_with (go_at_call 36; refine (HD.out _ (Grown.refl _)).mono ?_; rintro e w1 ⟨rfl, hg1⟩)
            go_wp2_with (go_at_call 37; refine (HC.out _ (hG.trans hg1)).mono ?_; rintro e w2 ⟨rfl, hg2⟩)
            go_ret
            exact ⟨by rw [← HQ2.out]; rfl, (hG.trans hg1).trans hg2⟩
          | false =>
            go_wp2_with (go_at_call 36; refine (HD.out _ (Grown.refl _)).mono ?_; rintro e w1 ⟨rfl, hg1⟩)
            go_wp2_with (go_at_call 37; refine (HC.out _ (hG.trans hg1)).mono ?_; rintro e w2 ⟨rfl, hg2⟩)
            go_ret
            exact ⟨by rw [← HQ2.out]; rfl, (hG.trans hg1).trans hg2⟩

set_option maxHeartbeats 4000000 in
theorem standsA_any (gv wv : Value) (us : List Int) (ss : List (List (Int × Int))) (al : Bool) (w : World) (hT : Tab w) (hU : UnitF w 38 gv us) (hA : AskF w 39 wv ss) (hn : ss.length ≤ 100) :
    Calls Tryd.prog 35 #[.func (.func 38) #[gv] #[], .func (.func 39) #[wv] #[], .bool al] w fun e w' => e = .returned (.bool (stU us ss al)) ∧ Grown w w' := by
  have HU := Hid.mk' hU
  have HA := Hid.mk' hA
  have HT := Hid.mk' hT
  clear hU hA hT
  obtain ⟨R, hR⟩ : ∃ R, stU us ss al = R := ⟨_, rfl⟩
  have HR : Hid (stU us ss al = R) := hR
  rw [hR]
  obtain ⟨n, hN⟩ : ∃ n, ss.length = n := ⟨_, rfl⟩
  have HN : Hid (ss.length = n) := hN
  rw [hN] at hn
  have hnI : (n : Int) ≤ 100 := by omega
  clear hR hN
  go_enter Tryd.func35, Tryd.ntmps35
  go_wp2
  go_loopw [7] (fun vi wr => ∃ k : Nat, vi = .int .i64 k ∧ k ≤ n ∧ Hid (stU (us.drop k) (ss.drop k) al = R) ∧ Grown w wr) (fun vi _ => n - (intOf vi).toNat)
  case atStart => exact ⟨0, rfl, by omega, by simpa using HR, Grown.refl _⟩
  case round =>
    obtain ⟨k, rfl, hk, HQ, hG⟩ := hrel
    have hkI : (k : Int) ≤ 100 := by omega
    have hk0 : (0 : Int) ≤ (k : Int) := by omega
    by_cases hlt : k < n
    · have hkl : k < ss.length := by rw [HN.out]; exact hlt
      obtain ⟨sv, hsv, hC⟩ := HA.out.sth k ss[k] (List.getElem?_eq_getElem hkl)
      have HS := Hid.mk' hsv
      have HC := Hid.mk' hC
      obtain ⟨s1, s2, s3, rfl⟩ := hsv.sl
      have hQ := HQ.out
      rw [List.drop_eq_getElem_cons hkl] at hQ
      clear hsv hC HQ
      by_cases hu : k < us.length
      · have HD : Hid (∀ W, Grown wr W → Calls Tryd.prog 38 #[gv, .int .i64 k] W fun e w' => e = .returned (.tuple #[.int .i64 us[k], .bool true]) ∧ Grown W w') := fun W hW => HU.out.sth k us[k] (List.getElem?_eq_getElem hu) W (hG.trans hW)
        rw [List.drop_eq_getElem_cons hu, stU_cons] at hQ
        have HB : Hid (∀ W, Grown wr W → Calls Tryd.prog 49 #[.slice s1 s2 s3, .int .i64 us[k]] W fun e w' => e = .returned (.bool (hasB ss[k] us[k])) ∧ Grown W w') := fun W hW => has_any _ ss[k] us[k] W (HT.out.grown (hG.trans hW)) (HS.out.grown (hG.trans hW))
        generalize us[k] = u at HD HB hQ
        cases hb : hasB ss[k] u with
        | true =>
          as_aux_lemma =>
            rw [hb, Bool.true_and] at hQ
            have HQ2 : Hid (stU (us.drop (k + 1)) (ss.drop (k + 1)) al = R) := hQ
            rw [hb] at HB
            clear hQ hb hu HS hkl
            go_wp2_with (go_at_call 38; refine (HD.out _ (Grown.refl _)).mono ?_; rintro e w1 ⟨rfl, hg1⟩)
            go_wp2_with (go_at_call 39; refine (HC.out _ (hG.trans hg1)).mono ?_; rintro e w2 ⟨rfl, hg2⟩)
            go_wp2_with (go_at_call 49; refine (HB.out _ (hg1.trans hg2)).mono ?_; rintro e w3 ⟨rfl, hg3⟩)
            exact ⟨⟨k + 1, by go_num, by omega, HQ2, ((hG.trans hg1).trans hg2).trans hg3⟩, by simp [intOf]; omega⟩
        | false =>
          as_aux_lemma =>
            rw [hb, Bool.false_and] at hQ
            rw [hb] at HB
            have HQ2 := Hid.mk' hQ
            clear hQ hb hu HS hkl
            go_wp2_with (go_at_call 38; refine (HD.out _ (Grown.refl _)).mono ?_; rintro e w1 ⟨rfl, hg1⟩)
            go_wp2_with (go_at_call 39; refine (HC.out _ (hG.trans hg1)).mono ?_; rintro e w2 ⟨rfl, hg2⟩)
            go_wp2_with (go_at_call 49; refine (HB.out _ (hg1.trans hg2)).mono ?_; rintro e w3 ⟨rfl, hg3⟩)
            go_ret
            exact ⟨by rw [← HQ2.out]; rfl, ((hG.trans hg1).trans hg2).trans hg3⟩
      · as_aux_lemma =>
          have HD : Hid (∀ W, Grown wr W → Calls Tryd.prog 38 #[gv, .int .i64 k] W fun e w' => e = .returned (.tuple #[.int .i64 0, .bool false]) ∧ Grown W w') := fun W hW => HU.out.non k (by omega) (by omega) W (hG.trans hW)
          rw [List.drop_eq_nil_of_le (by omega), stU_none] at hQ
          have HQ2 := Hid.mk' hQ
          clear hQ hu HS hkl
          go_wp2_with (go_at_call 38; refine (HD.out _ (Grown.refl _)).mono ?_; rintro e w1 ⟨rfl, hg1⟩)
          go_wp2_with (go_at_call 39; refine (HC.out _ (hG.trans hg1)).mono ?_; rintro e w2 ⟨rfl, hg2⟩)
          go_ret
          exact ⟨by rw [← HQ2.out]; rfl, (hG.trans hg1).trans hg2⟩
    · have hkn : ss.length ≤ k := by rw [HN.out]; omega
      have hQ := HQ.out
      rw [List.drop_eq_nil_of_le hkn, stU_end] at hQ
      have HC := Hid.mk' (HA.out.non k hkn (by omega))
      clear HQ hkn
      by_cases hu : k < us.length
      · as_aux_lemma =>
          have HD : Hid (∀ W, Grown wr W → Calls Tryd.prog 38 #[gv, .int .i64 k] W fun e w' => e = .returned (.tuple #[.int .i64 us[k], .bool true]) ∧ Grown W w') := fun W hW => HU.out.sth k us[k] (List.getElem?_eq_getElem hu) W (hG.trans hW)
          rw [List.drop_eq_getElem_cons hu] at hQ
          have hQ2 : (!al) = R := by rw [← hQ]; cases al <;> rfl
          generalize us[k] = u at HD
          have HQ2 := Hid.mk' hQ2
          clear hQ hu hQ2
          cases al with
          | true =>
            go_wp2_with (go_at_call 38; refine (HD.out _ (Grown.refl _)).mono ?_; rintro e w1 ⟨rfl, hg1⟩)
            go_wp2_with (go_at_call 39; refine (HC.out _ (hG.trans hg1)).mono ?_; rintro e w2 ⟨rfl, hg2⟩)
            go_ret
            exact ⟨by rw [← HQ2.out]; rfl, (hG.trans hg1).trans hg2⟩
          | false =>
            go_wp2_with (go_at_call 38; refine (HD.out _ (Grown.refl _)).mono ?_; rintro e w1 ⟨rfl, hg1⟩)
            go_wp2_with (go_at_call 39; refine (HC.out _ (hG.trans hg1)).mono ?_; rintro e w2 ⟨rfl, hg2⟩)
            go_ret
            exact ⟨by rw [← HQ2.out]; rfl, (hG.trans hg1).trans hg2⟩
      · as_aux_lemma =>
          have HD : Hid (∀ W, Grown wr W → Calls Tryd.prog 38 #[gv, .int .i64 k] W fun e w' => e = .returned (.tuple #[.int .i64 0, .bool false]) ∧ Grown W w') := fun W hW => HU.out.non k (by omega) (by omega) W (hG.trans hW)
          rw [List.drop_eq_nil_of_le (by omega)] at hQ
          have hQ2 : true = R := by rw [← hQ]; cases al <;> rfl
          have HQ2 := Hid.mk' hQ2
          clear hQ hu hQ2
          cases al with
          | true =>
            go_wp2_with (go_at_call 38; refine (HD.out _ (Grown.refl _)).mono ?_; rintro e w1 ⟨rfl, hg1⟩)
            go_wp2_with (go_at_call 39; refine (HC.out _ (hG.trans hg1)).mono ?_; rintro e w2 ⟨rfl, hg2⟩)
            go_ret
            exact ⟨by rw [← HQ2.out]; rfl, (hG.trans hg1).trans hg2⟩
          | false =>
            go_wp2_with (go_at_call 38; refine (HD.out _ (Grown.refl _)).mono ?_; rintro e w1 ⟨rfl, hg1⟩)
            go_wp2_with (go_at_call 39; refine (HC.out _ (hG.trans hg1)).mono ?_; rintro e w2 ⟨rfl, hg2⟩)
            go_ret
            exact ⟨by rw [← HQ2.out]; rfl, (hG.trans hg1).trans hg2⟩
end Go.Proofs
