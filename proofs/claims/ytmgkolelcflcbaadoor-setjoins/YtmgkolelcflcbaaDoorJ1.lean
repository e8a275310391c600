/-
  SetJoins: the law walked.
-/
import Derived.RangeFuncNested
import Derived.RangeFuncBound
import Derived.RangeFuncCalls
import Derived.RangeFuncLeaves
import Derived.Shelf.Abstract
import Derived.Shelf.RegionOpen
import Derived.WalkKit
import Derived.WalkSpells
import Derived.WalkLawsBesides
import Derived.OwnWalkIn
import Derived.TacticsInMore
import Derived.LoopNIn
import Derived.LoopIn
import Derived.BigQuiet
import Derived.RegionIn
import Derived.Deep.QuietTactic
import Derived.Deep.RegionWith
import Derived.Lib.OthersKept
import Derived.Maps.AppendAt
import Derived.Maps.OwnIn
import Derived.Lib.SmallJoins
import Derived.Deep.DeepCutAuto
import Derived.Test.YtmgkolelcflcbaaDoorJ0
namespace Go.Proofs
open Go.RowKit Go.Shelf

set_option maxRecDepth 100000
attribute [local go_sem] Oper.semAt_some
attribute [local go_sem ↓] Go.wp_at_zero Go.wp_at_succ
set_option maxHeartbeats 8000000 in
theorem joinsLaw_any (va vb : Value) (a b : List (Int × Int)) (w : World) (hT : Tab w) (ha : Rs w va a) (hb : Rs w vb b) (hla : a.length ≤ 8796093022207) (hlb : b.length ≤ 8796093022207) :
    Calls Tryd.prog 5 #[va, vb] w fun e w' => e = .returned (.bool true) ∧ Below w.heap.size w w' := by
  have HT : Hid (Tab w) := hT
  have HRa : Hid (Rs w va a ∧ a.length ≤ 8796093022207) := ⟨ha, hla⟩
  have HRb : Hid (Rs w vb b ∧ b.length ≤ 8796093022207) := ⟨hb, hlb⟩
  obtain ⟨A, ca, rfl, _, _⟩ := ha
  obtain ⟨B, cb, rfl, _, _⟩ := hb
  clear hT hla hlb
  obtain ⟨na, hna⟩ : ∃ n, a.length = n := ⟨_, rfl⟩
  obtain ⟨nb, hnb⟩ : ∃ n, b.length = n := ⟨_, rfl⟩
  have HNa : Hid (a.length = na) := hna
  have HNb : Hid (b.length = nb) := hnb
  rw [hna] at HRa ⊢
  rw [hnb] at HRb ⊢
  clear hna hnb
  go_enter Tryd.func5, Tryd.ntmps5
  go_wp2_with fail
  refine (shown_any w HT.out).mono ?_
  rintro e w1 ⟨rfl, hb1⟩
  have HS := Hid.mk2 (SJ.start hb1)
  have HB1 := Hid.mk2 hb1
  clear hb1
  obtain ⟨w2, hw2⟩ : ∃ w2, w1.alloc (.cells #[.slice none 0 0, .slice none 0 0, .int .i64 0] 27) = w2 := ⟨_, rfl⟩
  rw [hw2] at HS
  have HL1 : Hid (Calls Tryd.prog 9 #[.slice A na ca] w2 fun e w' => e = .returned (.slice (some ⟨w2.heap.size, 0, none⟩) (na + 1) (na + 1)) ∧ OwnR w' w2.heap.size (.slice (some ⟨w2.heap.size, 0, none⟩) (na + 1) (na + 1)) (a ++ [(-77, -77)]) ∧ Below w2.heap.size w2 w') := by
    have := lent_any (.slice A na ca) a w2 (HRa.out.1.below HS.out.bel (Nat.le_refl _)) (by rw [HNa.out]; exact HRa.out.2)
    rw [HNa.out] at this
    exact this
  go_wp2_with fail
  clear hw2
  refine HL1.out.mono ?_
  rintro e w3 ⟨rfl, hO3, hB3⟩
  have HS3 := Hid.mk2 (HS.out.more hB3 hO3.toS)
  obtain ⟨gx, hgx⟩ : ∃ g, w2.heap.size = g := ⟨_, rfl⟩
  rw [hgx] at HS3 ⊢
  clear hO3 hB3 HL1 HS hgx
  have HL2 : Hid (Calls Tryd.prog 9 #[.slice B nb cb] w3 fun e w' => e = .returned (.slice (some ⟨w3.heap.size, 0, none⟩) (nb + 1) (nb + 1)) ∧ OwnR w' w3.heap.size (.slice (some ⟨w3.heap.size, 0, none⟩) (nb + 1) (nb + 1)) (b ++ [(-77, -77)]) ∧ Below w3.heap.size w3 w') := by
    have := lent_any (.slice B nb cb) b w3 (HRb.out.1.below HS3.out.bel (Nat.le_refl _)) (by rw [HNb.out]; exact HRb.out.2)
    rw [HNb.out] at this
    exact this
  go_wp2_with fail
  refine HL2.out.mono ?_
  rintro e w4 ⟨rfl, hO4, hB4⟩
  have HS4 := Hid.mk2 (HS3.out.more hB4 hO4.toS)
  obtain ⟨gy, hgy⟩ : ∃ g, w3.heap.size = g := ⟨_, rfl⟩
  rw [hgy] at HS4 ⊢
  clear hO4 hB4 HL2 HS3 hgy
  obtain ⟨xs, hxs⟩ : ∃ xs : List (Value × List (Int × Int)), xs = [(.slice (some ⟨gy, 0, none⟩) (nb + 1) (nb + 1), b ++ [(-77, -77)]), (.slice (some ⟨gx, 0, none⟩) (na + 1) (na + 1), a ++ [(-77, -77)])] := ⟨_, rfl⟩
  rw [← hxs] at HS4
  have HX : Hid ((∀ W k, SJ w w1.heap.size w1.heap.size xs k W → Rs W (.slice (some ⟨gx, 0, none⟩) na (na + 1)) a) ∧ (∀ W k, SJ w w1.heap.size w1.heap.size xs k W → Rs W (.slice (some ⟨gy, 0, none⟩) nb (nb + 1)) b) ∧ (∀ W, Below w.heap.size w W → Rs W (.slice A na ca) a) ∧ (∀ W, Below w.heap.size w W → Rs W (.slice B nb cb) b) ∧ ∀ W, Below w.heap.size w W → Tab W) := by
    refine ⟨fun W k h => h.lent (by rw [hxs]; simp; exact .inr rfl) HNa.out, fun W k h => h.lent (by rw [hxs]; simp; exact .inl rfl) HNb.out, fun W h => HRa.out.1.below h (Nat.le_refl _), fun W h => HRb.out.1.below h (Nat.le_refl _), fun W h => HT.out.below h HT.out.pos⟩
  have HST : Hid (∀ W k, SJ w w1.heap.size w1.heap.size xs k W → (Calls Tryd.prog 21 #[.slice (some ⟨gx, 0, none⟩) (na + 1) (na + 1), .slice A na ca] W fun e w' => e = .returned (.bool true) ∧ Grown W w') ∧ (Calls Tryd.prog 21 #[.slice (some ⟨gy, 0, none⟩) (nb + 1) (nb + 1), .slice B nb cb] W fun e w' => e = .returned (.bool true) ∧ Grown W w')) := fun W k h => by
    have h1 := still_any gx (.slice A na ca) a W (h.own (x := (.slice (some ⟨gx, 0, none⟩) (na + 1) (na + 1), a ++ [(-77, -77)])) (by rw [hxs]; simp)).reads (HRa.out.1.below h.bel (Nat.le_refl _)) (by rw [HNa.out]; exact HRa.out.2)
    have h2 := still_any gy (.slice B nb cb) b W (h.own (x := (.slice (some ⟨gy, 0, none⟩) (nb + 1) (nb + 1), b ++ [(-77, -77)])) (by rw [hxs]; simp)).reads (HRb.out.1.below h.bel (Nat.le_refl _)) (by rw [HNb.out]; exact HRb.out.2)
    rw [HNa.out] at h1
    rw [HNb.out] at h2
    exact ⟨h1, h2⟩
  have ha1 : (na : Int) ≤ (na : Int) + 1 := by omega
  have ha0 : (0 : Int) ≤ (na : Int) := by omega
  have hb1 : (nb : Int) ≤ (nb : Int) + 1 := by omega
  have hb0 : (0 : Int) ≤ (nb : Int) := by omega
  clear hxs HRa HRb HT HNa HNb HB1
  go_wp2
  go_loopw [9] (fun vi wr => ∃ i : Nat, vi = .int .i64 i ∧ i ≤ 2 ∧ Hid (SJ w w1.heap.size w1.heap.size xs (4 * i) wr)) (fun vi _ => 2 - (intOf vi).toNat)
  case atStart => exact ⟨0, rfl, by omega, HS4⟩
  case round =>
    obtain ⟨i, rfl, hi, HSP⟩ := hrel
    clear HS4
    by_cases hlt : i < 2
    · as_aux_lemma =>
        have hlt' : (i : Int) < 2 := by omega
        go_wp2_with fail
        refine (join_op (.slice (some ⟨gx, 0, none⟩) na (na + 1)) (.slice (some ⟨gy, 0, none⟩) nb (nb + 1)) a b wr (HX.out.2.2.2.2 _ HSP.out.bel) (HX.out.1 _ _ HSP.out) (HX.out.2.1 _ _ HSP.out)).mono ?_
        rintro e w01 ⟨v01, l0, n0, rfl, hO, hS, hB⟩
        have HA := Hid.mk2 (And.intro hO (And.intro hS hB))
        have HBb : Hid (Below w.heap.size w w01) := HSP.out.bel.trans (hB.mono HSP.out.bel.size)
        clear hO hS hB
        go_wp2_with fail
        refine (rjoin_op (.slice A na ca) (.slice B nb cb) a b w01 (HX.out.2.2.1 _ HBb.out) (HX.out.2.2.2.1 _ HBb.out)).mono ?_
        rintro e w02 ⟨v02, m0, k0, rfl, hO, hS, hB⟩
        obtain ⟨e1, e2⟩ := HA.out.2.1.unique hS
        subst e1
        subst e2
        have HK : Hid (Calls Tryd.prog 12 #[.pointer (some ⟨w1.heap.size, 0, none⟩), v01, v02] w02 fun e w' => e = .returned (.bool true) ∧ SJ w w1.heap.size w1.heap.size xs (4 * i + 0 + 1) w') := SJ.keep HSP.out (HA.out.2.2.trans (hB.mono HA.out.2.2.size)) (HA.out.1.toS.below hB (Nat.le_refl _)) (hO.toS.le HA.out.2.2.size) HA.out.2.1.len (by omega)
        clear hO hS hB HA HBb HSP
        go_wp2_with fail
        refine HK.out.mono ?_
        rintro e w03 ⟨rfl, hS⟩
        have HSP := Hid.mk2 hS
        clear hS HK
        go_wp2_with fail
        refine (meet_op (.slice (some ⟨gx, 0, none⟩) na (na + 1)) (.slice (some ⟨gy, 0, none⟩) nb (nb + 1)) a b w03 (HX.out.2.2.2.2 _ HSP.out.bel) (HX.out.1 _ _ HSP.out) (HX.out.2.1 _ _ HSP.out)).mono ?_
        rintro e w11 ⟨v11, l1, n1, rfl, hO, hS, hB⟩
        have HA := Hid.mk2 (And.intro hO (And.intro hS hB))
        have HBb : Hid (Below w.heap.size w w11) := HSP.out.bel.trans (hB.mono HSP.out.bel.size)
        clear hO hS hB
        go_wp2_with fail
        refine (rmeet_op (.slice A na ca) (.slice B nb cb) a b w11 (HX.out.2.2.1 _ HBb.out) (HX.out.2.2.2.1 _ HBb.out)).mono ?_
        rintro e w12 ⟨v12, m1, k1, rfl, hO, hS, hB⟩
        obtain ⟨e1, e2⟩ := HA.out.2.1.unique hS
        subst e1
        subst e2
        have HK : Hid (Calls Tryd.prog 12 #[.pointer (some ⟨w1.heap.size, 0, none⟩), v11, v12] w12 fun e w' => e = .returned (.bool true) ∧ SJ w w1.heap.size w1.heap.size xs (4 * i + 1 + 1) w') := SJ.keep HSP.out (HA.out.2.2.trans (hB.mono HA.out.2.2.size)) (HA.out.1.toS.below hB (Nat.le_refl _)) (hO.toS.le HA.out.2.2.size) HA.out.2.1.len (by omega)
        clear hO hS hB HA HBb HSP
        go_wp2_with fail
        refine HK.out.mono ?_
        rintro e w13 ⟨rfl, hS⟩
        have HSP := Hid.mk2 hS
        clear hS HK
        go_wp2_with fail
        refine (less_op (.slice (some ⟨gx, 0, none⟩) na (na + 1)) (.slice (some ⟨gy, 0, none⟩) nb (nb + 1)) a b w13 (HX.out.2.2.2.2 _ HSP.out.bel) (HX.out.1 _ _ HSP.out) (HX.out.2.1 _ _ HSP.out)).mono ?_
        rintro e w21 ⟨v21, l2, n2, rfl, hO, hS, hB⟩
        have HA := Hid.mk2 (And.intro hO (And.intro hS hB))
        have HBb : Hid (Below w.heap.size w w21) := HSP.out.bel.trans (hB.mono HSP.out.bel.size)
        clear hO hS hB
        go_wp2_with fail
        refine (rless_op (.slice A na ca) (.slice B nb cb) a b w21 (HX.out.2.2.1 _ HBb.out) (HX.out.2.2.2.1 _ HBb.out)).mono ?_
        rintro e w22 ⟨v22, m2, k2, rfl, hO, hS, hB⟩
        obtain ⟨e1, e2⟩ := HA.out.2.1.unique hS
        subst e1
        subst e2
        have HK : Hid (Calls Tryd.prog 12 #[.pointer (some ⟨w1.heap.size, 0, none⟩), v21, v22] w22 fun e w' => e = .returned (.bool true) ∧ SJ w w1.heap.size w1.heap.size xs (4 * i + 2 + 1) w') := SJ.keep HSP.out (HA.out.2.2.trans (hB.mono HA.out.2.2.size)) (HA.out.1.toS.below hB (Nat.le_refl _)) (hO.toS.le HA.out.2.2.size) HA.out.2.1.len (by omega)
        clear hO hS hB HA HBb HSP
        go_wp2_with fail
        refine HK.out.mono ?_
        rintro e w23 ⟨rfl, hS⟩
        have HSP := Hid.mk2 hS
        clear hS HK
        go_wp2_with fail
        refine (other_op (.slice (some ⟨gx, 0, none⟩) na (na + 1)) a w23 (HX.out.2.2.2.2 _ HSP.out.bel) (HX.out.1 _ _ HSP.out)).mono ?_
        rintro e w31 ⟨v31, l3, n3, rfl, hO, hS, hB⟩
        have HA := Hid.mk2 (And.intro hO (And.intro hS hB))
        have HBb : Hid (Below w.heap.size w w31) := HSP.out.bel.trans (hB.mono HSP.out.bel.size)
        clear hO hS hB
        go_wp2_with fail
        refine (rother_op (.slice A na ca) a w31 (HX.out.2.2.1 _ HBb.out)).mono ?_
        rintro e w32 ⟨v32, m3, k3, rfl, hO, hS, hB⟩
        obtain ⟨e1, e2⟩ := HA.out.2.1.unique hS
        subst e1
        subst e2
        have HK : Hid (Calls Tryd.prog 12 #[.pointer (some ⟨w1.heap.size, 0, none⟩), v31, v32] w32 fun e w' => e = .returned (.bool true) ∧ SJ w w1.heap.size w1.heap.size xs (4 * i + 3 + 1) w') := SJ.keep HSP.out (HA.out.2.2.trans (hB.mono HA.out.2.2.size)) (HA.out.1.toS.below hB (Nat.le_refl _)) (hO.toS.le HA.out.2.2.size) HA.out.2.1.len (by omega)
        clear hO hS hB HA HBb HSP
        go_wp2_with fail
        refine HK.out.mono ?_
        rintro e w33 ⟨rfl, hS⟩
        have HSP := Hid.mk2 hS
        clear hS HK
        go_wp2
        exact ⟨⟨i + 1, by go_num, by omega, by rw [show 4 * (i + 1) = 4 * i + 3 + 1 by omega]; exact HSP⟩, by simp [intOf]; omega⟩
    · as_aux_lemma =>
        have hge : ¬ (i : Int) < 2 := by omega
        obtain rfl : i = 2 := by omega
        go_wp2_with fail
        refine (HST.out _ _ HSP.out).1.mono ?_
        rintro e w5 ⟨rfl, hG⟩
        have HSP5 := Hid.mk2 (HSP.out.below hG.below)
        clear hG HSP
        go_wp2_with fail
        refine (HST.out _ _ HSP5.out).2.mono ?_
        rintro e w6 ⟨rfl, hG⟩
        have HSP6 := Hid.mk2 (HSP5.out.below hG.below)
        clear hG HSP5
        go_wp2_with fail
        refine (HSP6.out.spoil (by omega)).mono ?_
        rintro e w7 ⟨rfl, hB⟩
        have HBB := Hid.mk2 hB
        clear hB HSP6
        go_wp2
        go_ret
        exact ⟨rfl, HBB.out⟩
end Go.Proofs
