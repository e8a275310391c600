/-
  SetOf: the law walked.
-/
import Derived.RangeFuncNested
import Derived.RangeFuncBound
import Derived.RangeFuncCalls
import Derived.RangeFuncLeaves
import Derived.Shelf.Abstract
import Derived.Shelf.RegionOpen
import Derived.WalkKit
import Derived.WalkSpells
import Derived.WalkLawsBesides
import Derived.OwnWalkIn
import Derived.TacticsInMore
import Derived.LoopNIn
import Derived.LoopIn
import Derived.BigQuiet
import Derived.RegionIn
import Derived.Deep.QuietTactic
import Derived.Deep.RegionWith
import Derived.Lib.OthersKept
import Derived.Maps.AppendAt
import Derived.Maps.OwnIn
import Derived.Lib.SmallJoins
import Derived.Deep.DeepCutAuto
import Derived.Test.YtmgkolelcflcbaaDoorO0
namespace Go.Proofs
open Go.RowKit Go.Shelf

set_option maxRecDepth 100000
attribute [local go_sem] Oper.semAt_some
attribute [local go_sem ↓] Go.wp_at_zero Go.wp_at_succ
set_option maxHeartbeats 8000000 in
theorem ofLaw_any (va vb : Value) (l b : List (Int × Int)) (w : World) (hT : Tab w) (ha : Rs w va l) (hb : Rs w vb b) (hla : 3 * l.length < 8796093022208) (hlb : 3 * b.length < 8796093022208) :
    Calls Tryd.prog 3 #[va, vb] w fun e w' => e = .returned (.bool true) ∧ Below w.heap.size w w' := by
  have HT : Hid (Tab w) := hT
  have HRa : Hid (Rs w va l ∧ 3 * l.length < 8796093022208) := ⟨ha, hla⟩
  have HRb : Hid (Rs w vb b ∧ 3 * b.length < 8796093022208) := ⟨hb, hlb⟩
  obtain ⟨A, ca, rfl, _, _⟩ := ha
  obtain ⟨B, cb, rfl, _, _⟩ := hb
  clear hT hla hlb
  obtain ⟨n, hna⟩ : ∃ n, l.length = n := ⟨_, rfl⟩
  obtain ⟨m, hnb⟩ : ∃ n, b.length = n := ⟨_, rfl⟩
  have HNa : Hid (l.length = n) := hna
  have HNb : Hid (b.length = m) := hnb
  rw [hna] at HRa ⊢
  rw [hnb] at HRb ⊢
  clear hna hnb
  have hn3 : 3 * n < 8796093022208 := HRa.out.2
  go_enter Tryd.func3, Tryd.ntmps3
  go_wp2_with fail
  refine (shown_any w HT.out).mono ?_
  rintro e w1 ⟨rfl, hb1⟩
  have HS := Hid.mk2 (SJ.start hb1)
  clear hb1
  obtain ⟨w2, hw2⟩ : ∃ w2, w1.alloc (.cells #[.slice none 0 0, .slice none 0 0, .int .i64 0] 27) = w2 := ⟨_, rfl⟩
  rw [hw2] at HS
  have HL1 : Hid (Calls Tryd.prog 9 #[.slice A n ca] w2 fun e w' => e = .returned (.slice (some ⟨w2.heap.size, 0, none⟩) (n + 1) (n + 1)) ∧ OwnR w' w2.heap.size (.slice (some ⟨w2.heap.size, 0, none⟩) (n + 1) (n + 1)) (l ++ [(-77, -77)]) ∧ Below w2.heap.size w2 w') := by
    have := lent_any (.slice A n ca) l w2 (HRa.out.1.below HS.out.bel (Nat.le_refl _)) (by rw [HNa.out]; omega)
    rw [HNa.out] at this
    exact this
  go_wp2_with fail
  clear hw2
  refine HL1.out.mono ?_
  rintro e w3 ⟨rfl, hO3, hB3⟩
  have HS3 := Hid.mk2 (HS.out.more hB3 hO3.toS)
  obtain ⟨gx, hgx⟩ : ∃ g, w2.heap.size = g := ⟨_, rfl⟩
  rw [hgx] at HS3 ⊢
  clear hO3 hB3 HL1 HS hgx
  obtain ⟨xs, hxs⟩ : ∃ xs : List (Value × List (Int × Int)), xs = [(.slice (some ⟨gx, 0, none⟩) (n + 1) (n + 1), l ++ [(-77, -77)])] := ⟨_, rfl⟩
  have HXS := Hid.mk2 hxs
  rw [← hxs] at HS3
  have HX : Hid ((∀ W k, SJ w w1.heap.size w1.heap.size xs k W → Rs W (.slice (some ⟨gx, 0, none⟩) n (n + 1)) l) ∧ (∀ W, Below w.heap.size w W → Rs W (.slice B m cb) b) ∧ (∀ W, Below w.heap.size w W → Tab W) ∧ (∀ W, Below w.heap.size w W → Rs W (.slice A n ca) l) ∧ 3 * l.length < 8796093022208 ∧ 3 * b.length < 8796093022208) := by
    refine ⟨fun W k h => h.lent (by rw [hxs]; exact List.mem_singleton.2 rfl) HNa.out, fun W h => HRb.out.1.below h (Nat.le_refl _), fun W h => HT.out.below h HT.out.pos, fun W h => HRa.out.1.below h (Nat.le_refl _), by rw [HNa.out]; exact HRa.out.2, by rw [HNb.out]; exact HRb.out.2⟩
  have HST : Hid (∀ W k, SJ w w1.heap.size w1.heap.size xs k W → Calls Tryd.prog 21 #[.slice (some ⟨gx, 0, none⟩) (n + 1) (n + 1), .slice A n ca] W fun e w' => e = .returned (.bool true) ∧ Grown W w') := fun W k h => by
    have h1 := still_any gx (.slice A n ca) l W (h.own (x := (.slice (some ⟨gx, 0, none⟩) (n + 1) (n + 1), l ++ [(-77, -77)])) (by rw [hxs]; simp)).reads (HRa.out.1.below h.bel (Nat.le_refl _)) (by rw [HNa.out]; omega)
    rw [HNa.out] at h1
    exact h1
  have ha1 : (n : Int) ≤ (n : Int) + 1 := by omega
  have ha0 : (0 : Int) ≤ (n : Int) := by omega
  clear hxs HRa HRb HT HNb
  go_wp2
  go_loopw [8] (fun vi wr => ∃ i : Nat, vi = .int .i64 i ∧ i ≤ 3 ∧ Hid (SJ w w1.heap.size w1.heap.size xs (4 * i) wr)) (fun vi _ => 3 - (intOf vi).toNat)
  case atStart => exact ⟨0, rfl, by omega, HS3⟩
  case round =>
    obtain ⟨i, rfl, hi, HSP⟩ := hrel
    clear HS3
    by_cases hlt : i < 3
    · have h3 : i = 0 ∨ i = 1 ∨ i = 2 := by omega
      rcases h3 with rfl | rfl | rfl
      · as_aux_lemma =>
          go_wp2_with fail
          refine (of_op (.slice (some ⟨gx, 0, none⟩) n (n + 1)) l wr (HX.out.2.2.1 _ HSP.out.bel) (HX.out.1 _ _ HSP.out) HX.out.2.2.2.2.1).mono ?_
          rintro e w5 ⟨v5, l5, n5, rfl, hO, hS, hB⟩
          have HA := Hid.mk2 (And.intro hO (And.intro hS hB))
          have HR : Hid (Rs w5 (.slice (some ⟨gx, 0, none⟩) n (n + 1)) l) := (HX.out.1 _ _ HSP.out).below hB (Nat.le_refl _)
          clear hO hS hB
          go_wp2_with fail
          refine (rof_op (.slice (some ⟨gx, 0, none⟩) n (n + 1)) l w5 HR.out HX.out.2.2.2.2.1).mono ?_
          rintro e w6 ⟨v6, l6, n6, rfl, hO, hS, hB⟩
          obtain ⟨e1, e2⟩ := HA.out.2.1.unique hS
          subst e1
          subst e2
          have HK : Hid (Calls Tryd.prog 12 #[.pointer (some ⟨w1.heap.size, 0, none⟩), v5, v6] w6 fun e w' => e = .returned (.bool true) ∧ SJ w w1.heap.size w1.heap.size xs (4 * 0 + 1) w') := SJ.keep HSP.out (HA.out.2.2.trans (hB.mono HA.out.2.2.size)) (HA.out.1.toS.below hB (Nat.le_refl _)) (hO.toS.le HA.out.2.2.size) HA.out.2.1.len (by omega)
          clear hO hS hB HA HR HSP
          go_wp2_with fail
          refine HK.out.mono ?_
          rintro e w7 ⟨rfl, hS⟩
          have HSP := Hid.mk2 hS
          clear hS HK
          go_wp2_with fail
          refine (any_any w7 (HX.out.2.2.1 _ HSP.out.bel)).mono ?_
          rintro e w8a ⟨v8a, rfl, hO, hB⟩
          have HA := Hid.mk2 (And.intro hO.toS hB)
          clear hO hB
          go_wp2_with fail
          refine (rany_any w8a).mono ?_
          rintro e w8b ⟨v8b, rfl, hO, hB⟩
          have HK : Hid (Calls Tryd.prog 12 #[.pointer (some ⟨w1.heap.size, 0, none⟩), v8a, v8b] w8b fun e w' => e = .returned (.bool true) ∧ SJ w w1.heap.size w1.heap.size xs (4 * 0 + 1 + 1) w') := SJ.keep HSP.out (HA.out.2.trans (hB.mono HA.out.2.size)) (HA.out.1.below hB (Nat.le_refl _)) (hO.toS.le HA.out.2.size) (by decide) (by omega)
          clear hO hB HA HSP
          go_wp2_with fail
          refine HK.out.mono ?_
          rintro e w8c ⟨rfl, hS⟩
          have HSP := Hid.mk2 hS
          clear hS HK
          go_wp2_with fail
          refine (runes_S w8c (HX.out.2.2.1 _ HSP.out.bel)).mono ?_
          rintro e w9a ⟨v9a, rfl, hO, hB⟩
          have HA := Hid.mk2 (And.intro hO hB)
          clear hO hB
          go_wp2_with fail
          refine (rrunes_S w9a).mono ?_
          rintro e w9b ⟨v9b, rfl, hO, hB⟩
          have HK : Hid (Calls Tryd.prog 12 #[.pointer (some ⟨w1.heap.size, 0, none⟩), v9a, v9b] w9b fun e w' => e = .returned (.bool true) ∧ SJ w w1.heap.size w1.heap.size xs (4 * 0 + 2 + 1) w') := SJ.keep HSP.out (HA.out.2.trans (hB.mono HA.out.2.size)) (HA.out.1.below hB (Nat.le_refl _)) (hO.le HA.out.2.size) (by decide) (by omega)
          clear hO hB HA HSP
          go_wp2_with fail
          refine HK.out.mono ?_
          rintro e w9c ⟨rfl, hS⟩
          have HSP := Hid.mk2 hS
          clear hS HK
          go_wp2_with fail
          refine (strays_S w9c (HX.out.2.2.1 _ HSP.out.bel)).mono ?_
          rintro e w10a ⟨v10a, rfl, hO, hB⟩
          have HA := Hid.mk2 (And.intro hO hB)
          clear hO hB
          go_wp2_with fail
          refine (rstrays_S w10a).mono ?_
          rintro e w10b ⟨v10b, rfl, hO, hB⟩
          have HK : Hid (Calls Tryd.prog 12 #[.pointer (some ⟨w1.heap.size, 0, none⟩), v10a, v10b] w10b fun e w' => e = .returned (.bool true) ∧ SJ w w1.heap.size w1.heap.size xs (4 * 0 + 3 + 1) w') := SJ.keep HSP.out (HA.out.2.trans (hB.mono HA.out.2.size)) (HA.out.1.below hB (Nat.le_refl _)) (hO.le HA.out.2.size) (by decide) (by omega)
          clear hO hB HA HSP
          go_wp2_with fail
          refine HK.out.mono ?_
          rintro e w10c ⟨rfl, hS⟩
          have HSP := Hid.mk2 hS
          clear hS HK
          go_wp2_with fail
          refine (valid_any (.slice (some ⟨gx, 0, none⟩) n (n + 1)) l w10c (HX.out.2.2.1 _ HSP.out.bel) (HX.out.1 _ _ HSP.out)).mono ?_
          rintro e wv1 ⟨rfl, hG⟩
          have HR : Hid (Rs wv1 (.slice (some ⟨gx, 0, none⟩) n (n + 1)) l) := (HX.out.1 _ _ HSP.out).below hG.below (Nat.le_refl _)
          have HSP2 := Hid.mk2 (HSP.out.below hG.below)
          clear hG HSP
          go_wp2_with fail
          refine (rvalid_any (.slice (some ⟨gx, 0, none⟩) n (n + 1)) l wv1 HR.out).mono ?_
          rintro e wv2 ⟨rfl, hG⟩
          have HSP := Hid.mk2 (HSP2.out.below hG.below)
          clear hG HSP2 HR
          go_wp2
          exact ⟨⟨1, rfl, by omega, HSP⟩, by simp [intOf]⟩
      · as_aux_lemma =>
          go_wp2_with fail
          refine (of_op (.slice B m cb) b wr (HX.out.2.2.1 _ HSP.out.bel) (HX.out.2.1 _ HSP.out.bel) HX.out.2.2.2.2.2).mono ?_
          rintro e w5 ⟨v5, l5, n5, rfl, hO, hS, hB⟩
          have HA := Hid.mk2 (And.intro hO (And.intro hS hB))
          have HR : Hid (Rs w5 (.slice B m cb) b) := (HX.out.2.1 _ HSP.out.bel).below hB (Nat.le_refl _)
          clear hO hS hB
          go_wp2_with fail
          refine (rof_op (.slice B m cb) b w5 HR.out HX.out.2.2.2.2.2).mono ?_
          rintro e w6 ⟨v6, l6, n6, rfl, hO, hS, hB⟩
          obtain ⟨e1, e2⟩ := HA.out.2.1.unique hS
          subst e1
          subst e2
          have HK : Hid (Calls Tryd.prog 12 #[.pointer (some ⟨w1.heap.size, 0, none⟩), v5, v6] w6 fun e w' => e = .returned (.bool true) ∧ SJ w w1.heap.size w1.heap.size xs (4 * 1 + 1) w') := SJ.keep HSP.out (HA.out.2.2.trans (hB.mono HA.out.2.2.size)) (HA.out.1.toS.below hB (Nat.le_refl _)) (hO.toS.le HA.out.2.2.size) HA.out.2.1.len (by omega)
          clear hO hS hB HA HR HSP
          go_wp2_with fail
          refine HK.out.mono ?_
          rintro e w7 ⟨rfl, hS⟩
          have HSP := Hid.mk2 hS
          clear hS HK
          go_wp2_with fail
          refine (any_any w7 (HX.out.2.2.1 _ HSP.out.bel)).mono ?_
          rintro e w8a ⟨v8a, rfl, hO, hB⟩
          have HA := Hid.mk2 (And.intro hO.toS hB)
          clear hO hB
          go_wp2_with fail
          refine (rany_any w8a).mono ?_
          rintro e w8b ⟨v8b, rfl, hO, hB⟩
          have HK : Hid (Calls Tryd.prog 12 #[.pointer (some ⟨w1.heap.size, 0, none⟩), v8a, v8b] w8b fun e w' => e = .returned (.bool true) ∧ SJ w w1.heap.size w1.heap.size xs (4 * 1 + 1 + 1) w') := SJ.keep HSP.out (HA.out.2.trans (hB.mono HA.out.2.size)) (HA.out.1.below hB (Nat.le_refl _)) (hO.toS.le HA.out.2.size) (by decide) (by omega)
          clear hO hB HA HSP
          go_wp2_with fail
          refine HK.out.mono ?_
          rintro e w8c ⟨rfl, hS⟩
          have HSP := Hid.mk2 hS
          clear hS HK
          go_wp2_with fail
          refine (runes_S w8c (HX.out.2.2.1 _ HSP.out.bel)).mono ?_
          rintro e w9a ⟨v9a, rfl, hO, hB⟩
          have HA := Hid.mk2 (And.intro hO hB)
          clear hO hB
          go_wp2_with fail
          refine (rrunes_S w9a).mono ?_
          rintro e w9b ⟨v9b, rfl, hO, hB⟩
          have HK : Hid (Calls Tryd.prog 12 #[.pointer (some ⟨w1.heap.size, 0, none⟩), v9a, v9b] w9b fun e w' => e = .returned (.bool true) ∧ SJ w w1.heap.size w1.heap.size xs (4 * 1 + 2 + 1) w') := SJ.keep HSP.out (HA.out.2.trans (hB.mono HA.out.2.size)) (HA.out.1.below hB (Nat.le_refl _)) (hO.le HA.out.2.size) (by decide) (by omega)
          clear hO hB HA HSP
          go_wp2_with fail
          refine HK.out.mono ?_
          rintro e w9c ⟨rfl, hS⟩
          have HSP := Hid.mk2 hS
          clear hS HK
          go_wp2_with fail
          refine (strays_S w9c (HX.out.2.2.1 _ HSP.out.bel)).mono ?_
          rintro e w10a ⟨v10a, rfl, hO, hB⟩
          have HA := Hid.mk2 (And.intro hO hB)
          clear hO hB
          go_wp2_with fail
          refine (rstrays_S w10a).mono ?_
          rintro e w10b ⟨v10b, rfl, hO, hB⟩
          have HK : Hid (Calls Tryd.prog 12 #[.pointer (some ⟨w1.heap.size, 0, none⟩), v10a, v10b] w10b fun e w' => e = .returned (.bool true) ∧ SJ w w1.heap.size w1.heap.size xs (4 * 1 + 3 + 1) w') := SJ.keep HSP.out (HA.out.2.trans (hB.mono HA.out.2.size)) (HA.out.1.below hB (Nat.le_refl _)) (hO.le HA.out.2.size) (by decide) (by omega)
          clear hO hB HA HSP
          go_wp2_with fail
          refine HK.out.mono ?_
          rintro e w10c ⟨rfl, hS⟩
          have HSP := Hid.mk2 hS
          clear hS HK
          go_wp2_with fail
          refine (valid_any (.slice B m cb) b w10c (HX.out.2.2.1 _ HSP.out.bel) (HX.out.2.1 _ HSP.out.bel)).mono ?_
          rintro e wv1 ⟨rfl, hG⟩
          have HR : Hid (Rs wv1 (.slice B m cb) b) := (HX.out.2.1 _ HSP.out.bel).below hG.below (Nat.le_refl _)
          have HSP2 := Hid.mk2 (HSP.out.below hG.below)
          clear hG HSP
          go_wp2_with fail
          refine (rvalid_any (.slice B m cb) b wv1 HR.out).mono ?_
          rintro e wv2 ⟨rfl, hG⟩
          have HSP := Hid.mk2 (HSP2.out.below hG.below)
          clear hG HSP2 HR
          go_wp2
          exact ⟨⟨2, rfl, by omega, HSP⟩, by simp [intOf]⟩
      · as_aux_lemma =>
          go_wp2_with fail
          refine (of_op (.slice (some ⟨gx, 0, none⟩) n (n + 1)) l wr (HX.out.2.2.1 _ HSP.out.bel) (HX.out.1 _ _ HSP.out) HX.out.2.2.2.2.1).mono ?_
          rintro e w5 ⟨v5, l5, n5, rfl, hO, hS, hB⟩
          have HA := Hid.mk2 (And.intro hO (And.intro hS hB))
          have HR : Hid (Rs w5 (.slice (some ⟨gx, 0, none⟩) n (n + 1)) l) := (HX.out.1 _ _ HSP.out).below hB (Nat.le_refl _)
          clear hO hS hB
          go_wp2_with fail
          refine (rof_op (.slice (some ⟨gx, 0, none⟩) n (n + 1)) l w5 HR.out HX.out.2.2.2.2.1).mono ?_
          rintro e w6 ⟨v6, l6, n6, rfl, hO, hS, hB⟩
          obtain ⟨e1, e2⟩ := HA.out.2.1.unique hS
          subst e1
          subst e2
          have HK : Hid (Calls Tryd.prog 12 #[.pointer (some ⟨w1.heap.size, 0, none⟩), v5, v6] w6 fun e w' => e = .returned (.bool true) ∧ SJ w w1.heap.size w1.heap.size xs (4 * 2 + 1) w') := SJ.keep HSP.out (HA.out.2.2.trans (hB.mono HA.out.2.2.size)) (HA.out.1.toS.below hB (Nat.le_refl _)) (hO.toS.le HA.out.2.2.size) HA.out.2.1.len (by omega)
          clear hO hS hB HA HR HSP
          go_wp2_with fail
          refine HK.out.mono ?_
          rintro e w7 ⟨rfl, hS⟩
          have HSP := Hid.mk2 hS
          clear hS HK
          go_wp2_with fail
          refine (any_any w7 (HX.out.2.2.1 _ HSP.out.bel)).mono ?_
          rintro e w8a ⟨v8a, rfl, hO, hB⟩
          have HA := Hid.mk2 (And.intro hO.toS hB)
          clear hO hB
          go_wp2_with fail
          refine (rany_any w8a).mono ?_
          rintro e w8b ⟨v8b, rfl, hO, hB⟩
          have HK : Hid (Calls Tryd.prog 12 #[.pointer (some ⟨w1.heap.size, 0, none⟩), v8a, v8b] w8b fun e w' => e = .returned (.bool true) ∧ SJ w w1.heap.size w1.heap.size xs (4 * 2 + 1 + 1) w') := SJ.keep HSP.out (HA.out.2.trans (hB.mono HA.out.2.size)) (HA.out.1.below hB (Nat.le_refl _)) (hO.toS.le HA.out.2.size) (by decide) (by omega)
          clear hO hB HA HSP
          go_wp2_with fail
          refine HK.out.mono ?_
          rintro e w8c ⟨rfl, hS⟩
          have HSP := Hid.mk2 hS
          clear hS HK
          go_wp2_with fail
          refine (runes_S w8c (HX.out.2.2.1 _ HSP.out.bel)).mono ?_
          rintro e w9a ⟨v9a, rfl, hO, hB⟩
          have HA := Hid.mk2 (And.intro hO hB)
          clear hO hB
          go_wp2_with fail
          refine (rrunes_S w9a).mono ?_
          rintro e w9b ⟨v9b, rfl, hO, hB⟩
          have HK : Hid (Calls Tryd.prog 12 #[.pointer (some ⟨w1.heap.size, 0, none⟩), v9a, v9b] w9b fun e w' => e = .returned (.bool true) ∧ SJ w w1.heap.size w1.heap.size xs (4 * 2 + 2 + 1) w') := SJ.keep HSP.out (HA.out.2.trans (hB.mono HA.out.2.size)) (HA.out.1.below hB (Nat.le_refl _)) (hO.le HA.out.2.size) (by decide) (by omega)
          clear hO hB HA HSP
          go_wp2_with fail
          refine HK.out.mono ?_
          rintro e w9c ⟨rfl, hS⟩
          have HSP := Hid.mk2 hS
          clear hS HK
          go_wp2_with fail
          refine (strays_S w9c (HX.out.2.2.1 _ HSP.out.bel)).mono ?_
          rintro e w10a ⟨v10a, rfl, hO, hB⟩
          have HA := Hid.mk2 (And.intro hO hB)
          clear hO hB
          go_wp2_with fail
          refine (rstrays_S w10a).mono ?_
          rintro e w10b ⟨v10b, rfl, hO, hB⟩
          have HK : Hid (Calls Tryd.prog 12 #[.pointer (some ⟨w1.heap.size, 0, none⟩), v10a, v10b] w10b fun e w' => e = .returned (.bool true) ∧ SJ w w1.heap.size w1.heap.size xs (4 * 2 + 3 + 1) w') := SJ.keep HSP.out (HA.out.2.trans (hB.mono HA.out.2.size)) (HA.out.1.below hB (Nat.le_refl _)) (hO.le HA.out.2.size) (by decide) (by omega)
          clear hO hB HA HSP
          go_wp2_with fail
          refine HK.out.mono ?_
          rintro e w10c ⟨rfl, hS⟩
          have HSP := Hid.mk2 hS
          clear hS HK
          go_wp2_with fail
          refine (valid_any (.slice (some ⟨gx, 0, none⟩) n (n + 1)) l w10c (HX.out.2.2.1 _ HSP.out.bel) (HX.out.1 _ _ HSP.out)).mono ?_
          rintro e wv1 ⟨rfl, hG⟩
          have HR : Hid (Rs wv1 (.slice (some ⟨gx, 0, none⟩) n (n + 1)) l) := (HX.out.1 _ _ HSP.out).below hG.below (Nat.le_refl _)
          have HSP2 := Hid.mk2 (HSP.out.below hG.below)
          clear hG HSP
          go_wp2_with fail
          refine (rvalid_any (.slice (some ⟨gx, 0, none⟩) n (n + 1)) l wv1 HR.out).mono ?_
          rintro e wv2 ⟨rfl, hG⟩
          have HSP := Hid.mk2 (HSP2.out.below hG.below)
          clear hG HSP2 HR
          go_wp2
          exact ⟨⟨3, rfl, by omega, HSP⟩, by simp [intOf]⟩
    · obtain rfl : i = 3 := by omega
      clear hlt hi
      go_wp2_with fail
      refine (HST.out _ _ HSP.out).mono ?_
      rintro e w5 ⟨rfl, hG⟩
      have HSP5 : Hid (SJ w w1.heap.size w1.heap.size [(.slice (some ⟨gx, 0, none⟩) (n + 1) (n + 1), trn l 0 ++ [(-77, -77)])] 12 w5) := by
        have := HSP.out.below hG.below
        rw [HXS.out] at this
        rw [show trn l 0 = l by simp [trn]]
        exact this
      clear hG HSP HST HXS
      go_wp2
      go_loopw [19] (fun vi wr => ∃ k : Nat, vi = .int .i64 k ∧ k ≤ n ∧ Hid (SJ w w1.heap.size w1.heap.size [(.slice (some ⟨gx, 0, none⟩) (n + 1) (n + 1), trn l k ++ [(-77, -77)])] 12 wr)) (fun vi _ => n - (intOf vi).toNat)
      case atStart => exact ⟨0, rfl, by omega, HSP5⟩
      case round =>
        obtain ⟨k, rfl, hk, HSP⟩ := hrel
        clear HSP5
        have hkp : (0 : Int) ≤ (k : Int) := by omega
        by_cases hkn : k < n
        · as_aux_lemma =>
            have hkn' : (k : Int) < (n : Int) := by omega
            have hkn1 : (k : Int) < (n : Int) + 1 := by omega
            have hkl : k < l.length := by rw [HNa.out]; exact hkn
            have hkl2 : k < (trn l k ++ [((-77 : Int), (-77 : Int))]).length := by rw [List.length_append, trn_len]; simp; omega
            have hat : rg (trn l k ++ [((-77 : Int), (-77 : Int))]) k = rg l k := by rw [rg_left (by rw [trn_len]; exact hkl), trn_at hkl]
            have hO := HSP.out.own (x := (.slice (some ⟨gx, 0, none⟩) (n + 1) (n + 1), trn l k ++ [(-77, -77)])) (by simp)
            have hc := (hO.reads k hkl2).1
            rw [hat, Nat.zero_add] at hc
            obtain ⟨cur, q1, q2⟩ := hO.two hkl2
            obtain ⟨⟨y1, c1⟩, f1⟩ := blk_cellB q1 (k := k * 2 + 1) (by omega)
            have HN : Hid (SJ w w1.heap.size w1.heap.size [(.slice (some ⟨gx, 0, none⟩) (n + 1) (n + 1), trn l (k + 1) ++ [(-77, -77)])] 12 (wr.setCell ⟨gx, k * 2 + 1, none⟩ (.int .i64 (rg l k).1))) := by
              have := HSP.out.turn hkl2 (rg l k).1
              rw [hat, List.set_append_left _ _ (by rw [trn_len]; exact hkl), ← trn_step hkl] at this
              exact this
            generalize (rg l k).1 = z at hc HN
            clear hat hO q1 q2 HSP hkl hkl2
            go_wp2
            exact ⟨⟨k + 1, by go_num, by omega, HN⟩, by simp [intOf]; omega⟩
        · as_aux_lemma =>
            obtain rfl : k = n := by omega
            have hge : ¬ (k : Int) < (k : Int) := by omega
            obtain ⟨t, ht⟩ : ∃ t, trn l k = t := ⟨_, rfl⟩
            have HTL : Hid (t.length = k) := by rw [← ht]; exact (trn_len l k).trans HNa.out
            rw [ht] at HSP
            have hR0 : Rs (wr.alloc (.cells #[] 38)) (.slice (some ⟨gx, 0, none⟩) k (k + 1)) t := (HSP.out.lent (l := t) (List.mem_singleton.2 rfl) HTL.out).below ((Below.refl _ wr).alloc (Nat.le_refl _) _) (Nat.le_refl _)
            have hO0 : OwnR (wr.alloc (.cells #[] 38)) wr.heap.size (.slice (some ⟨wr.heap.size, 0, none⟩) 0 0) [] := World.ownsRow_lit (e := 38) (size := 2) wr #[] 0 (Nat.le_refl _) (by unfold maxLen; omega) rfl
            have hz0 : wr.heap.size ≤ (wr.alloc (.cells #[] 38)).heap.size := by rw [World.size_alloc]; omega
            have hln : ([] : List (Int × Int)).length + t.length ≤ 8796093022208 := by have := HTL.out; simp; omega
            clear ht hkn hk
            go_upto_region 26 with (at_builtin; go_must (refine app_copy22 rfl _ _ rfl wr.heap.size _ _ [] t rfl hO0 rfl hR0 hln hz0 ?_; intro v4 w4 hO4 hB4))
            have hB : Below wr.heap.size wr w4 := ((Below.refl _ wr).alloc (Nat.le_refl _) _).trans hB4
            rw [List.nil_append] at hO4
            have HSP4 := Hid.mk2 (HSP.out.below hB)
            have HR4 : Hid (Rs w4 v4 t) := hO4.rs
            clear hO4 hB4 hB hR0 hO0 hz0 HSP
            have hl3 : 3 * t.length < 8796093022208 := by have := HTL.out; omega
            go_wp2_with fail
            refine (of_op (.slice (some ⟨gx, 0, none⟩) k (k + 1)) t w4 (HX.out.2.2.1 _ HSP4.out.bel) (HSP4.out.lent (l := t) (List.mem_singleton.2 rfl) HTL.out) hl3).mono ?_
            rintro e w5 ⟨v5, l5, n5, rfl, hO, hS, hB⟩
            have HA := Hid.mk2 (And.intro hO (And.intro hS hB))
            have HR : Hid (Rs w5 v4 t) := HR4.out.below hB (Nat.le_refl _)
            clear hO hS hB
            go_wp2_with fail
            refine (rof_op v4 t w5 HR.out hl3).mono ?_
            rintro e w6 ⟨v6, l6, n6, rfl, hO, hS, hB⟩
            obtain ⟨e1, e2⟩ := HA.out.2.1.unique hS
            subst e1
            subst e2
            have HK : Hid (Calls Tryd.prog 12 #[.pointer (some ⟨w1.heap.size, 0, none⟩), v5, v6] w6 fun e w' => e = .returned (.bool true) ∧ SJ w w1.heap.size w1.heap.size [(.slice (some ⟨gx, 0, none⟩) (k + 1) (k + 1), t ++ [(-77, -77)])] (12 + 1) w') := SJ.keep HSP4.out (HA.out.2.2.trans (hB.mono HA.out.2.2.size)) (HA.out.1.toS.below hB (Nat.le_refl _)) (hO.toS.le HA.out.2.2.size) HA.out.2.1.len (by omega)
            clear hO hS hB HA HR HSP4 HR4
            go_wp2_with fail
            refine HK.out.mono ?_
            rintro e w7 ⟨rfl, hS⟩
            have HSP7 := Hid.mk2 hS
            clear hS HK
            go_wp2_with fail
            refine (HSP7.out.spoil (by omega)).mono ?_
            rintro e w8 ⟨rfl, hB⟩
            have HBB := Hid.mk2 hB
            clear hB HSP7
            go_wp2
            go_ret
            exact ⟨rfl, HBB.out⟩
end Go.Proofs
