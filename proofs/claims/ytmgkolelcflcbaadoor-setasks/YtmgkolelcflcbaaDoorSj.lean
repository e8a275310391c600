/-
  SetAsks, walked.
-/
import Derived.RangeFuncNested
import Derived.RangeFuncBound
import Derived.RangeFuncCalls
import Derived.RangeFuncLeaves
import Derived.Shelf.Abstract
import Derived.Shelf.RegionOpen
import Derived.WalkKit
import Derived.WalkSpells
import Derived.WalkLawsBesides
import Derived.OwnWalkIn
import Derived.TacticsInMore
import Derived.LoopNIn
import Derived.LoopIn
import Derived.BigQuiet
import Derived.RegionIn
import Derived.Deep.QuietTactic
import Derived.Deep.RegionWith
import Derived.Lib.OthersKept
import Derived.Maps.AppendAt
import Derived.Lib.SmallJoins
import Derived.Test.YtmgkolelcflcbaaDoorSi
import Derived.Test.YtmgkolelcflcbaaDoorVj
import Derived.Test.YtmgkolelcflcbaaDoorRc
namespace Go.Proofs
open Go.RowKit Go.Shelf

set_option maxRecDepth 100000
attribute [local go_sem] Oper.semAt_some
/-- a world behind some calls: nothing that lay has turned, the lent list reads as it did -/
def AS (w : World) (g : Nat) (l : List (Int × Int)) (W : World) : Prop := Below w.heap.size w W ∧ Reads W g 0 (l ++ [(-77, -77)])
theorem AS.next {w W W' : World} {g : Nat} {l : List (Int × Int)} (h : AS w g l W) (hb : Below W.heap.size W W') : AS w g l W' :=
  ⟨h.1.trans (hb.mono h.1.size), h.2.below hb (h.2.lt (by simp))⟩
theorem AS.x {w W : World} {g : Nat} {l : List (Int × Int)} (h : AS w g l W) {N : Nat} (hN : l.length = N) : Rs W (.slice (some ⟨g, 0, none⟩) N (N + 1)) l := by
  subst hN; exact lent_rs h.2 _ (by omega)
theorem AS.v {w W : World} {g : Nat} {l : List (Int × Int)} (h : AS w g l W) {v : Value} (hv : Rs w v l) : Rs W v l := hv.below h.1 (Nat.le_refl _)
theorem AS.t {w W : World} {g : Nat} {l : List (Int × Int)} (h : AS w g l W) (hT : Tab w) : Tab W := hT.below h.1 hT.pos
theorem ownI_cell {w : World} {base n c : Nat} {A : Option Addr} {l : List Int} (h : OwnI w base (.slice A n c) l) {j : Nat} (hj : j < l.length) : ∃ g, A = some ⟨g, 0, none⟩ ∧ w.cell? ⟨g, j, none⟩ = some (.int .i64 (l[j])) := by
  rcases h.2 with ⟨e, h0⟩ | ⟨g, cap, cur, e, _⟩
  · cases e; omega
  · cases e
    refine ⟨g, rfl, ?_⟩
    have := h.cells rfl j (.int .i64 (l[j])) (by simp [ints, hj])
    rwa [add_zero_at] at this
set_option maxHeartbeats 2000000 in
theorem asks_few (v : Value) (u n : Int) (l : List (Int × Int)) (w : World) (hT : Tab w) (hv : Rs w v l) (hl : l.length ≤ 8796093022207) (hnm : n ≤ 9223372036854775807) (p : Nat) (hp : ((allS l).take 300).length = p) (h5 : p < 5) (hq : ((allS l).take 5).length = p) :
    Calls Tryd.prog 4 #[v, .int .i64 u, .int .i64 n] w fun e w' => e = .returned (.bool true) ∧ Below w.heap.size w w' := by
  have HT : Hid (Tab w) := hT
  have HV : Hid (Rs w v l) := hv
  obtain ⟨A0, c0, rfl, hc0, _⟩ := hv
  obtain ⟨N, hN⟩ : ∃ N, l.length = N := ⟨_, rfl⟩
  obtain ⟨pa, pb, HP1, HP2⟩ : ∃ pa pb, Hid (∀ W vv, Tab W → Rs W vv l → Calls Tryd.prog 23 #[vv, .int .i64 u] W fun e w' => e = .returned (.tuple #[.int .i64 pa, .bool pb]) ∧ Grown W w') ∧ Hid (∀ W vv, Rs W vv l → Calls Tryd.prog 24 #[vv, .int .i64 u] W fun e w' => e = .returned (.tuple #[.int .i64 pa, .bool pb]) ∧ Grown W w') :=
    ⟨_, _, fun W vv h1 h2 => place_any vv l u W h1 h2, fun W vv h2 => rplace_any vv l u W h2⟩
  obtain ⟨na, nb, HN1, HN2⟩ : ∃ na nb, Hid (∀ W vv, Tab W → Rs W vv l → Calls Tryd.prog 25 #[vv, .int .i64 n] W fun e w' => e = .returned (.tuple #[.int .i64 na, .bool nb]) ∧ Grown W w') ∧ Hid (∀ W vv, Rs W vv l → Calls Tryd.prog 26 #[vv, .int .i64 n] W fun e w' => e = .returned (.tuple #[.int .i64 na, .bool nb]) ∧ Grown W w') :=
    ⟨_, _, fun W vv h1 h2 => nth_any vv l n W h1 h2 hnm, fun W vv h2 => rnth_any vv l n W h2⟩
  obtain ⟨hb0, HH1, HH2⟩ : ∃ hb0, Hid (∀ W vv, Tab W → Rs W vv l → Calls Tryd.prog 29 #[vv, .int .i64 u] W fun e w' => e = .returned (.bool hb0) ∧ Grown W w') ∧ Hid (∀ W vv, Rs W vv l → Calls Tryd.prog 30 #[vv, .int .i64 u] W fun e w' => e = .returned (.bool hb0) ∧ Grown W w') :=
    ⟨_, fun W vv h1 h2 => has_any vv l u W h1 h2, fun W vv h2 => rhas_any vv l u W h2⟩
  obtain ⟨zl, HZ1, HZ2⟩ : ∃ zl, Hid (∀ W vv, Tab W → Rs W vv l → Calls Tryd.prog 31 #[vv] W fun e w' => e = .returned (.int .i64 zl) ∧ Grown W w') ∧ Hid (∀ W vv, Rs W vv l → Calls Tryd.prog 28 #[vv] W fun e w' => e = .returned (.int .i64 zl) ∧ Grown W w') :=
    ⟨_, fun W vv h1 h2 => len_any vv l W h1 h2, fun W vv h2 => rlen_any vv l W h2⟩
  have HN : Hid (l.length = N) := hN
  rw [hN] at hl hc0 HV ⊢
  have HST : Hid (∀ g W, Reads W g 0 (l ++ [(-77, -77)]) → Rs W (.slice A0 N c0) l → Calls Tryd.prog 21 #[.slice (some ⟨g, 0, none⟩) (N + 1) (N + 1), .slice A0 N c0] W fun e w' => e = .returned (.bool true) ∧ Grown W w') := fun g W h1 h2 => by
    have := still_any g (.slice A0 N c0) l W h1 h2 (by rw [hN]; exact hl)
    rwa [hN] at this
  have hN1 : (N : Int) ≤ 8796093022207 := by omega
  have hp3 : p ≤ 300 := by rw [← hp, List.length_take]; omega
  have HPP : Hid (((allS l).take 300).length = p) := hp
  have HQQ : Hid (((allS l).take 5).length = p) := hq
  clear hT hN hp hq
  have h5i : (p : Int) < 5 := by omega
  go_enter Tryd.func4, Tryd.ntmps4
  go_wp2_with fail
  refine (shown_any _ HT.out).mono ?_
  rintro e w1 ⟨rfl, hb1⟩
  have HB : Hid (Below w.heap.size w w1) := hb1
  clear hb1
  go_wp2_with fail
  refine (lent_any _ l _ (HV.out.below HB.out (Nat.le_refl _)) (by rw [HN.out]; exact hl)).mono ?_
  rintro e w2 ⟨rfl, hO2, hb2⟩
  rw [HN.out] at hO2 ⊢
  have HA : Hid (AS w w1.heap.size l w2) := ⟨HB.out.trans (hb2.mono HB.out.size), OwnR.reads hO2⟩
  clear hO2 hb2 HB
  obtain ⟨g0, hg0⟩ : ∃ g0, w1.heap.size = g0 := ⟨_, rfl⟩
  rw [hg0] at HA ⊢
  clear hg0
  go_wp2_with fail
  refine (HP1.out _ _ (HA.out.t HT.out) (HA.out.x HN.out)).mono ?_
  rintro e w3 ⟨rfl, hb⟩
  replace HA : Hid (AS w g0 l w3) := HA.out.next hb.below
  clear hb
  go_wp2_with fail
  refine (HP2.out _ _ (HA.out.v HV.out)).mono ?_
  rintro e w4 ⟨rfl, hb⟩
  replace HA : Hid (AS w g0 l w4) := HA.out.next hb.below
  clear hb HP1 HP2
  go_wp2_with fail
  refine (HN1.out _ _ (HA.out.t HT.out) (HA.out.x HN.out)).mono ?_
  rintro e w5 ⟨rfl, hb⟩
  replace HA : Hid (AS w g0 l w5) := HA.out.next hb.below
  clear hb
  go_wp2_with fail
  refine (HN2.out _ _ (HA.out.v HV.out)).mono ?_
  rintro e w6 ⟨rfl, hb⟩
  replace HA : Hid (AS w g0 l w6) := HA.out.next hb.below
  clear hb HN1 HN2
  go_wp2_with fail
  refine (first_any w6 (HA.out.t HT.out) g0 0 N (N + 1) 300 l (HA.out.x HN.out) (by omega)).mono ?_
  rintro e w7 ⟨vl, rfl, hL, hb⟩
  replace HA : Hid (AS w g0 l w7) := HA.out.next hb
  have HL : Hid (OwnI w7 w6.heap.size vl ((allS l).take 300)) := hL
  obtain ⟨Al, cl, rfl⟩ := formI hL
  rw [HPP.out] at HL ⊢
  clear hb hL
  go_wp2_with fail
  refine (first_any w7 (HA.out.t HT.out) g0 0 N (N + 1) 5 l (HA.out.x HN.out) (by omega)).mono ?_
  rintro e w8 ⟨vm, rfl, hM, hb⟩
  replace HA : Hid (AS w g0 l w8) := HA.out.next hb
  replace HL : Hid (OwnI w8 w6.heap.size (.slice Al p cl) ((allS l).take 300)) := ownI_below HL.out hb (Nat.le_refl _)
  have HM : Hid (OwnI w8 w7.heap.size vm ((allS l).take 5)) := hM
  obtain ⟨Am, cm, rfl⟩ := formI hM
  rw [HQQ.out] at HM ⊢
  clear hb hM
  go_wp2_with fail
  go_loopw [20] (fun vi wr => ∃ k : Nat, vi = .int .i64 k ∧ k ≤ p ∧ Hid (AS w g0 l wr) ∧ Hid (OwnI wr w6.heap.size (.slice Al p cl) ((allS l).take 300)) ∧ Hid (OwnI wr w7.heap.size (.slice Am p cm) ((allS l).take 5))) (fun vi _ => p - (intOf vi).toNat)
  case atStart => exact ⟨0, rfl, by omega, HA, HL, HM⟩
  case round =>
    obtain ⟨k, rfl, hk, HA2, HL2, HM2⟩ := hrel
    clear HA HL HM
    by_cases hkp : k < p
    · have hki : (k : Int) < (p : Int) := by omega
      have hk3 : k < ((allS l).take 300).length := by rw [HPP.out]; exact hkp
      obtain ⟨x, hx⟩ : ∃ x, ((allS l).take 300)[k] = x := ⟨_, rfl⟩
      obtain ⟨gL, rfl, cL⟩ := ownI_cell HL2.out hk3
      rw [hx] at cL
      have hxA : (allS l)[k]? = some x := by
        rw [← hx, List.getElem_take, List.getElem?_eq_getElem]
      have HC : Hid (Calls Tryd.prog 26 #[.slice A0 N c0, .int .i64 k] wr fun e w' => e = .returned (.tuple #[.int .i64 x, .bool true]) ∧ Grown wr w') := by
        have := rnth_any (.slice A0 N c0) l k wr (HA2.out.v HV.out)
        rw [allS_nth, hxA] at this
        exact this
      by_cases hkq : k < p
      · have hkqi : (k : Int) < (p : Int) := by omega
        obtain ⟨gM, rfl, cM⟩ := ownI_cell HM2.out (show k < ((allS l).take 5).length by rw [HQQ.out]; exact hkq)
        have hxM : ((allS l).take 5)[k]'(by rw [HQQ.out]; exact hkq) = x := by
          rw [← hx, List.getElem_take, List.getElem_take]
        rw [hxM] at cM
        clear hx hxA hxM
        go_wp2_with fail
        refine HC.out.mono ?_
        rintro e wn ⟨rfl, hb⟩
        replace cL := hb.cellv cL
        replace cM := hb.cellv cM
        have HA3 : Hid (AS w g0 l wn) := HA2.out.next hb.below
        have HL3 : Hid (OwnI wn w6.heap.size (.slice (some ⟨gL, 0, none⟩) p cl) ((allS l).take 300)) := ownI_below HL2.out hb.below (Nat.le_refl _)
        have HM3 : Hid (OwnI wn w7.heap.size (.slice (some ⟨gM, 0, none⟩) p cm) ((allS l).take 5)) := ownI_below HM2.out hb.below (Nat.le_refl _)
        clear hb
        go_wp2
        exact ⟨⟨k + 1, by go_num, by omega, HA3, HL3, HM3⟩, by simp [intOf]; omega⟩
      · exact absurd hkp hkq
    · obtain rfl : k = p := by omega
      clear HL2 HM2
      by_cases h3 : k < 300
      · have h3i : (k : Int) < 300 := by omega
        have HC : Hid (Calls Tryd.prog 28 #[.slice A0 N c0] wr fun e w' => e = .returned (.int .i64 k) ∧ Grown wr w') := by
          have := rlen_any (.slice A0 N c0) l wr (HA2.out.v HV.out)
          have e1 := allS_len l
          have e2 := HPP.out
          rw [List.length_take] at e2
          rw [show lenU l = (k : Int) by omega] at this
          exact this
        go_wp2_with fail
        refine HC.out.mono ?_
        rintro e wn ⟨rfl, hb⟩
        replace HA2 : Hid (AS w g0 l wn) := HA2.out.next hb.below
        clear hb HC
        go_wp2_with fail
        refine (HST.out _ _ HA2.out.2 (HA2.out.v HV.out)).mono ?_
        rintro e wo ⟨rfl, hb⟩
        replace HA2 : Hid (AS w g0 l wo) := HA2.out.next hb.below
        clear hb
        go_wp2_with fail
        refine (HH1.out _ _ (HA2.out.t HT.out) (HA2.out.x HN.out)).mono ?_
        rintro e wq ⟨rfl, hb⟩
        replace HA2 : Hid (AS w g0 l wq) := HA2.out.next hb.below
        clear hb
        go_wp2_with fail
        refine (HH2.out _ _ (HA2.out.v HV.out)).mono ?_
        rintro e wr2 ⟨rfl, hb⟩
        replace HA2 : Hid (AS w g0 l wr2) := HA2.out.next hb.below
        clear hb
        go_wp2_with fail
        refine (HZ1.out _ _ (HA2.out.t HT.out) (HA2.out.x HN.out)).mono ?_
        rintro e ws ⟨rfl, hb⟩
        replace HA2 : Hid (AS w g0 l ws) := HA2.out.next hb.below
        clear hb
        go_wp2_with fail
        refine (HZ2.out _ _ (HA2.out.v HV.out)).mono ?_
        rintro e wt ⟨rfl, hb⟩
        replace HA2 : Hid (AS w g0 l wt) := HA2.out.next hb.below
        clear hb
        go_wp2
        go_ret
        exact ⟨rfl, HA2.out.1⟩
      · have h3d : decide ((k : Int) < 300) = false := by simp; omega
        have h3i : (300 : Int) ≤ (k : Int) := by omega
        go_wp2_with fail
        refine (HST.out _ _ HA2.out.2 (HA2.out.v HV.out)).mono ?_
        rintro e wo ⟨rfl, hb⟩
        replace HA2 : Hid (AS w g0 l wo) := HA2.out.next hb.below
        clear hb
        go_wp2_with fail
        refine (HH1.out _ _ (HA2.out.t HT.out) (HA2.out.x HN.out)).mono ?_
        rintro e wq ⟨rfl, hb⟩
        replace HA2 : Hid (AS w g0 l wq) := HA2.out.next hb.below
        clear hb
        go_wp2_with fail
        refine (HH2.out _ _ (HA2.out.v HV.out)).mono ?_
        rintro e wr2 ⟨rfl, hb⟩
        replace HA2 : Hid (AS w g0 l wr2) := HA2.out.next hb.below
        clear hb
        go_wp2_with fail
        refine (HZ1.out _ _ (HA2.out.t HT.out) (HA2.out.x HN.out)).mono ?_
        rintro e ws ⟨rfl, hb⟩
        replace HA2 : Hid (AS w g0 l ws) := HA2.out.next hb.below
        clear hb
        go_wp2_with fail
        refine (HZ2.out _ _ (HA2.out.v HV.out)).mono ?_
        rintro e wt ⟨rfl, hb⟩
        replace HA2 : Hid (AS w g0 l wt) := HA2.out.next hb.below
        clear hb
        go_wp2
        go_ret
        exact ⟨rfl, HA2.out.1⟩
set_option maxHeartbeats 2000000 in
theorem asks_more (v : Value) (u n : Int) (l : List (Int × Int)) (w : World) (hT : Tab w) (hv : Rs w v l) (hl : l.length ≤ 8796093022207) (hnm : n ≤ 9223372036854775807) (p : Nat) (hp : ((allS l).take 300).length = p) (h5 : 5 ≤ p) (hq : ((allS l).take 5).length = 5) :
    Calls Tryd.prog 4 #[v, .int .i64 u, .int .i64 n] w fun e w' => e = .returned (.bool true) ∧ Below w.heap.size w w' := by
  have HT : Hid (Tab w) := hT
  have HV : Hid (Rs w v l) := hv
  obtain ⟨A0, c0, rfl, hc0, _⟩ := hv
  obtain ⟨N, hN⟩ : ∃ N, l.length = N := ⟨_, rfl⟩
  obtain ⟨pa, pb, HP1, HP2⟩ : ∃ pa pb, Hid (∀ W vv, Tab W → Rs W vv l → Calls Tryd.prog 23 #[vv, .int .i64 u] W fun e w' => e = .returned (.tuple #[.int .i64 pa, .bool pb]) ∧ Grown W w') ∧ Hid (∀ W vv, Rs W vv l → Calls Tryd.prog 24 #[vv, .int .i64 u] W fun e w' => e = .returned (.tuple #[.int .i64 pa, .bool pb]) ∧ Grown W w') :=
    ⟨_, _, fun W vv h1 h2 => place_any vv l u W h1 h2, fun W vv h2 => rplace_any vv l u W h2⟩
  obtain ⟨na, nb, HN1, HN2⟩ : ∃ na nb, Hid (∀ W vv, Tab W → Rs W vv l → Calls Tryd.prog 25 #[vv, .int .i64 n] W fun e w' => e = .returned (.tuple #[.int .i64 na, .bool nb]) ∧ Grown W w') ∧ Hid (∀ W vv, Rs W vv l → Calls Tryd.prog 26 #[vv, .int .i64 n] W fun e w' => e = .returned (.tuple #[.int .i64 na, .bool nb]) ∧ Grown W w') :=
    ⟨_, _, fun W vv h1 h2 => nth_any vv l n W h1 h2 hnm, fun W vv h2 => rnth_any vv l n W h2⟩
  obtain ⟨hb0, HH1, HH2⟩ : ∃ hb0, Hid (∀ W vv, Tab W → Rs W vv l → Calls Tryd.prog 29 #[vv, .int .i64 u] W fun e w' => e = .returned (.bool hb0) ∧ Grown W w') ∧ Hid (∀ W vv, Rs W vv l → Calls Tryd.prog 30 #[vv, .int .i64 u] W fun e w' => e = .returned (.bool hb0) ∧ Grown W w') :=
    ⟨_, fun W vv h1 h2 => has_any vv l u W h1 h2, fun W vv h2 => rhas_any vv l u W h2⟩
  obtain ⟨zl, HZ1, HZ2⟩ : ∃ zl, Hid (∀ W vv, Tab W → Rs W vv l → Calls Tryd.prog 31 #[vv] W fun e w' => e = .returned (.int .i64 zl) ∧ Grown W w') ∧ Hid (∀ W vv, Rs W vv l → Calls Tryd.prog 28 #[vv] W fun e w' => e = .returned (.int .i64 zl) ∧ Grown W w') :=
    ⟨_, fun W vv h1 h2 => len_any vv l W h1 h2, fun W vv h2 => rlen_any vv l W h2⟩
  have HN : Hid (l.length = N) := hN
  rw [hN] at hl hc0 HV ⊢
  have HST : Hid (∀ g W, Reads W g 0 (l ++ [(-77, -77)]) → Rs W (.slice A0 N c0) l → Calls Tryd.prog 21 #[.slice (some ⟨g, 0, none⟩) (N + 1) (N + 1), .slice A0 N c0] W fun e w' => e = .returned (.bool true) ∧ Grown W w') := fun g W h1 h2 => by
    have := still_any g (.slice A0 N c0) l W h1 h2 (by rw [hN]; exact hl)
    rwa [hN] at this
  have hN1 : (N : Int) ≤ 8796093022207 := by omega
  have hp3 : p ≤ 300 := by rw [← hp, List.length_take]; omega
  have HPP : Hid (((allS l).take 300).length = p) := hp
  have HQQ : Hid (((allS l).take 5).length = 5) := hq
  clear hT hN hp hq
  have h5i : (5 : Int) ≤ (p : Int) := by omega
  go_enter Tryd.func4, Tryd.ntmps4
  go_wp2_with fail
  refine (shown_any _ HT.out).mono ?_
  rintro e w1 ⟨rfl, hb1⟩
  have HB : Hid (Below w.heap.size w w1) := hb1
  clear hb1
  go_wp2_with fail
  refine (lent_any _ l _ (HV.out.below HB.out (Nat.le_refl _)) (by rw [HN.out]; exact hl)).mono ?_
  rintro e w2 ⟨rfl, hO2, hb2⟩
  rw [HN.out] at hO2 ⊢
  have HA : Hid (AS w w1.heap.size l w2) := ⟨HB.out.trans (hb2.mono HB.out.size), OwnR.reads hO2⟩
  clear hO2 hb2 HB
  obtain ⟨g0, hg0⟩ : ∃ g0, w1.heap.size = g0 := ⟨_, rfl⟩
  rw [hg0] at HA ⊢
  clear hg0
  go_wp2_with fail
  refine (HP1.out _ _ (HA.out.t HT.out) (HA.out.x HN.out)).mono ?_
  rintro e w3 ⟨rfl, hb⟩
  replace HA : Hid (AS w g0 l w3) := HA.out.next hb.below
  clear hb
  go_wp2_with fail
  refine (HP2.out _ _ (HA.out.v HV.out)).mono ?_
  rintro e w4 ⟨rfl, hb⟩
  replace HA : Hid (AS w g0 l w4) := HA.out.next hb.below
  clear hb HP1 HP2
  go_wp2_with fail
  refine (HN1.out _ _ (HA.out.t HT.out) (HA.out.x HN.out)).mono ?_
  rintro e w5 ⟨rfl, hb⟩
  replace HA : Hid (AS w g0 l w5) := HA.out.next hb.below
  clear hb
  go_wp2_with fail
  refine (HN2.out _ _ (HA.out.v HV.out)).mono ?_
  rintro e w6 ⟨rfl, hb⟩
  replace HA : Hid (AS w g0 l w6) := HA.out.next hb.below
  clear hb HN1 HN2
  go_wp2_with fail
  refine (first_any w6 (HA.out.t HT.out) g0 0 N (N + 1) 300 l (HA.out.x HN.out) (by omega)).mono ?_
  rintro e w7 ⟨vl, rfl, hL, hb⟩
  replace HA : Hid (AS w g0 l w7) := HA.out.next hb
  have HL : Hid (OwnI w7 w6.heap.size vl ((allS l).take 300)) := hL
  obtain ⟨Al, cl, rfl⟩ := formI hL
  rw [HPP.out] at HL ⊢
  clear hb hL
  go_wp2_with fail
  refine (first_any w7 (HA.out.t HT.out) g0 0 N (N + 1) 5 l (HA.out.x HN.out) (by omega)).mono ?_
  rintro e w8 ⟨vm, rfl, hM, hb⟩
  replace HA : Hid (AS w g0 l w8) := HA.out.next hb
  replace HL : Hid (OwnI w8 w6.heap.size (.slice Al p cl) ((allS l).take 300)) := ownI_below HL.out hb (Nat.le_refl _)
  have HM : Hid (OwnI w8 w7.heap.size vm ((allS l).take 5)) := hM
  obtain ⟨Am, cm, rfl⟩ := formI hM
  rw [HQQ.out] at HM ⊢
  clear hb hM
  go_wp2_with fail
  go_loopw [20] (fun vi wr => ∃ k : Nat, vi = .int .i64 k ∧ k ≤ p ∧ Hid (AS w g0 l wr) ∧ Hid (OwnI wr w6.heap.size (.slice Al p cl) ((allS l).take 300)) ∧ Hid (OwnI wr w7.heap.size (.slice Am 5 cm) ((allS l).take 5))) (fun vi _ => p - (intOf vi).toNat)
  case atStart => exact ⟨0, rfl, by omega, HA, HL, HM⟩
  case round =>
    obtain ⟨k, rfl, hk, HA2, HL2, HM2⟩ := hrel
    clear HA HL HM
    by_cases hkp : k < p
    · have hki : (k : Int) < (p : Int) := by omega
      have hk3 : k < ((allS l).take 300).length := by rw [HPP.out]; exact hkp
      obtain ⟨x, hx⟩ : ∃ x, ((allS l).take 300)[k] = x := ⟨_, rfl⟩
      obtain ⟨gL, rfl, cL⟩ := ownI_cell HL2.out hk3
      rw [hx] at cL
      have hxA : (allS l)[k]? = some x := by
        rw [← hx, List.getElem_take, List.getElem?_eq_getElem]
      have HC : Hid (Calls Tryd.prog 26 #[.slice A0 N c0, .int .i64 k] wr fun e w' => e = .returned (.tuple #[.int .i64 x, .bool true]) ∧ Grown wr w') := by
        have := rnth_any (.slice A0 N c0) l k wr (HA2.out.v HV.out)
        rw [allS_nth, hxA] at this
        exact this
      by_cases hkq : k < 5
      · have hkqi : (k : Int) < (5 : Int) := by omega
        obtain ⟨gM, rfl, cM⟩ := ownI_cell HM2.out (show k < ((allS l).take 5).length by rw [HQQ.out]; exact hkq)
        have hxM : ((allS l).take 5)[k]'(by rw [HQQ.out]; exact hkq) = x := by
          rw [← hx, List.getElem_take, List.getElem_take]
        rw [hxM] at cM
        clear hx hxA hxM
        go_wp2_with fail
        refine HC.out.mono ?_
        rintro e wn ⟨rfl, hb⟩
        replace cL := hb.cellv cL
        replace cM := hb.cellv cM
        have HA3 : Hid (AS w g0 l wn) := HA2.out.next hb.below
        have HL3 : Hid (OwnI wn w6.heap.size (.slice (some ⟨gL, 0, none⟩) p cl) ((allS l).take 300)) := ownI_below HL2.out hb.below (Nat.le_refl _)
        have HM3 : Hid (OwnI wn w7.heap.size (.slice (some ⟨gM, 0, none⟩) 5 cm) ((allS l).take 5)) := ownI_below HM2.out hb.below (Nat.le_refl _)
        clear hb
        go_wp2
        exact ⟨⟨k + 1, by go_num, by omega, HA3, HL3, HM3⟩, by simp [intOf]; omega⟩
      · have hkqi : (5 : Int) ≤ (k : Int) := by omega
        have hkqd : decide ((k : Int) < (5 : Int)) = false := by simp; omega
        clear hx hxA
        go_wp2_with fail
        refine HC.out.mono ?_
        rintro e wn ⟨rfl, hb⟩
        replace cL := hb.cellv cL
        have HA3 : Hid (AS w g0 l wn) := HA2.out.next hb.below
        have HL3 : Hid (OwnI wn w6.heap.size (.slice (some ⟨gL, 0, none⟩) p cl) ((allS l).take 300)) := ownI_below HL2.out hb.below (Nat.le_refl _)
        have HM3 : Hid (OwnI wn w7.heap.size (.slice Am 5 cm) ((allS l).take 5)) := ownI_below HM2.out hb.below (Nat.le_refl _)
        clear hb
        go_wp2
        exact ⟨⟨k + 1, by go_num, by omega, HA3, HL3, HM3⟩, by simp [intOf]; omega⟩
    · obtain rfl : k = p := by omega
      clear HL2 HM2
      by_cases h3 : k < 300
      · have h3i : (k : Int) < 300 := by omega
        have HC : Hid (Calls Tryd.prog 28 #[.slice A0 N c0] wr fun e w' => e = .returned (.int .i64 k) ∧ Grown wr w') := by
          have := rlen_any (.slice A0 N c0) l wr (HA2.out.v HV.out)
          have e1 := allS_len l
          have e2 := HPP.out
          rw [List.length_take] at e2
          rw [show lenU l = (k : Int) by omega] at this
          exact this
        go_wp2_with fail
        refine HC.out.mono ?_
        rintro e wn ⟨rfl, hb⟩
        replace HA2 : Hid (AS w g0 l wn) := HA2.out.next hb.below
        clear hb HC
        go_wp2_with fail
        refine (HST.out _ _ HA2.out.2 (HA2.out.v HV.out)).mono ?_
        rintro e wo ⟨rfl, hb⟩
        replace HA2 : Hid (AS w g0 l wo) := HA2.out.next hb.below
        clear hb
        go_wp2_with fail
        refine (HH1.out _ _ (HA2.out.t HT.out) (HA2.out.x HN.out)).mono ?_
        rintro e wq ⟨rfl, hb⟩
        replace HA2 : Hid (AS w g0 l wq) := HA2.out.next hb.below
        clear hb
        go_wp2_with fail
        refine (HH2.out _ _ (HA2.out.v HV.out)).mono ?_
        rintro e wr2 ⟨rfl, hb⟩
        replace HA2 : Hid (AS w g0 l wr2) := HA2.out.next hb.below
        clear hb
        go_wp2_with fail
        refine (HZ1.out _ _ (HA2.out.t HT.out) (HA2.out.x HN.out)).mono ?_
        rintro e ws ⟨rfl, hb⟩
        replace HA2 : Hid (AS w g0 l ws) := HA2.out.next hb.below
        clear hb
        go_wp2_with fail
        refine (HZ2.out _ _ (HA2.out.v HV.out)).mono ?_
        rintro e wt ⟨rfl, hb⟩
        replace HA2 : Hid (AS w g0 l wt) := HA2.out.next hb.below
        clear hb
        go_wp2
        go_ret
        exact ⟨rfl, HA2.out.1⟩
      · have h3d : decide ((k : Int) < 300) = false := by simp; omega
        have h3i : (300 : Int) ≤ (k : Int) := by omega
        go_wp2_with fail
        refine (HST.out _ _ HA2.out.2 (HA2.out.v HV.out)).mono ?_
        rintro e wo ⟨rfl, hb⟩
        replace HA2 : Hid (AS w g0 l wo) := HA2.out.next hb.below
        clear hb
        go_wp2_with fail
        refine (HH1.out _ _ (HA2.out.t HT.out) (HA2.out.x HN.out)).mono ?_
        rintro e wq ⟨rfl, hb⟩
        replace HA2 : Hid (AS w g0 l wq) := HA2.out.next hb.below
        clear hb
        go_wp2_with fail
        refine (HH2.out _ _ (HA2.out.v HV.out)).mono ?_
        rintro e wr2 ⟨rfl, hb⟩
        replace HA2 : Hid (AS w g0 l wr2) := HA2.out.next hb.below
        clear hb
        go_wp2_with fail
        refine (HZ1.out _ _ (HA2.out.t HT.out) (HA2.out.x HN.out)).mono ?_
        rintro e ws ⟨rfl, hb⟩
        replace HA2 : Hid (AS w g0 l ws) := HA2.out.next hb.below
        clear hb
        go_wp2_with fail
        refine (HZ2.out _ _ (HA2.out.v HV.out)).mono ?_
        rintro e wt ⟨rfl, hb⟩
        replace HA2 : Hid (AS w g0 l wt) := HA2.out.next hb.below
        clear hb
        go_wp2
        go_ret
        exact ⟨rfl, HA2.out.1⟩
theorem asksLaw_any (v : Value) (u n : Int) (l : List (Int × Int)) (w : World) (hT : Tab w) (hv : Rs w v l) (hl : l.length ≤ 8796093022207) (hnm : n ≤ 9223372036854775807) :
    Calls Tryd.prog 4 #[v, .int .i64 u, .int .i64 n] w fun e w' => e = .returned (.bool true) ∧ Below w.heap.size w w' := by
  by_cases h5 : ((allS l).take 300).length < 5
  · refine asks_few v u n l w hT hv hl hnm _ rfl h5 ?_
    rw [List.length_take] at h5 ⊢
    rw [List.length_take]
    omega
  · refine asks_more v u n l w hT hv hl hnm _ rfl (by omega) ?_
    rw [List.length_take] at h5 ⊢
    omega
end Go.Proofs
