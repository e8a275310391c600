/-
  All turns of some sets, sorted.
-/
import Derived.RangeFuncNested
import Derived.RangeFuncBound
import Derived.RangeFuncCalls
import Derived.RangeFuncLeaves
import Derived.Shelf.Abstract
import Derived.Shelf.RegionOpen
import Derived.WalkKit
import Derived.WalkSpells
import Derived.WalkLawsBesides
import Derived.OwnWalkIn
import Derived.TacticsInMore
import Derived.LoopNIn
import Derived.LoopIn
import Derived.BigQuiet
import Derived.RegionIn
import Derived.Deep.QuietTactic
import Derived.Deep.RegionWith
import Derived.Lib.OthersKept
import Derived.Maps.AppendAt
import Derived.Lib.SmallJoins
import Derived.Shelf.SlSortCmp.QuietGrown
import Derived.Test.YtjjkomaokgmkhaaDoorGdn
import Derived.Test.YtjjkomaokgmkhaaDoorAfn
namespace Go.Proofs
open Go.RowKit Go.Shelf

set_option maxRecDepth 100000
attribute [local go_sem] Oper.semAt_some
attribute [local go_sem ↓] Go.wp_at_zero Go.wp_at_succ

theorem allT_take (ss : List (List (Int × Int))) {k : Nat} (hk : k < ss.length) : allT 0 (ss.take (k + 1)) = allT 0 (ss.take k) ++ tnS (k : Int) ss[k] := by
  rw [List.take_succ_eq_append_getElem hk, allT_snoc, List.length_take, show 0 + min k ss.length = k by omega]
theorem allT_append : ∀ (k : Nat) (a b : List (List (Int × Int))), allT k (a ++ b) = allT k a ++ allT (k + a.length) b
  | k, [], b => by simp [allT]
  | k, x :: a, b => by
    rw [List.cons_append, allT, allT, allT_append (k + 1) a b, List.append_assoc, List.length_cons, show k + 1 + a.length = k + (a.length + 1) by omega]
theorem allT_take_len (ss : List (List (Int × Int))) (k : Nat) : (allT 0 (ss.take k)).length ≤ (allT 0 ss).length := by
  have h := allT_append 0 (ss.take k) (ss.drop k)
  rw [List.take_append_drop] at h
  rw [h, List.length_append]
  omega
theorem any_is : allU = anyR := rfl
set_option maxHeartbeats 4000000 in
theorem turns_walk (la : Option Addr) (N c : Nat) (ss : List (List (Int × Int))) (w : World) (hT : Tab w) (hN : ss.length = N) (h : ss = [] ∨ ∃ g o, la = some ⟨g, o, none⟩ ∧ SRd w g o ss) (hNb : N ≤ 1000000000) (hbd : ∀ s ∈ ss, ∀ x ∈ s, 0 ≤ x.1 ∧ x.1 ≤ 1114367 ∧ 0 ≤ x.2 ∧ x.2 ≤ 1114367) (hl : (allT 0 ss).length ≤ 4398046511000) :
    Calls Tryd.prog 24 #[.slice la N c] w fun e w' => ∃ v all, e = .returned v ∧ Rs w' v all ∧ all.Perm (allT 0 (ss ++ [anyR])) ∧ AscT all ∧ Below w.heap.size w w' := by
  have HS := Hid.mk' h
  have HT := Hid.mk' hT
  have HNN := Hid.mk' hN
  have HLL := Hid.mk' hl
  have HBD := Hid.mk' hbd
  have hNI : (N : Int) ≤ 1000000000 := by omega
  clear h hT hN hl hbd
  go_enter Tryd.func24, Tryd.ntmps24
  go_wp2
  go_loopw [3, 8] (fun v3 vi wr => ∃ (k : Nat) (a1 : Option Addr) (n1 c1 : Nat), v3 = .slice a1 n1 c1 ∧ vi = .int .i64 k ∧ k ≤ N ∧ Hid (OwnT wr w.heap.size (.slice a1 n1 c1) (allT 0 (ss.take k)) ∧ Below w.heap.size w wr)) (fun _ vi _ => N - (intOf vi).toNat)
  case atStart => exact ⟨0, none, 0, 0, rfl, rfl, Nat.zero_le _, OwnT.nil _ _, Below.refl _ _⟩
  case round =>
    obtain ⟨k, a1, n1, c1, rfl, rfl, hk, HR⟩ := hrel
    have hk0 : (0 : Int) ≤ (k : Int) := by omega
    by_cases hlt : k < N
    · have hltI : (k : Int) < (N : Int) := by omega
      have hks : k < ss.length := by rw [HNN.out]; exact hlt
      obtain ⟨g, o, hla, hSd⟩ := HS.out.resolve_left (fun e => by rw [e] at hks; simp at hks)
      subst hla
      obtain ⟨sv, hsv, hrs⟩ := hSd k hks
      clear hSd
      have hcv := cell_below hsv HR.out.2 (Nat.le_refl _)
      have hown := HR.out.1
      have hz := HR.out.2.size
      have HC : Hid (Calls Tryd.prog 39 #[.slice a1 n1 c1, .int .i64 (k : Int), sv] wr fun e w' => ∃ v', e = .returned v' ∧ OwnT w' w.heap.size v' (allT 0 (ss.take k) ++ tnS (k : Int) ss[k]) ∧ Fr wr w' (fun b => (Value.slice a1 n1 c1).ownBlock = some b) ∧ Loc wr (.slice a1 n1 c1) v') :=
        appT_any a1 n1 c1 sv k _ ss[k] w.heap.size wr hown hz (fun W hW => hrs.below (HR.out.2.trans (hW.below (fun b hb => (World.ownsRow.lt hown b hb).1) hz)) (Nat.le_refl _)) (HBD.out _ (List.getElem_mem hks)) (by
          have h1 := allT_take_len ss (k + 1)
          rw [allT_take ss hks, List.length_append, tnS_len] at h1
          have := HLL.out
          omega)
      obtain ⟨sa, sc, hse, _⟩ := hrs
      obtain ⟨sn, hsn⟩ : ∃ sn, ss[k].length = sn := ⟨_, rfl⟩
      rw [hsn] at hse
      subst hse
      have HT2 : Hid (allT 0 (ss.take (k + 1)) = allT 0 (ss.take k) ++ tnS (k : Int) ss[k]) := allT_take ss hks
      clear hsn hown hsv
      go_wp2_with (go_at_call 39; refine HC.out.mono ?_; rintro e w' ⟨v', rfl, h1, h2, h3⟩; have HW := Hid.mk' (And.intro h1 h2); obtain ⟨a2, c2, hv2⟩ := own_len h1; generalize (allT 0 (List.take k ss) ++ tnS (k : Int) ss[k]).length = m2 at hv2; subst hv2; clear h1 h2 h3)
      refine ⟨⟨k + 1, a2, _, c2, rfl, by go_num, by omega, ?_, ?_⟩, by simp [intOf]; omega⟩
      · rw [HT2.out]; exact HW.out.1
      · exact HR.out.2.trans (HW.out.2.below (fun b hb => (World.ownsRow.lt HR.out.1 b hb).1) HR.out.2.size)
    · have hge : ¬ (k : Int) < (N : Int) := by omega
      have HE : Hid (OwnT wr w.heap.size (.slice a1 n1 c1) (allT 0 ss) ∧ Below w.heap.size w wr) := by
        obtain ⟨h1, h2⟩ := HR.out
        refine ⟨?_, h2⟩
        rwa [List.take_of_length_le (by rw [HNN.out]; omega)] at h1
      have hkN : k = N := by omega
      subst hkN
      clear HR
      have HA : Hid (Calls Tryd.prog 40 #[] wr fun e w' => ∃ v, e = .returned v ∧ OwnR w' wr.heap.size v allU ∧ Below wr.heap.size wr w') := any_any wr (HT.out.below HE.out.2 HT.out.pos)
      go_wp2_with fail
      refine HA.out.mono ?_
      rintro e w2 ⟨uv, rfl, hu1, hu2⟩
      have hzr := HE.out.2.size
      have hown2 : OwnT w2 w.heap.size (.slice a1 n1 c1) (allT 0 ss) := HE.out.1.below hu2 (Nat.le_refl _)
      have hz2 := hu2.size
      have hapart : ∀ b, (Value.slice a1 n1 c1).ownBlock = some b → b < wr.heap.size := fun b hb => (World.ownsRow.lt HE.out.1 b hb).2
      have HC : Hid (Calls Tryd.prog 39 #[.slice a1 n1 c1, .int .i64 (k : Int), uv] w2 fun e w' => ∃ v', e = .returned v' ∧ OwnT w' w.heap.size v' (allT 0 ss ++ tnS (k : Int) allU) ∧ Fr w2 w' (fun b => (Value.slice a1 n1 c1).ownBlock = some b) ∧ Loc w2 (.slice a1 n1 c1) v') :=
        appT_any a1 n1 c1 uv k _ allU w.heap.size w2 hown2 (by omega) (fun W hW => OwnR.rs (own_fr hu1 hW fun b hb hB => by
          have h1 := hapart b hB
          have h2 := (World.ownsRow.lt hu1 b hb).1
          omega)) (fun x hx => by
          simp only [allU, List.mem_cons, List.not_mem_nil, or_false] at hx
          rcases hx with rfl | rfl | rfl <;> decide) (by
          have : allU.length = 3 := rfl
          have := HLL.out
          omega)
      have H2 : Hid (Below w.heap.size w w2) := HE.out.2.trans (hu2.mono hzr)
      have HP : Hid (allT 0 ss ++ tnS (k : Int) allU = allT 0 (ss ++ [anyR])) := by
        show _ = _
        rw [allT_snoc, any_is, HNN.out, Nat.zero_add]
      have HL : Hid ((allT 0 ss ++ tnS (k : Int) allU).length < 8796093022208) := by
        show _ < _
        rw [List.length_append, tnS_len]
        have : allU.length = 3 := rfl
        have := HLL.out
        omega
      obtain ⟨ua, uc, hue⟩ := own_len hu1
      generalize allU.length = m3 at hue
      subst hue
      have HO2 := Hid.mk' hown2
      clear hu1 hu2 hown2 hapart HE
      go_wp2_with fail
      refine HC.out.mono ?_
      rintro e w3 ⟨v', rfl, h1, h2, h3⟩
      obtain ⟨a2, c2, hv2⟩ := own_len h1
      generalize (allT 0 ss ++ tnS (k : Int) allU).length = m2 at hv2
      have HST := Hid.mk' (sortT_any v' _ w.heap.size w3 h1 HL.out)
      have H3 : Hid (Below w.heap.size w w3) := H2.out.trans (h2.below (fun b hb => (World.ownsRow.lt HO2.out b hb).1) H2.out.size)
      have H3b := Hid.mk' h1
      subst hv2
      clear h1 h2 h3 HC
      go_wp2_with fail
      refine HST.out.mono ?_
      rintro e w4 ⟨rfl, m', hp, ha, hr, hg⟩
      have HF := Hid.mk' (And.intro hr (And.intro (HP.out ▸ hp) (And.intro ha (H3.out.trans ((fr_by hg).below (fun b hb => (World.ownsRow.lt H3b.out b hb).1) H3.out.size)))))
      clear hp ha hr hg HST
      go_wp2
      go_ret
      exact ⟨_, _, rfl, HF.out.1, HF.out.2.1, HF.out.2.2.1, HF.out.2.2.2⟩
theorem turns_any (lv : Value) (ss : List (List (Int × Int))) (w : World) (hT : Tab w) (h : SR w lv ss) (hNb : ss.length ≤ 1000000000) (hbd : ∀ s ∈ ss, ∀ x ∈ s, 0 ≤ x.1 ∧ x.1 ≤ 1114367 ∧ 0 ≤ x.2 ∧ x.2 ≤ 1114367) (hl : (allT 0 ss).length ≤ 4398046511000) :
    Calls Tryd.prog 24 #[lv] w fun e w' => ∃ v all, e = .returned v ∧ Rs w' v all ∧ all.Perm (allT 0 (ss ++ [anyR])) ∧ AscT all ∧ Below w.heap.size w w' := by
  obtain ⟨la, c, rfl, _, h⟩ := h
  exact turns_walk la _ c ss w hT rfl h hNb hbd hl
end Go.Proofs
