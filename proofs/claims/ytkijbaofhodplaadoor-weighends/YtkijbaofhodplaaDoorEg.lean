/-
  settle: weights are lifted till all rules have theirs.
-/
import Derived.RangeFuncNested
import Derived.RangeFuncBound
import Derived.RangeFuncCalls
import Derived.RangeFuncLeaves
import Derived.Shelf.Abstract
import Derived.Shelf.RegionOpen
import Derived.WalkKit
import Derived.WalkSpells
import Derived.WalkLawsBesides
import Derived.OwnWalkIn
import Derived.TacticsInMore
import Derived.LoopNIn
import Derived.LoopIn
import Derived.BigQuiet
import Derived.RegionIn
import Derived.Deep.QuietTactic
import Derived.Deep.RegionWith
import Derived.Lib.OthersKept
import Derived.Maps.AppendAt
import Derived.Lib.SmallJoins
import Derived.Shelf.SlSortCmp.QuietGrown
import Derived.Deep.LoopGhost
import Derived.Scope
import Derived.Test.YtkijbaofhodplaaDoorEf
namespace Go.Proofs
open Go.RowKit Go.Shelf

set_option maxRecDepth 100000
attribute [local go_sem] Oper.semAt_some
attribute [local go_sem ↓] Go.wp_at_zero Go.wp_at_succ
theorem look_le (st : St) : ∀ (k n m : Nat), look st k n = some m → n ≤ m ∧ m < n + k
  | 0, n, m, h => by simp [look] at h
  | k + 1, n, m, h => by
    unfold look at h
    split at h
    · cases h; omega
    · have := look_le st k (n + 1) m h; omega
/-- how settle ends -/
def SeQ (w0 : World) (sp m1 ga m2 : Nat) (bv : Value) (uvs : List Value) (rv : Value) (rs : List Rl) (cs : List Int) (us : List (List (Int × Int))) (R1 : Bool) (R2 : St) (e : Ending) (w' : World) : Prop :=
  ∃ ln', e = .returned (.bool R1) ∧ Sc w' w0 sp m1 ga m2 (tws R2.ws) (tws R2.ws) bv uvs rv rs R2 ln' ∧ OkSt cs us R2
set_option maxHeartbeats 8000000 in
theorem settle_any {W w0 : World} {sp m1 ga m2 : Nat} {bv : Value} {uvs : List Value} {rv : Value} {rs : List Rl} {st : St} {ln : Int → Option Value} {cs : List Int} {us : List (List (Int × Int))} (last F : Nat) (hS : Sc W w0 sp m1 ga m2 (tws st.ws) (tws st.ws) bv uvs rv rs st ln) (hO : OkSt cs us st) (hcl : cs.length = rs.length) (hn : last < rs.length) (hK : Kok rs) (hu : ∀ u ∈ us, u.length ≤ 512) (hF : 64 * cs.length < F + tws st.ws) :
    Calls Tryd.prog 54 #[.pointer (some ⟨sp, 0, none⟩), .int .i64 last] W (SeQ w0 sp m1 ga m2 bv uvs rv rs cs us (settleP rs last F st).1 (settleP rs last F st).2) := by
  obtain ⟨R, hR⟩ : ∃ R, settleP rs last F st = R := ⟨_, rfl⟩
  rw [hR]
  obtain ⟨R1, R2⟩ := R
  simp only
  have HK : Hid (Kok rs) := hK
  have HU : Hid (∀ u ∈ us, u.length ≤ 512) := hu
  have HCL : Hid (cs.length = rs.length ∧ last < rs.length ∧ rs.length ≤ 256) := ⟨hcl, hn, hK.n⟩
  have hlI : (last : Int) ≤ 256 := by have := hK.n; omega
  have hl0 : (0 : Int) ≤ (last : Int) := by omega
  have H0 : Hid (∃ st ln, Sc W w0 sp m1 ga m2 (tws st.ws) (tws st.ws) bv uvs rv rs st ln ∧ OkSt cs us st ∧ settleP rs last F st = (R1, R2) ∧ 64 * cs.length < F + tws st.ws) := ⟨st, ln, hS, hO, hR, hF⟩
  clear hS hO hR hF hu hK hcl hn
  go_enter Tryd.func54, Tryd.ntmps54
  go_wp2
  refine wp_scope_straight ?_
  go_wp2
  refine wp_label ?_
  go_wp2
  go_loopg [] F (fun f wr => Hid (∃ st ln, Sc wr w0 sp m1 ga m2 (tws st.ws) (tws st.ws) bv uvs rv rs st ln ∧ OkSt cs us st ∧ settleP rs last f st = (R1, R2) ∧ 64 * cs.length < f + tws st.ws))
  case atStart => exact H0
  case round =>
    clear H0
    obtain ⟨wo, rfl⟩ : ∃ wo, wo = wr := ⟨_, rfl⟩
    obtain ⟨s0, l0, hS, hO, hR, hF⟩ := hrel.out
    clear hrel
    obtain ⟨f, rfl⟩ : ∃ f, gk = f + 1 := by
      have h1 := tws_bound s0.ws (fun i hi => (hO.wb i (by rw [← hO.wl]; exact hi)).2)
      rw [hO.wl] at h1
      exact ⟨gk - 1, by omega⟩
    have HS : Hid (Sc wo w0 sp m1 ga m2 (tws s0.ws) (tws s0.ws) bv uvs rv rs s0 l0) := hS
    have HO : Hid (OkSt cs us s0) := hO
    have HF : Hid (64 * cs.length < f + 1 + tws s0.ws) := hF
    have HR : Hid (settleP rs last (f + 1) s0 = (R1, R2)) := hR
    obtain ⟨na, hna⟩ : ∃ na, cs.length = na := ⟨_, rfl⟩
    have HNA : Hid (cs.length = na) := hna
    have hlast : (last : Int) < (na : Int) := by have := HCL.out; omega
    have hnaI : (na : Int) ≤ 256 := by have := HCL.out; omega
    have d1 : wo.cell? ⟨sp, 1, none⟩ = some (.map (some m1)) := by rw [cell_of hS.blk]; simp
    have d2 : wo.cell? ⟨sp, 2, none⟩ = some (.slice (some ⟨ga, 0, none⟩) na na) := by rw [cell_of hS.blk]; simp [hO.al, hna]
    clear hS hO hR hF hna
    go_wp2
    go_loopw [8] (fun vi wx => ∃ k : Nat, vi = .int .i64 k ∧ k ≤ last + 1 ∧ Hid (look s0 (last + 1) 0 = look s0 (last + 1 - k) k) ∧ Grown wo wx) (fun vi _ => last + 1 - (intOf vi).toNat)
    case atStart => exact ⟨0, rfl, by omega, rfl, Grown.refl _⟩
    case round =>
      obtain ⟨k, rfl, hk, HL, hG⟩ := hrel
      have hk0 : (0 : Int) ≤ (k : Int) := by omega
      by_cases hlt : k < last + 1
      · have hlt' : (k : Int) < (last : Int) + 1 := by omega
        have hkn : k < cs.length := by have := HCL.out; omega
        have hSx := HS.out.grown hG
        have hab := HO.out.ab hkn
        have hwb := HO.out.wb k hkn
        have hka : k < s0.aq.length := by rw [HO.out.al]; exact hkn
        have hkw : k < s0.ws.length := by rw [HO.out.wl]; exact hkn
        have e2 := hG.cellv d2
        have e1 := hG.cellv d1
        have ya : wr.cell? ⟨ga, k, none⟩ = some (.int .i64 (at0 s0.aq k)) := by rw [cell_of hSx.asb]; simp [ints, at0, hka]
        have hlk : (Instr.lookup 42 (.map (some m1)) (.int .i64 k) false).run Tryd.prog wr.drew = .ok (.int .i64 (at0 s0.ws k)) wr.drew := by
          have := (hSx.grown (Grown.refl _).drew).wm.look (t := 42) (e := 3) Tryd.underlying42 (zero3 _) (k := (k : Int)) ⟨by omega, by omega⟩
          rw [this, wsF_nat hkw]
          rfl
        have hkna : (k : Int) < (na : Int) := by omega
        have HL2 : Hid (look s0 (last + 1) 0 = if 64 < at0 s0.aq k ∨ at0 s0.ws k < at0 s0.aq k then some k else look s0 (last + 1 - (k + 1)) (k + 1)) := by
          show _ = _
          rw [HL.out, show last + 1 - k = (last + 1 - (k + 1)) + 1 by omega, look]
        have HLC : Hid (64 ≥ at0 s0.aq k → at0 s0.ws k < at0 s0.aq k → ∀ wz, Grown wo wz → Calls Tryd.prog 76 #[.pointer (some ⟨sp, 0, none⟩), .int .i64 k] wz fun e w' => ∃ ln', e = .returned (.tuple #[]) ∧ Sc w' w0 sp m1 ga m2 (tws s0.ws + 1) (tws s0.ws + 1) bv uvs rv rs (liftP rs k s0) ln') := fun h1 h2 wz hz => by
          have hb := tws_bound s0.ws (fun i hi => (HO.out.wb i (by rw [← HO.out.wl]; exact hi)).2)
          rw [HO.out.wl] at hb
          have hc := HCL.out
          exact lift_any k (HS.out.grown hz) HO.out hc.1 (by omega) HK.out HU.out (by omega) (by omega) h2 h1
        obtain ⟨aa, haa⟩ : ∃ aa, at0 s0.aq k = aa := ⟨_, rfl⟩
        obtain ⟨ww, hww⟩ : ∃ ww, at0 s0.ws k = ww := ⟨_, rfl⟩
        have HAW : Hid (at0 s0.aq k = aa ∧ at0 s0.ws k = ww) := ⟨haa, hww⟩
        rw [haa] at hab ya HL2 HLC
        rw [hww] at hwb hlk HL2 HLC
        clear hSx HL haa hww hka hkw
        by_cases hc1 : 64 < aa
        · as_aux_lemma =>
            have HE : Hid (R1 = false ∧ R2 = s0) := by
              have h1 := HL2.out
              rw [if_pos (.inl hc1)] at h1
              have h2 := HR.out
              rw [settleP, h1] at h2
              simp only at h2
              rw [if_pos (by rw [HAW.out.1]; exact hc1)] at h2
              injection h2 with h3 h4
              exact ⟨h3.symm, h4.symm⟩
            clear HL2 HLC HR HF
            go_wp2
            go_ret
            refine ⟨l0, by rw [HE.out.1]; rfl, ?_, ?_⟩
            · rw [HE.out.2]; exact HS.out.grown hG
            · rw [HE.out.2]; exact HO.out
        · by_cases hc2 : ww < aa
          · as_aux_lemma =>
              have HE : Hid (settleP rs last f (liftP rs k s0) = (R1, R2)) := by
                have h1 := HL2.out
                rw [if_pos (.inr hc2)] at h1
                have h2 := HR.out
                rw [settleP, h1] at h2
                simp only at h2
                rw [if_neg (by rw [HAW.out.1]; exact hc1)] at h2
                exact h2
              have HOL : Hid (OkSt cs us (liftP rs k s0) ∧ tws s0.ws + 1 ≤ tws (liftP rs k s0).ws) := by
                refine ⟨HO.out.lift rs hkn (by rw [HAW.out.1, HAW.out.2]; exact hc2) (by rw [HAW.out.1]; omega), ?_⟩
                rw [liftP_ws]
                have := tws_set s0.ws k (at0 s0.aq k) (by rw [HO.out.wl]; exact hkn)
                rw [HAW.out.1, HAW.out.2] at this
                rw [HAW.out.1]
                omega
              have HCC : Hid (∀ wz, Grown wo wz → Calls Tryd.prog 76 #[.pointer (some ⟨sp, 0, none⟩), .int .i64 k] wz fun e w' => ∃ ln', e = .returned (.tuple #[]) ∧ Sc w' w0 sp m1 ga m2 (tws s0.ws + 1) (tws s0.ws + 1) bv uvs rv rs (liftP rs k s0) ln') := HLC.out (by omega) hc2
              clear HL2 HLC HR
              go_wp2
              go_region
              go_wp2_with (go_at_call 76; refine (HCC.out _ hG.drew).mono ?_; rintro e w' ⟨ln', rfl, hS'⟩)
              go_roundg f
              case measure => omega
              case rel => exact ⟨liftP rs k s0, ln', hS'.mono HOL.out.2 HOL.out.2, HOL.out.1, HE.out, by have h1 := HOL.out.2; have h2 := HF.out; omega⟩
          · as_aux_lemma =>
              have HL3 : Hid (look s0 (last + 1) 0 = look s0 (last + 1 - (k + 1)) (k + 1)) := by
                show _ = _
                rw [HL2.out, if_neg (fun h => h.elim hc1 hc2)]
              clear HL2 HLC HR HF
              go_wp2
              go_region
              go_wp2
              exact ⟨⟨k + 1, by go_num, by omega, HL3, hG.drew⟩, by simp [intOf]; omega⟩
      · as_aux_lemma =>
          have hge : ¬ (k : Int) < (last : Int) + 1 := by omega
          have HE : Hid (R1 = true ∧ R2 = s0) := by
            have h1 := HL.out
            rw [show last + 1 - k = 0 by omega, look] at h1
            have h2 := HR.out
            rw [settleP, h1] at h2
            injection h2 with h3 h4
            exact ⟨h3.symm, h4.symm⟩
          clear HL HR HF
          go_wp2
          go_ret
          refine ⟨l0, by rw [HE.out.1]; rfl, ?_, ?_⟩
          · rw [HE.out.2]; exact HS.out.grown hG
          · rw [HE.out.2]; exact HO.out
end Go.Proofs
