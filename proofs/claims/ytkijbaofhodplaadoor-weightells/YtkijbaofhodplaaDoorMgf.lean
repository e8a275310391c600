/-
  Several texts in one (Eg El).
-/
import Derived.RangeFuncNested
import Derived.RangeFuncBound
import Derived.RangeFuncCalls
import Derived.RangeFuncLeaves
import Derived.Shelf.Abstract
import Derived.Shelf.RegionOpen
import Derived.WalkKit
import Derived.WalkSpells
import Derived.WalkLawsBesides
import Derived.OwnWalkIn
import Derived.TacticsInMore
import Derived.LoopNIn
import Derived.LoopIn
import Derived.BigQuiet
import Derived.RegionIn
import Derived.Deep.QuietTactic
import Derived.Deep.RegionWith
import Derived.Lib.OthersKept
import Derived.Maps.AppendAt
import Derived.Lib.SmallJoins
import Derived.Shelf.SlSortCmp.QuietGrown
import Derived.Deep.LoopGhost
import Derived.Scope
import Derived.Test.YtkijbaofhodplaaDoorMgd
import Derived.Test.YtkijbaofhodplaaDoorEj
namespace Go.Proofs
open Go.RowKit Go.Shelf

set_option maxRecDepth 100000
attribute [local go_sem] Oper.semAt_some
attribute [local go_sem ↓] Go.wp_at_zero Go.wp_at_succ
theorem look_le (st : St) : ∀ (k n m : Nat), look st k n = some m → n ≤ m ∧ m < n + k
  | 0, n, m, h => by simp [look] at h
  | k + 1, n, m, h => by
    unfold look at h
    split at h
    · cases h; omega
    · have := look_le st k (n + 1) m h; omega
/-- how settle ends -/
def SeQ (w0 : World) (sp m1 ga m2 : Nat) (bv : Value) (uvs : List Value) (rv : Value) (rs : List Rl) (cs : List Int) (us : List (List (Int × Int))) (R1 : Bool) (R2 : St) (e : Ending) (w' : World) : Prop :=
  ∃ ln', e = .returned (.bool R1) ∧ Sc w' w0 sp m1 ga m2 (tws R2.ws) (tws R2.ws) bv uvs rv rs R2 ln' ∧ OkSt cs us R2
set_option maxHeartbeats 8000000 in
theorem settle_any {W w0 : World} {sp m1 ga m2 : Nat} {bv : Value} {uvs : List Value} {rv : Value} {rs : List Rl} {st : St} {ln : Int → Option Value} {cs : List Int} {us : List (List (Int × Int))} (last F : Nat) (hS : Sc W w0 sp m1 ga m2 (tws st.ws) (tws st.ws) bv uvs rv rs st ln) (hO : OkSt cs us st) (hcl : cs.length = rs.length) (hn : last < rs.length) (hK : Kok rs) (hu : ∀ u ∈ us, u.length ≤ 512) (hF : 64 * cs.length < F + tws st.ws) :
    Calls Tryd.prog 54 #[.pointer (some ⟨sp, 0, none⟩), .int .i64 last] W (SeQ w0 sp m1 ga m2 bv uvs rv rs cs us (settleP rs last F st).1 (settleP rs last F st).2) := by
  obtain ⟨R, hR⟩ : ∃ R, settleP rs last F st = R := ⟨_, rfl⟩
  rw [hR]
  obtain ⟨R1, R2⟩ := R
  simp only
  have HK : Hid (Kok rs) := hK
  have HU : Hid (∀ u ∈ us, u.length ≤ 512) := hu
  have HCL : Hid (cs.length = rs.length ∧ last < rs.length ∧ rs.length ≤ 256) := ⟨hcl, hn, hK.n⟩
  have hlI : (last : Int) ≤ 256 := by have := hK.n; omega
  have hl0 : (0 : Int) ≤ (last : Int) := by omega
  have H0 : Hid (∃ st ln, Sc W w0 sp m1 ga m2 (tws st.ws) (tws st.ws) bv uvs rv rs st ln ∧ OkSt cs us st ∧ settleP rs last F st = (R1, R2) ∧ 64 * cs.length < F + tws st.ws) := ⟨st, ln, hS, hO, hR, hF⟩
  clear hS hO hR hF hu hK hcl hn
  go_enter Tryd.func54, Tryd.ntmps54
  go_wp2
  refine wp_scope_straight ?_
  go_wp2
  refine wp_label ?_
  go_wp2
  go_loopg [] F (fun f wr => Hid (∃ st ln, Sc wr w0 sp m1 ga m2 (tws st.ws) (tws st.ws) bv uvs rv rs st ln ∧ OkSt cs us st ∧ settleP rs last f st = (R1, R2) ∧ 64 * cs.length < f + tws st.ws))
  case atStart => exact H0
  case round =>
    clear H0
    obtain ⟨wo, rfl⟩ : ∃ wo, wo = wr := ⟨_, rfl⟩
    obtain ⟨s0, l0, hS, hO, hR, hF⟩ := hrel.out
    clear hrel
    obtain ⟨f, rfl⟩ : ∃ f, gk = f + 1 := by
      have h1 := tws_bound s0.ws (fun i hi => (hO.wb i (by rw [← hO.wl]; exact hi)).2)
      rw [hO.wl] at h1
      exact ⟨gk - 1, by omega⟩
    have HS : Hid (Sc wo w0 sp m1 ga m2 (tws s0.ws) (tws s0.ws) bv uvs rv rs s0 l0) := hS
    have HO : Hid (OkSt cs us s0) := hO
    have HF : Hid (64 * cs.length < f + 1 + tws s0.ws) := hF
    have HR : Hid (settleP rs last (f + 1) s0 = (R1, R2)) := hR
    obtain ⟨na, hna⟩ : ∃ na, cs.length = na := ⟨_, rfl⟩
    have HNA : Hid (cs.length = na) := hna
    have hlast : (last : Int) < (na : Int) := by have := HCL.out; omega
    have hnaI : (na : Int) ≤ 256 := by have := HCL.out; omega
    have d1 : wo.cell? ⟨sp, 1, none⟩ = some (.map (some m1)) := by rw [cell_of hS.blk]; simp
    have d2 : wo.cell? ⟨sp, 2, none⟩ = some (.slice (some ⟨ga, 0, none⟩) na na) := by rw [cell_of hS.blk]; simp [hO.al, hna]
    clear hS hO hR hF hna
    go_wp2
    go_loopw [8] (fun vi wx => ∃ k : Nat, vi = .int .i64 k ∧ k ≤ last + 1 ∧ Hid (look s0 (last + 1) 0 = look s0 (last + 1 - k) k) ∧ Grown wo wx) (fun vi _ => last + 1 - (intOf vi).toNat)
    case atStart => exact ⟨0, rfl, by omega, rfl, Grown.refl _⟩
    case round =>
      obtain ⟨k, rfl, hk, HL, hG⟩ := hrel
      have hk0 : (0 : Int) ≤ (k : Int) := by omega
      by_cases hlt : k < last + 1
      · have hlt' : (k : Int) < (last : Int) + 1 := by omega
        have hkn : k < cs.length := by have := HCL.out; omega
        have hSx := HS.out.grown hG
        have hab := HO.out.ab hkn
        have hwb := HO.out.wb k hkn
        have hka : k < s0.aq.length := by rw [HO.out.al]; exact hkn
        have hkw : k < s0.ws.length := by rw [HO.out.wl]; exact hkn
        have e2 := hG.cellv d2
        have e1 := hG.cellv d1
        have ya : wr.cell? ⟨ga, k, none⟩ = some (.int .i64 (at0 s0.aq k)) := by rw [cell_of hSx.asb]; simp [ints, at0, hka]
        have hlk : (Instr.lookup 42 (.map (some m1)) (.int .i64 k) false).run Tryd.prog wr.drew = .ok (.int .i64 (at0 s0.ws k)) wr.drew := by
          have := (hSx.grown (Grown.refl _).drew).wm.look (t := 42) (e := 3) Tryd.underlying42 (zero3 _) (k := (k : Int)) ⟨by omega, by omega⟩
          rw [this, wsF_nat hkw]
          rfl
        have hkna : (k : Int) < (na : Int) := by omega
        have HL2 : Hid (look s0 (last + 1) 0 = if 64 < at0 s0.aq k ∨ at0 s0.ws k < at0 s0.aq k then some k else look s0 (last + 1 - (k + 1)) (k + 1)) := by
          show _ = _
          rw [HL.out, show last + 1 - k = (last + 1 - (k + 1)) + 1 by omega, look]
        have HLC : Hid (64 ≥ at0 s0.aq k → at0 s0.ws k < at0 s0.aq k → ∀ wz, Grown wo wz → Calls Tryd.prog 76 #[.pointer (some ⟨sp, 0, none⟩), .int .i64 k] wz fun e w' => ∃ ln', e = .returned (.tuple #[]) ∧ Sc w' w0 sp m1 ga m2 (tws s0.ws + 1) (tws s0.ws + 1) bv uvs rv rs (liftP rs k s0) ln') := fun h1 h2 wz hz => by
          have hb := tws_bound s0.ws (fun i hi => (HO.out.wb i (by rw [← HO.out.wl]; exact hi)).2)
          rw [HO.out.wl] at hb
          have hc := HCL.out
          exact lift_any k (HS.out.grown hz) HO.out hc.1 (by omega) HK.out HU.out (by omega) (by omega) h2 h1
        obtain ⟨aa, haa⟩ : ∃ aa, at0 s0.aq k = aa := ⟨_, rfl⟩
        obtain ⟨ww, hww⟩ : ∃ ww, at0 s0.ws k = ww := ⟨_, rfl⟩
        have HAW : Hid (at0 s0.aq k = aa ∧ at0 s0.ws k = ww) := ⟨haa, hww⟩
        rw [haa] at hab ya HL2 HLC
        rw [hww] at hwb hlk HL2 HLC
        clear hSx HL haa hww hka hkw
        by_cases hc1 : 64 < aa
        · as_aux_lemma =>
            have HE : Hid (R1 = false ∧ R2 = s0) := by
              have h1 := HL2.out
              rw [if_pos (.inl hc1)] at h1
              have h2 := HR.out
              rw [settleP, h1] at h2
              simp only at h2
              rw [if_pos (by rw [HAW.out.1]; exact hc1)] at h2
              injection h2 with h3 h4
              exact ⟨h3.symm, h4.symm⟩
            clear HL2 HLC HR HF
            go_wp2
            go_ret
            refine ⟨l0, by rw [HE.out.1]; rfl, ?_, ?_⟩
            · rw [HE.out.2]; exact HS.out.grown hG
            · rw [HE.out.2]; exact HO.out
        · by_cases hc2 : ww < aa
          · as_aux_lemma =>
              have HE : Hid (settleP rs last f (liftP rs k s0) = (R1, R2)) := by
                have h1 := HL2.out
                rw [if_pos (.inr hc2)] at h1
                have h2 := HR.out
                rw [settleP, h1] at h2
                simp only at h2
                rw [if_neg (by rw [HAW.out.1]; exact hc1)] at h2
                exact h2
              have HOL : Hid (OkSt cs us (liftP rs k s0) ∧ tws s0.ws + 1 ≤ tws (liftP rs k s0).ws) := by
                refine ⟨HO.out.lift rs hkn (by rw [HAW.out.1, HAW.out.2]; exact hc2) (by rw [HAW.out.1]; omega), ?_⟩
                rw [liftP_ws]
                have := tws_set s0.ws k (at0 s0.aq k) (by rw [HO.out.wl]; exact hkn)
                rw [HAW.out.1, HAW.out.2] at this
                rw [HAW.out.1]
                omega
              have HCC : Hid (∀ wz, Grown wo wz → Calls Tryd.prog 76 #[.pointer (some ⟨sp, 0, none⟩), .int .i64 k] wz fun e w' => ∃ ln', e = .returned (.tuple #[]) ∧ Sc w' w0 sp m1 ga m2 (tws s0.ws + 1) (tws s0.ws + 1) bv uvs rv rs (liftP rs k s0) ln') := HLC.out (by omega) hc2
              clear HL2 HLC HR
              go_wp2
              go_region
              go_wp2_with (go_at_call 76; refine (HCC.out _ hG.drew).mono ?_; rintro e w' ⟨ln', rfl, hS'⟩)
              go_roundg f
              case measure => omega
              case rel => exact ⟨liftP rs k s0, ln', hS'.mono HOL.out.2 HOL.out.2, HOL.out.1, HE.out, by have h1 := HOL.out.2; have h2 := HF.out; omega⟩
          · as_aux_lemma =>
              have HL3 : Hid (look s0 (last + 1) 0 = look s0 (last + 1 - (k + 1)) (k + 1)) := by
                show _ = _
                rw [HL2.out, if_neg (fun h => h.elim hc1 hc2)]
              clear HL2 HLC HR HF
              go_wp2
              go_region
              go_wp2
              exact ⟨⟨k + 1, by go_num, by omega, HL3, hG.drew⟩, by simp [intOf]; omega⟩
      · as_aux_lemma =>
          have hge : ¬ (k : Int) < (last : Int) + 1 := by omega
          have HE : Hid (R1 = true ∧ R2 = s0) := by
            have h1 := HL.out
            rw [show last + 1 - k = 0 by omega, look] at h1
            have h2 := HR.out
            rw [settleP, h1] at h2
            injection h2 with h3 h4
            exact ⟨h3.symm, h4.symm⟩
          clear HL HR HF
          go_wp2
          go_ret
          refine ⟨l0, by rw [HE.out.1]; rfl, ?_, ?_⟩
          · rw [HE.out.2]; exact HS.out.grown hG
          · rw [HE.out.2]; exact HO.out
theorem wsum_pbs (n i : Nat) : ∀ l : List Pc, wsum (pbs n l) i = if n = i then ((pbs n l).length : Int) else 0
  | [] => by simp [pbs, wsum]
  | p :: l => by
    have ih := wsum_pbs n i l
    simp only [pbs]
    split
    · exact ih
    · simp only [wsum, ih, List.length_cons]
      split <;> omega
theorem wsum_bkI (rs : List Rl) (i : Nat) : ∀ k, wsum (bkI rs k) i = if i < k then ((pbs i ((rs[i]?.map backP).getD [])).length : Int) else 0
  | 0 => by simp [bkI, wsum]
  | k + 1 => by
    rw [bkI, wsum_append, wsum_bkI rs i k, wsum_pbs]
    by_cases h1 : i < k
    · rw [if_pos h1, if_neg (by omega), if_pos (by omega)]; omega
    · rw [if_neg h1]
      by_cases h2 : k = i
      · subst h2; rw [if_pos rfl, if_pos (by omega)]; omega
      · rw [if_neg h2, if_neg (by omega)]; omega
theorem pbs_mem {n : Nat} : ∀ {l : List Pc} {b : Pb}, b ∈ pbs n l → b.r = n ∧ b.wt = 1 ∧ ∃ p ∈ l, b.us = mayB p
  | [], b, h => by simp [pbs] at h
  | p :: l, b, h => by
    simp only [pbs] at h
    split at h
    · obtain ⟨h1, h2, q, h3, h4⟩ := pbs_mem h
      exact ⟨h1, h2, q, List.mem_cons_of_mem _ h3, h4⟩
    · rcases List.mem_cons.1 h with rfl | h
      · exact ⟨rfl, rfl, p, List.mem_cons_self, rfl⟩
      · obtain ⟨h1, h2, q, h3, h4⟩ := pbs_mem h
        exact ⟨h1, h2, q, List.mem_cons_of_mem _ h3, h4⟩
theorem bkI_mem {rs : List Rl} : ∀ {k : Nat} {b : Pb}, b ∈ bkI rs k → b.r < k ∧ b.wt = 1 ∧ ∃ r ∈ rs, ∃ p ∈ backP r, b.us = mayB p
  | 0, b, h => by simp [bkI] at h
  | k + 1, b, h => by
    rw [bkI] at h
    rcases List.mem_append.1 h with h | h
    · obtain ⟨h1, h2, h3⟩ := bkI_mem h
      exact ⟨by omega, h2, h3⟩
    · obtain ⟨h1, h2, p, h3, h4⟩ := pbs_mem h
      refine ⟨by omega, h2, ?_⟩
      cases hk : rs[k]? with
      | none => rw [hk] at h3; simp at h3
      | some r =>
        rw [hk] at h3
        exact ⟨r, List.mem_of_getElem? hk, p, by simpa using h3, h4⟩
/-- what rules ask whatever units weigh -/
def csI (rs : List Rl) : List Int := (List.range rs.length).map fun i => at0 (stK rs rs.length).aq i - wsum (bkI rs rs.length) i
theorem csI_len (rs : List Rl) : (csI rs).length = rs.length := by simp [csI]
theorem csI_at {rs : List Rl} {i : Nat} (h : i < rs.length) : at0 (csI rs) i = at0 (stK rs rs.length).aq i - wsum (bkI rs rs.length) i := by
  rw [at0_lt (by rw [csI_len]; exact h)]
  simp [csI]
theorem stK_all (rs : List Rl) : stK rs rs.length = ⟨List.replicate rs.length 1, rs.map askI, bkI rs rs.length⟩ := by simp [stK]
theorem okSt_start {rs : List Rl} (hO : ∀ r ∈ rs, Ok r) (hn : rs.length ≤ 256) : OkSt (csI rs) ((bkI rs rs.length).map Pb.us) (stK rs rs.length) := by
  have hl := csI_len rs
  refine ⟨by omega, by rw [stK_all]; simp [hl], by rw [stK_all]; simp [hl], fun i hi => ?_, fun b hb => ?_, ?_, fun i hi => ?_, fun i hi => ?_, by rw [stK_all]⟩
  · rw [hl] at hi
    rw [stK_all]
    simp [at0, hi]
  · rw [stK_all] at hb
    obtain ⟨h1, h2, _⟩ := bkI_mem hb
    omega
  · rw [stK_all]
    have := bkI_len (fun r hr => (hO r hr).r16) rs.length
    show (bkI rs rs.length).length ≤ 4096
    omega
  · rw [hl] at hi
    rw [csI_at hi, wsum_bkI, if_pos hi, stK_all, List.getElem?_eq_getElem hi]
    have hr := hO _ (List.getElem_mem hi)
    have h1 := pbs_len i (backP rs[i])
    have h2 : (backP rs[i]).length ≤ 16 := by have := hr.r16; simp [backP]; omega
    have h3 := hr.k8
    have h4 : at0 (rs.map askI) i = askI rs[i] := by simp [at0, hi]
    show -100 ≤ at0 (rs.map askI) i - _ ∧ at0 (rs.map askI) i - _ ≤ 100
    rw [h4]
    unfold askI
    simp only [Option.map_some, Option.getD_some]
    omega
  · rw [hl] at hi
    rw [csI_at hi, stK_all]
    simp only
    omega
theorem mayB_len {r : Rl} (hO : Ok r) {p : Pc} (hp : p ∈ backP r) : (mayB p).length ≤ 512 := by
  unfold mayB
  split
  · rename_i h3
    rcases pc_ok (hO.pc p (List.mem_of_mem_drop hp)) with ⟨h1, _⟩ | ⟨h1, _⟩ | ⟨_, _, _, _, hm⟩
    · omega
    · omega
    · unfold matB at hm
      simp only [Bool.and_eq_true] at hm
      exact ((validB_iff _).1 hm.1).1
  · simp
theorem us_len {rs : List Rl} (hO : ∀ r ∈ rs, Ok r) : ∀ u ∈ (bkI rs rs.length).map Pb.us, u.length ≤ 512 := fun u hu => by
  obtain ⟨b, hb, rfl⟩ := List.mem_map.1 hu
  obtain ⟨_, _, r, hr, p, hp, e⟩ := bkI_mem hb
  rw [e]
  exact mayB_len (hO r hr) hp
theorem kok_of {rs : List Rl} (hO : ∀ r ∈ rs, Ok r) (hn : rs.length ≤ 256) : Kok rs := by
  refine ⟨fun r hr => (hO r hr).k0, fun r hr => ?_, hn⟩
  have h0 := (hO r hr).k0
  have := List.all_eq_true.1 (hO r hr).kS _ (List.getElem_mem h0)
  unfold okS at this
  simp only [Bool.and_eq_true] at this
  have e : keyAt r.key 0 = r.key[0] := by simp [keyAt, h0]
  rw [e]
  exact ((validB_iff _).1 this.1).1
theorem fstR_ok : ∀ {rs : List Rl} {k : Nat}, (fstR rs k).2 = 0 → ∀ r ∈ rs, chk r = 0
  | [], _, _, r, h => by cases h
  | q :: l, k, h, r, hr => by
    unfold fstR at h
    by_cases hq : chk q = 0
    · rw [if_pos hq] at h
      rcases List.mem_cons.1 hr with rfl | hr
      · exact hq
      · exact fstR_ok h r hr
    · rw [if_neg hq] at h
      exact absurd h hq
theorem allE_ok {rs : List Rl} (h : (allE rs).2 = 0) : rs.length ≤ 256 ∧ ∀ r ∈ rs, Ok r := by
  unfold allE at h
  by_cases hn : 256 < rs.length
  · rw [if_pos hn] at h; cases h
  · rw [if_neg hn] at h
    exact ⟨by omega, fun r hr => chk_ok (fstR_ok h r hr)⟩
/-- the first rule, from k on, that puts back too many copies -/
def fstC : List Rl → Nat → Option Nat
  | [], _ => none
  | r :: l, k => if copB r then some k else fstC l (k + 1)
/-- rule by rule: the first that has no weights -/
def settleAll (rs : List Rl) : Nat → Nat → St → Option Nat × St
  | 0, _, st => (none, st)
  | k + 1, n, st => if (settleP rs n (64 * rs.length + 1) st).1 then settleAll rs k (n + 1) (settleP rs n (64 * rs.length + 1) st).2 else (some n, (settleP rs n (64 * rs.length + 1) st).2)
/-- the scale, or the error with the rule's number -/
def wgh (rs : List Rl) : Option St × Int × Int :=
  if (allE rs).2 ≠ 0 then (none, (allE rs).1, (allE rs).2)
  else match fstC rs 0 with
    | some n => (none, (n : Int), 80)
    | none => match settleAll rs rs.length 0 (stK rs rs.length) with
      | (some n, _) => (none, (n : Int), 81)
      | (none, st) => (some st, 0, 0)
theorem tws_ones (n : Nat) : tws (List.replicate n 1) = n := by
  induction n with
  | zero => rfl
  | succ n ih => rw [List.replicate_succ, tws, ih]; simp; omega
/-- the scale as it is found behind weighed -/
def Sca (w' : World) (B : Nat) (sp : Nat) (rv : Value) (rs : List Rl) (st : St) : Prop :=
  ∃ w0 m1 ga m2 N1 N2 bv uvs ln, B ≤ w0.heap.size ∧ Sc w' w0 sp m1 ga m2 N1 N2 bv uvs rv rs st ln ∧ OkSt (csI rs) ((bkI rs rs.length).map Pb.us) st
/-- how weighed ends -/
def WgQ (w : World) (rv : Value) (rs : List Rl) (e : Ending) (w' : World) : Prop :=
  Below w.heap.size w w' ∧ ((∃ c, (wgh rs) = (none, c) ∧ e = .returned (.tuple #[.pointer none, .int .i64 c.1, .int .i64 c.2])) ∨ ∃ st sp, wgh rs = (some st, 0, 0) ∧ e = .returned (.tuple #[.pointer (some ⟨sp, 0, none⟩), .int .i64 0, .int .i64 0]) ∧ Sca w' w.heap.size sp rv rs st)
end Go.Proofs
