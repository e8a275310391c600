/-
  Several texts in one (Le Oi).
-/
import Derived.RangeFuncNested
import Derived.RangeFuncBound
import Derived.RangeFuncCalls
import Derived.RangeFuncLeaves
import Derived.Shelf.Abstract
import Derived.Shelf.RegionOpen
import Derived.WalkKit
import Derived.WalkSpells
import Derived.WalkLawsBesides
import Derived.OwnWalkIn
import Derived.TacticsInMore
import Derived.LoopNIn
import Derived.LoopIn
import Derived.BigQuiet
import Derived.RegionIn
import Derived.Deep.QuietTactic
import Derived.Deep.RegionWith
import Derived.Lib.OthersKept
import Derived.Maps.AppendAt
import Derived.Lib.SmallJoins
import Derived.Shelf.SlSortCmp.QuietGrown
import Derived.Test.YtkijbaofhodplaaDoorMgr
import Derived.Test.YtkijbaofhodplaaDoorMgt
import Derived.Test.YtkijbaofhodplaaDoorMgq
import Derived.Test.YtkijbaofhodplaaDoorOh
import Derived.Test.YtkijbaofhodplaaDoorMgp
namespace Go.Proofs
open Go.RowKit Go.Shelf

set_option maxRecDepth 100000
attribute [local go_sem] Oper.semAt_some
attribute [local go_sem ↓] Go.wp_at_zero Go.wp_at_succ

theorem fea_chk {rs : List Rl} (h : fea rs = false) : (chkW rs).2 ≠ 0 := by
  unfold fea at h
  cases hw : wgh rs with
  | mk o c =>
    cases o with
    | none => rw [chkW, hw]; exact wgh_none hw
    | some st => rw [hw] at h; cases h
theorem wgh_zero2 {rs : List Rl} (h : fea rs = true) : ∃ st, wgh rs = (some st, 0, 0) := by
  obtain ⟨st, c, hw⟩ := fea_iff.1 h
  have hc := chkW_fea h
  rw [chkW, hw] at hc
  simp only at hc
  exact ⟨st, by rw [hw, hc]⟩
theorem fea_all {rs : List Rl} {st : St} (hw : wgh rs = (some st, 0, 0)) : (allE rs).2 = 0 := by
  unfold wgh at hw
  by_cases h0 : (allE rs).2 ≠ 0
  · rw [if_pos h0] at hw; injection hw with h1; cases h1
  · exact Classical.not_not.1 h0
theorem wd_pos {u : Int} (h : wd u ≠ 0) : 0 ≤ u := by
  by_cases hu : 0 ≤ u
  · exact hu
  · exfalso
    apply h
    unfold wd Lib.runeLen
    repeat' split
    all_goals omega
set_option maxHeartbeats 8000000 in
theorem rweight_any (v : Value) (rs : List Rl) (u : Int) (w : World) (h : PsR w v rs) : Calls Tryd.prog 10 #[.agg #[v], .int .i64 u] w fun e w' => e = .returned (.int .i64 (wgtP rs u)) ∧ Below w.heap.size w w' := by
  have HC9 : Hid (∀ V, Below w.heap.size w V → Calls Tryd.prog 9 #[.agg #[v]] V fun e w' => e = .returned (.tuple #[.int .i64 (chkW rs).1, .int .i64 (chkW rs).2]) ∧ Below V.heap.size V w') := fun V hb => rchkA v rs V (h.below hb (Nat.le_refl _))
  have HW : Hid (∀ W : World, Calls Tryd.prog 21 #[.int .i64 u] W fun e w' => e = .returned (.int .i64 (wd u)) ∧ w' = W) := fun W => rwidth_any u W
  have HGR : Hid (∀ V, Grown w V → Below w.heap.size w V) := fun V hg => hg.below
  have HPP : Hid (∀ V, Below w.heap.size w V → PsR V v rs) := fun V hb => h.below hb (Nat.le_refl _)
  obtain ⟨ra, rc, hv, hx1, hx2⟩ := h
  subst hv
  clear hx1 hx2
  obtain ⟨n, hN⟩ : ∃ n, rs.length = n := ⟨_, rfl⟩
  rw [hN] at HC9 HPP ⊢
  clear hN
  cases hf : fea rs with
  | false =>
    have h2 := fea_chk hf
    have hz : wgtP rs u = 0 := by
      unfold fea at hf
      unfold wgtP
      cases hw : (wgh rs).1 with
      | none => rfl
      | some st => rw [hw] at hf; cases hf
    rw [hz]
    generalize (chkW rs).1 = C1 at HC9
    generalize (chkW rs).2 = C2 at HC9 h2
    have h3 : (C2 != 0) = true := by simpa using h2
    clear HW hz
    go_enter Tryd.func10, Tryd.ntmps10
    go_wp2_with (go_at_call 9; refine (HC9.out _ (HGR.out _ ((Grown.refl _).alloc _))).mono ?_; rintro e w1 ⟨rfl, hb1⟩)
    go_ret
    exact ⟨rfl, (((Grown.refl _).alloc _).below).trans (hb1.mono (by simp))⟩
  | true =>
    obtain ⟨st, hw⟩ := wgh_zero2 hf
    have hF := wgh_fin hw
    rw [chkW_fea hf] at HC9
    have HL : Hid (∀ V, Below w.heap.size w V → Calls Tryd.prog 30 #[.slice ra n rc] V (LeA V rs)) := fun V hb => leastA _ rs V (HPP.out V hb) (fea_all hw) hF.cp
    have hwp := wgtP_eq hw u
    by_cases hu : wd u = 0
    · rw [if_pos hu] at hwp
      rw [hwp]
      rw [hu] at HW
      clear hwp hu hF
      go_enter Tryd.func10, Tryd.ntmps10
      go_wp2_with (first | (go_at_call 9; refine (HC9.out _ (HGR.out _ ((Grown.refl _).alloc _))).mono ?_; rintro e w1 ⟨rfl, hb1⟩) | (go_at_call 21; refine (HW.out _).mono ?_; rintro e w2 ⟨rfl, rfl⟩))
      go_ret
      exact ⟨rfl, (((Grown.refl _).alloc _).below).trans (hb1.mono (by simp))⟩
    · rw [if_neg hu] at hwp
      rw [hwp]
      have hu0 := wd_pos hu
      have HWK : Hid (∀ L W, Srt (0 :: bords rs) L → Fx rs L W → (∀ st, Fin rs st → WB rs st L W) → bAt W (plc L u) = wgtK rs st.ws u rs.length) := fun L W h1 h2 h3 => h2.weight h3 h1 hw hu0
      generalize wgtK rs st.ws u rs.length = R at HWK
      have hun : (wd u == 0) = false := by simpa using hu
      generalize wd u = d at HW hun
      clear hwp hF
      go_enter Tryd.func10, Tryd.ntmps10
      go_wp2_with fail
      refine (HC9.out _ (HGR.out _ ((Grown.refl _).alloc _))).mono ?_
      rintro e w1 ⟨rfl, hb1⟩
      have HB1 : Hid (Below w.heap.size w w1) := (((Grown.refl _).alloc _).below).trans (hb1.mono (by simp))
      have c1 : w1.cell? ⟨w.heap.size, 0, none⟩ = some (.slice ra n rc) := cell_below (by simp) hb1 (Nat.le_refl _)
      clear hb1
      go_wp2_with (go_at_call 21; refine (HW.out _).mono ?_; rintro e w2 ⟨rfl, rfl⟩)
      refine (HL.out _ HB1.out).mono ?_
      rintro e w3 ⟨lv, wv, ⟨l1, l2, l3, rfl⟩, ⟨q1, q2, q3, rfl⟩, rfl, hb3, hX⟩
      obtain ⟨L, W, hIL, hIW, hLn, hS, hFx, hWB⟩ := hX hf
      have hval := HWK.out L W hS hFx hWB
      have hpos : 0 < L.length := List.length_pos_of_mem ((hS.m 0).2 (by simp))
      have hp := plc_lt u hpos
      have hlW := hFx.e
      have HB3 : Hid (∀ V, Grown w3 V → Below w.heap.size w V) := fun V hg => (HB1.out.trans (hb3.mono HB1.out.size)).trans (hg.below.mono (by have := HB1.out.size; have := hb3.size; omega))
      obtain ⟨qg, qo, hq, cq⟩ := ir_cell hIW (j := plc L u) (by omega)
      have hqn : q2 = L.length := by obtain ⟨_, _, e, _⟩ := hIW; injection e with _ e2 _; omega
      subst hq hqn
      rw [hval] at cq
      have HC : Hid (∀ m os, Calls Tryd.prog 31 #[.slice l1 l2 l3, .int .i64 u] (Go.Sort.grow ((w3.alloc (.cells #[.slice l1 l2 l3, .slice (some ⟨qg, qo, none⟩) L.length q3] 70)).drewN m) os) fun e w' => e = .returned (.int .i64 (plc L u)) ∧ Grown (Go.Sort.grow ((w3.alloc (.cells #[.slice l1 l2 l3, .slice (some ⟨qg, qo, none⟩) L.length q3] 70)).drewN m) os) w') := fun m os => (place_any _ L u _ (hIL.grown (((Grown.refl w3).alloc _).quiet m os)) (by omega)).mono fun e w' ⟨h1, h2⟩ => ⟨h1, by rw [h2]; exact Grown.refl _⟩
      generalize plc L u = pl at HC hp cq
      have hpI : (pl : Int) < (L.length : Int) := by omega
      have hp0 : (0 : Int) ≤ (pl : Int) := by omega
      generalize L.length = N at HC hp hpI cq
      have d0 := fun m os => (((Grown.refl w3).alloc (.cells #[.slice l1 l2 l3, .slice (some ⟨qg, qo, none⟩) N q3] 70)).quiet m os).cellv cq
      have d1 := fun m os => ((Grown.refl (w3.alloc (.cells #[.slice l1 l2 l3, .slice (some ⟨qg, qo, none⟩) N q3] 70))).quiet m os).cellv (a := ⟨w3.heap.size, 0, none⟩) (v := .slice l1 l2 l3) (by simp)
      have d2 := fun m os => ((Grown.refl (w3.alloc (.cells #[.slice l1 l2 l3, .slice (some ⟨qg, qo, none⟩) N q3] 70))).quiet m os).cellv (a := ⟨w3.heap.size, 1, none⟩) (v := .slice (some ⟨qg, qo, none⟩) N q3) (by simp)
      clear hIL hIW hS hFx hWB hval hX hb3 HWK hLn HL HC9 HW c1 hlW hpos
      go_wp2
      refine wp_region_quiet_grown mixed (by kernel_rfl) ?_
      repeat (go_big_quiet_step ((go_at_call 31; exact grown_of (HC.out _ _))))
      refine wpQuiet_nil ?_
      intro _ hw'
      obtain ⟨⟨nq, osq⟩, hw''⟩ := hw'
      subst hw''
      go_wp2
      go_ret
      exact ⟨rfl, HB3.out _ (by (repeat (first | exact Grown.refl _ | refine Grown.alloc ?_ _ | refine Grown.drew ?_ | refine Grown.drewN ?_ _ | refine Grown.quiet ?_ _ _)))⟩

theorem sumW_at {rs : List Rl} {ws : List Int} {l : List (Nat × Nat)} {k : Nat} (hk : k < l.length) : sumW rs ws (l.take (k + 1)) = sumW rs ws (l.take k) + wgtK rs ws ((l[k].2 : Nat) : Int) rs.length := by
  rw [List.take_add_one, List.getElem?_eq_getElem hk]
  exact sumW_snoc rs ws _ _
set_option maxHeartbeats 8000000 in
theorem rbound_any (v : Value) (rs : List Rl) (s : ByteArray) (w : World) (h : PsR w v rs) (hs : s.size ≤ 4398046511104) : Calls Tryd.prog 11 #[.agg #[v], .string s] w fun e w' => e = .returned (.int .i64 (bndP rs s)) ∧ Below w.heap.size w w' := by
  have HC9 : Hid (∀ V, Below w.heap.size w V → Calls Tryd.prog 9 #[.agg #[v]] V fun e w' => e = .returned (.tuple #[.int .i64 (chkW rs).1, .int .i64 (chkW rs).2]) ∧ Below V.heap.size V w') := fun V hb => rchkA v rs V (h.below hb (Nat.le_refl _))
  have HCu : Hid (∀ V, Calls Tryd.prog 17 #[.string s] V fun e w' => ∃ v, e = .returned v ∧ IR w' v (intsU (units s)) ∧ Below V.heap.size V w') := fun V => rcut_any s V hs
  have HGR : Hid (∀ V, Grown w V → Below w.heap.size w V) := fun V hg => hg.below
  have HPP : Hid (∀ V, Below w.heap.size w V → PsR V v rs) := fun V hb => h.below hb (Nat.le_refl _)
  obtain ⟨ra, rc, hv, hx1, hx2⟩ := h
  subst hv
  clear hx1 hx2
  obtain ⟨n, hN⟩ : ∃ n, rs.length = n := ⟨_, rfl⟩
  rw [hN] at HC9 HPP ⊢
  clear hN
  cases hf : fea rs with
  | false =>
    have h2 := fea_chk hf
    have hz : bndP rs s = 0 := by
      unfold fea at hf
      unfold bndP
      cases hw : (wgh rs).1 with
      | none => rfl
      | some st => rw [hw] at hf; cases hf
    rw [hz]
    generalize (chkW rs).1 = C1 at HC9
    generalize (chkW rs).2 = C2 at HC9 h2
    have h3 : (C2 != 0) = true := by simpa using h2
    clear HCu hz
    go_enter Tryd.func11, Tryd.ntmps11
    go_wp2_with (go_at_call 9; refine (HC9.out _ (HGR.out _ ((Grown.refl _).alloc _))).mono ?_; rintro e w1 ⟨rfl, hb1⟩)
    go_ret
    exact ⟨rfl, (((Grown.refl _).alloc _).below).trans (hb1.mono (by simp))⟩
  | true =>
    obtain ⟨st, hw⟩ := wgh_zero2 hf
    have hF := wgh_fin hw
    rw [chkW_fea hf] at HC9
    have HL : Hid (∀ V, Below w.heap.size w V → Calls Tryd.prog 30 #[.slice ra n rc] V (LeA V rs)) := fun V hb => leastA _ rs V (HPP.out V hb) (fea_all hw) hF.cp
    have hbp : bndP rs s = sumW rs st.ws (units s) := by unfold bndP; rw [hw]
    rw [hbp]
    have HWK : Hid (∀ L W, Srt (0 :: bords rs) L → Fx rs L W → (∀ st, Fin rs st → WB rs st L W) → ∀ u : Nat, bAt W (plc L u) = wgtK rs st.ws u rs.length) := fun L W h1 h2 h3 u => h2.weight h3 h1 hw (by omega)
    have HSB : Hid (∀ k, 0 ≤ sumW rs st.ws ((units s).take k) ∧ sumW rs st.ws ((units s).take k) ≤ 64 * ((units s).take k).length) := fun k => sumW_bound (fun i hi => hF.ws_in hi) _
    have HWB2 : Hid (∀ u : Nat, 1 ≤ wgtK rs st.ws u rs.length ∧ wgtK rs st.ws u rs.length ≤ 64) := fun u => hF.wK_in u
    obtain ⟨us, hus⟩ : ∃ us, units s = us := ⟨_, rfl⟩
    have hul : us.length ≤ s.size := by rw [← hus]; exact units_len s
    rw [hus] at HCu HSB ⊢
    clear hbp hF hus hw
    go_enter Tryd.func11, Tryd.ntmps11
    go_wp2_with fail
    refine (HC9.out _ (HGR.out _ ((Grown.refl _).alloc _))).mono ?_
    rintro e w1 ⟨rfl, hb1⟩
    have HB1 : Hid (Below w.heap.size w w1) := (((Grown.refl _).alloc _).below).trans (hb1.mono (by simp))
    have c1 : w1.cell? ⟨w.heap.size, 0, none⟩ = some (.slice ra n rc) := cell_below (by simp) hb1 (Nat.le_refl _)
    clear hb1
    go_wp2_with fail
    refine (HL.out _ HB1.out).mono ?_
    rintro e w3 ⟨lv, wv, ⟨l1, l2, l3, rfl⟩, ⟨q1, q2, q3, rfl⟩, rfl, hb3, hX⟩
    obtain ⟨L, W, hIL, hIW, hLn, hS, hFx, hWB⟩ := hX hf
    have hval := HWK.out L W hS hFx hWB
    have hpos : 0 < L.length := List.length_pos_of_mem ((hS.m 0).2 (by simp))
    have hlW := hFx.e
    have HB3 : Hid (Below w.heap.size w w3) := HB1.out.trans (hb3.mono HB1.out.size)
    have HIL : Hid (IR w3 (.slice l1 l2 l3) L) := hIL
    have HIW : Hid (IR w3 (.slice q1 q2 q3) W) := hIW
    have hqn : q2 = L.length := by obtain ⟨_, _, e, _⟩ := hIW; injection e with _ e2 _; omega
    subst hqn
    have HVAL : Hid (∀ u : Nat, bAt W (plc L u) = wgtK rs st.ws u rs.length) := hval
    have HLN : Hid (0 < L.length ∧ L.length ≤ 4500000 ∧ W.length = L.length) := ⟨hpos, hLn, hlW⟩
    clear hIL hIW hS hFx hWB hval hX hb3 HWK hLn HL HC9 c1 hlW hpos
    go_wp2_with fail
    obtain ⟨w4, hw4⟩ : ∃ w4, w4 = w3.alloc (.cells #[.slice l1 l2 l3, .slice q1 L.length q3] 70) := ⟨_, rfl⟩
    have HG4 : Hid (Grown w3 w4) := by rw [hw4]; exact (Grown.refl _).alloc _
    obtain ⟨sp, hsp⟩ : ∃ sp, w3.heap.size = sp := ⟨_, rfl⟩
    have d1 : w4.cell? ⟨sp, 0, none⟩ = some (.slice l1 l2 l3) := by rw [hw4, ← hsp]; simp
    have d2 : w4.cell? ⟨sp, 1, none⟩ = some (.slice q1 L.length q3) := by rw [hw4, ← hsp]; simp
    rw [← hw4, hsp]
    clear hw4 hsp
    refine (HCu.out _).mono ?_
    rintro e w5 ⟨uv, rfl, hIU, hb5⟩
    have e1 := cell_below d1 hb5 (Nat.le_refl _)
    have e2 := cell_below d2 hb5 (Nat.le_refl _)
    have HB5 : Hid (Below w.heap.size w w5) := (HB3.out.trans (HG4.out.below.mono HB3.out.size)).trans (hb5.mono (by have := HB3.out.size; have := HG4.out.size; omega))
    have HIL5 : Hid (IR w5 (.slice l1 l2 l3) L) := (HIL.out.grown HG4.out).below hb5 (Nat.le_refl _)
    have HIW5 : Hid (IR w5 (.slice q1 L.length q3) W) := (HIW.out.grown HG4.out).below hb5 (Nat.le_refl _)
    have HIU : Hid (IR w5 uv (intsU us)) := hIU
    obtain ⟨u1, u3, huv, hx1, hx2⟩ := hIU
    subst huv
    clear hx1 hx2 hb5 d1 d2 HIL HIW HG4
    obtain ⟨M, hM⟩ : ∃ M, (intsU us).length = M := ⟨_, rfl⟩
    have HM : Hid (us.length = M) := (by rw [← hM]; simp [intsU] : us.length = M)
    have hMI : (M : Int) ≤ 4398046511104 := by have := HM.out; omega
    rw [hM] at HIU ⊢
    clear hM hul
    go_wp2
    go_loopw [10, 11] (fun v8 v9 wr => ∃ k : Nat, v8 = .int .i64 (sumW rs st.ws (us.take k)) ∧ v9 = .int .i64 k ∧ k ≤ M ∧ Grown w5 wr) (fun _ v9 _ => M - (intOf v9).toNat)
    case atStart => exact ⟨0, rfl, rfl, by omega, by (repeat (first | exact Grown.refl _ | refine Grown.alloc ?_ _ | refine Grown.drew ?_ | refine Grown.drewN ?_ _ | refine Grown.quiet ?_ _ _))⟩
    case round =>
      obtain ⟨k, rfl, rfl, hk, hG⟩ := hrel
      have hk0 : (0 : Int) ≤ (k : Int) := by omega
      by_cases hlt : k < M
      · have hltI : (k : Int) < (M : Int) := by omega
        have hku : k < us.length := by rw [HM.out]; exact hlt
        have hkI : k < (intsU us).length := by simp [intsU]; exact hku
        obtain ⟨ug, uo, hua, cu⟩ := ir_cell (HIU.out.grown hG) (j := k) hkI
        have hbu : bAt (intsU us) k = ((us[k].2 : Nat) : Int) := by simp [bAt, intsU, hku]
        rw [hbu] at cu
        subst hua
        obtain ⟨u, hu⟩ : ∃ u, us[k].2 = u := ⟨_, rfl⟩
        have hsum := sumW_at (rs := rs) (ws := st.ws) hku
        rw [hu] at cu hsum
        have hp := plc_lt (l := L) (u : Int) HLN.out.1
        obtain ⟨qg, qo, hq, cq⟩ := ir_cell (HIW5.out.grown hG) (j := plc L u) (by have := HLN.out.2.2; omega)
        subst hq
        rw [HVAL.out u] at cq
        have hW1 := HWB2.out u
        have hS1 := HSB.out k
        have hS2 : ((us.take k).length : Int) ≤ M := by simp; omega
        have HC : Hid (∀ m os, Calls Tryd.prog 31 #[.slice l1 l2 l3, .int .i64 u] (Go.Sort.grow (wr.drewN m) os) fun e w' => e = .returned (.int .i64 (plc L u)) ∧ Grown (Go.Sort.grow (wr.drewN m) os) w') := fun m os => (place_any _ L u _ ((HIL5.out.grown hG).grown ((Grown.refl wr).quiet m os)) (by have := HLN.out.2.1; omega)).mono fun e w' ⟨h1, h2⟩ => ⟨h1, by rw [h2]; exact Grown.refl _⟩
        generalize plc L u = pl at HC hp cq
        have hpI : (pl : Int) < (L.length : Int) := by omega
        have hp0 : (0 : Int) ≤ (pl : Int) := by omega
        have HSM : Hid (sumW rs st.ws (us.take (k + 1)) = sumW rs st.ws (us.take k) + wgtK rs st.ws u rs.length) := hsum
        generalize wgtK rs st.ws u rs.length = x at cq hW1 HSM
        generalize sumW rs st.ws (us.take k) = S at hS1 HSM
        have hSx : 0 ≤ S + x ∧ S + x ≤ 9000000000000000000 := by omega
        have d0 := fun m os => ((Grown.refl wr).quiet m os).cellv cq
        have d1 := fun m os => ((Grown.refl wr).quiet m os).cellv (hG.cellv e1)
        have d2 := fun m os => ((Grown.refl wr).quiet m os).cellv (hG.cellv e2)
        have d3 := fun m os => ((Grown.refl wr).quiet m os).cellv cu
        clear hsum hbu
        go_wp2
        refine wp_region_quiet_grown mixed (by kernel_rfl) ?_
        repeat (go_big_quiet_step ((go_at_call 31; exact grown_of (HC.out _ _))))
        refine wpQuiet_nil ?_
        intro _ hw'
        obtain ⟨⟨nq, osq⟩, hw''⟩ := hw'
        subst hw''
        go_wp2
        exact ⟨⟨k + 1, by rw [HSM.out], by go_num, by omega, hG.trans ((Grown.refl wr).quiet _ _)⟩, by simp [intOf]; omega⟩
      · have hge : ¬ (k : Int) < (M : Int) := by omega
        have hkM : k = us.length := by have := HM.out; omega
        have HRR : Hid (sumW rs st.ws (us.take k) = sumW rs st.ws us) := by rw [hkM, List.take_length]; exact rfl
        clear hkM
        go_wp2
        go_ret
        exact ⟨by rw [HRR.out]; rfl, HB5.out.trans (hG.below.mono HB5.out.size)⟩

set_option maxHeartbeats 16000000 in
theorem tells_law (v : Value) (rs : List Rl) (u : Int) (s : ByteArray) (w : World) (hT : Tab w) (hP : PsR w v rs) (hl : rs.length ≤ 1048576) (hz : ∀ r ∈ rs, Go.Proofs.YtkijbaofhodplaaDoor.Small r 1048576) (hs : s.size ≤ 4398046511104) :
    Calls Tryd.prog 3 #[.agg #[v], .int .i64 u, .string s] w fun e w' => e = .returned (.bool true) ∧ Below w.heap.size w w' := by
  have HT : Hid (Tab w) := hT
  have HP : Hid (∀ W, Below w.heap.size w W → PsR W v rs) := fun W hb => hP.below hb (Nat.le_refl _)
  have HTB : Hid (∀ W, Below w.heap.size w W → Tab W) := fun W hb => hT.below hb hT.pos
  have HB : Hid (∀ W, Grown w W → Calls Tryd.prog 7 #[.agg #[v]] W (BeyQ W)) := fun W hg => beyond_any v rs W (hP.grown hg) (by unfold maxLen; omega) (fun r hr => ⟨by have := (hz r hr).na; unfold maxLen; omega, by have := (hz r hr).nk; unfold maxLen; omega, by have := (hz r hr).np; unfold maxLen; omega, by have := (hz r hr).nr; unfold maxLen; omega⟩)
  have HSh : Hid (∀ W, Below w.heap.size w W → Calls Tryd.prog 8 #[] W fun e w' => e = .returned (.bool true) ∧ Below W.heap.size W w') := fun W hb => shown_any W (hT.below hb hT.pos)
  have H9 : Hid (∀ W, Below w.heap.size w W → Calls Tryd.prog 9 #[.agg #[v]] W fun e w' => e = .returned (.tuple #[.int .i64 (chkW rs).1, .int .i64 (chkW rs).2]) ∧ Below W.heap.size W w') := fun W hb => rchkA v rs W (hP.below hb (Nat.le_refl _))
  have H10 : Hid (∀ W, Below w.heap.size w W → Calls Tryd.prog 10 #[.agg #[v], .int .i64 u] W fun e w' => e = .returned (.int .i64 (wgtP rs u)) ∧ Below W.heap.size W w') := fun W hb => rweight_any v rs u W (hP.below hb (Nat.le_refl _))
  have H11 : Hid (∀ W, Below w.heap.size w W → Calls Tryd.prog 11 #[.agg #[v], .string s] W fun e w' => e = .returned (.int .i64 (bndP rs s)) ∧ Below W.heap.size W w') := fun W hb => rbound_any v rs s W (hP.below hb (Nat.le_refl _)) hs
  have H12 := Hid.mk' (fun W (hb : Below w.heap.size w W) => lend_any v rs W (hP.below hb (Nat.le_refl _)) hl hz)
  have H13 : Hid (∀ W x, Below w.heap.size w W → PsR W x rs → Calls Tryd.prog 13 #[.agg #[x]] W fun e w' => e = .returned (.tuple #[.int .i64 (chkW rs).1, .int .i64 (chkW rs).2]) ∧ Below W.heap.size W w') := fun W x hb hx => wcheck_any x rs W (hT.below hb hT.pos) hx
  have H14 : Hid (∀ W x, Below w.heap.size w W → PsR W x rs → Calls Tryd.prog 14 #[.agg #[x], .int .i64 u] W fun e w' => e = .returned (.int .i64 (wgtP rs u)) ∧ Below W.heap.size W w') := fun W x hb hx => wweight_any x rs u W (hT.below hb hT.pos) hx
  have H15 : Hid (∀ W x, Below w.heap.size w W → PsR W x rs → Calls Tryd.prog 15 #[.agg #[x], .string s] W fun e w' => e = .returned (.int .i64 (bndP rs s)) ∧ Below W.heap.size W w') := fun W x hb hx => bound_any x rs s W (hT.below hb hT.pos) hx (by omega)
  have HZ := Hid.mk' hz
  obtain ⟨va, vc, hv, hx1, hx2⟩ := hP
  clear hx1 hx2
  obtain ⟨n, hn⟩ : ∃ n, rs.length = n := ⟨_, rfl⟩
  have HN : Hid (rs.length = n) := hn
  rw [hn] at hv hl H12
  subst hv
  generalize (chkW rs).1 = c1 at *
  generalize (chkW rs).2 = c2 at *
  generalize wgtP rs u = wt at *
  generalize bndP rs s = bd at *
  clear hT hn hz hs
  obtain ⟨W0, hW0⟩ : ∃ W0, W0 = w.alloc (.cells #[.slice va n vc] 24) := ⟨_, rfl⟩
  have HG0 : Hid (Grown w W0) := by show Grown _ _; rw [hW0]; exact (Grown.refl _).alloc _
  have d0 : W0.cell? ⟨w.heap.size, 0, none⟩ = some (.slice va n vc) := by rw [hW0]; simp
  have HUP : Hid (∀ V, Below W0.heap.size W0 V → Below w.heap.size w V) := fun V hb => HG0.out.below.trans (hb.mono HG0.out.size)
  go_enter Tryd.func3, Tryd.ntmps3
  go_wp2_with fail
  rw [← hW0]
  clear hW0
  refine (HB.out W0 HG0.out).mono ?_
  rintro e W1 ⟨bb, rfl, hg1⟩
  have HB1 : Hid (Below W0.heap.size W0 W1) := hg1.below
  clear hg1 HB
  cases bb with
  | true =>
    as_aux_lemma =>
      go_wp2
      go_ret
      exact ⟨rfl, HUP.out _ HB1.out⟩
  | false =>
    go_wp2_with fail
    refine (HSh.out W1 (HUP.out _ HB1.out)).mono ?_
    rintro e W2 ⟨rfl, hb2⟩
    have HB2 : Hid (Below W0.heap.size W0 W2) := HB1.out.trans (hb2.mono HB1.out.size)
    have d2 := cell_below d0 HB2.out (Nat.le_refl _)
    clear hb2 HB1 HSh
    go_wp2_with fail
    refine (H9.out W2 (HUP.out _ HB2.out)).mono ?_
    rintro e W3 ⟨rfl, hb3⟩
    have HB3 : Hid (Below W0.heap.size W0 W3) := HB2.out.trans (hb3.mono HB2.out.size)
    have d3 := cell_below d0 HB3.out (Nat.le_refl _)
    clear hb3 HB2 H9 d2
    go_wp2_with fail
    refine (H10.out W3 (HUP.out _ HB3.out)).mono ?_
    rintro e W4 ⟨rfl, hb4⟩
    have HB4 : Hid (Below W0.heap.size W0 W4) := HB3.out.trans (hb4.mono HB3.out.size)
    have d4 := cell_below d0 HB4.out (Nat.le_refl _)
    clear hb4 HB3 H10 d3
    go_wp2_with fail
    refine (H11.out W4 (HUP.out _ HB4.out)).mono ?_
    rintro e W5 ⟨rfl, hb5⟩
    have HB5 : Hid (Below W0.heap.size W0 W5) := HB4.out.trans (hb5.mono HB4.out.size)
    clear hb5 HB4 H11 d4
    go_wp2
    go_loopw [11] (fun vi wr => ∃ i : Nat, vi = .int .i64 i ∧ i ≤ 2 ∧ Hid (Below W0.heap.size W0 wr)) (fun vi _ => 2 - (intOf vi).toNat)
    case atStart => exact ⟨0, rfl, by omega, HB5⟩
    case round =>
      obtain ⟨i, rfl, hi, HBr⟩ := hrel
      have hi0 : (0 : Int) ≤ (i : Int) := by omega
      have dr := cell_below d0 HBr.out (Nat.le_refl _)
      by_cases hlt : i < 2
      · have hltI : (i : Int) < 2 := by omega
        go_wp2_with fail
        refine (H12.out wr (HUP.out _ HBr.out)).mono ?_
        rintro e w1 ⟨base, xb, rv, sv, gv, cv, G, S, C, R, rg, c, hbs, rfl, hrv, hLX, hRm, hb1⟩
        subst hrv
        have hRl : R.length = n := by rw [← HN.out, ← hRm]; simp
        have HLX := Hid.mk' hLX
        have HRM : Hid (R.map LRu.rl = rs ∧ R.length = n) := ⟨hRm, hRl⟩
        have HPS : Hid (∀ V, Below w1.heap.size w1 V → PsR V (.slice (some ⟨rg, 0, none⟩) n c) rs) := fun V hb => by
          have hL := hLX.below hb (Nat.le_refl _)
          have := LX.psr (w := V) (base := base) (xb := xb) (R := R) (by rw [hRl]; exact hL) (g := rg) (c := c) (by rw [hRl])
          rw [hRl, hRm] at this
          exact this
        have HB1 : Hid (Below W0.heap.size W0 w1) := HBr.out.trans (hb1.mono HBr.out.size)
        have HBS : Hid (W0.heap.size ≤ base) := by have := HBr.out.size; show _ ≤ _; omega
        have x1 : w1.cell? ⟨xb, 0, none⟩ = some (.slice (some ⟨rg, 0, none⟩) n c) := by rw [cell_of hLX.x]; rfl
        clear hLX hRm hb1 hRl hbs
        go_wp2_with fail
        refine (H13.out w1 _ (HUP.out _ HB1.out) (HPS.out w1 (Below.refl _ _))).mono ?_
        rintro e w2 ⟨rfl, hb2⟩
        have HB2 : Hid (Below w1.heap.size w1 w2) := hb2
        have x2 := cell_below x1 hb2 (Nat.le_refl _)
        clear hb2
        go_wp2_with fail
        refine (H14.out w2 _ (HUP.out _ (HB1.out.trans (HB2.out.mono HB1.out.size))) (HPS.out w2 HB2.out)).mono ?_
        rintro e w3 ⟨rfl, hb3⟩
        have HB3 : Hid (Below w1.heap.size w1 w3) := HB2.out.trans (hb3.mono HB2.out.size)
        have x3 := cell_below x1 HB3.out (Nat.le_refl _)
        clear hb3
        go_wp2_with fail
        refine (H15.out w3 _ (HUP.out _ (HB1.out.trans (HB3.out.mono HB1.out.size))) (HPS.out w3 HB3.out)).mono ?_
        rintro e w4 ⟨rfl, hb4⟩
        have HB4 : Hid (Below w1.heap.size w1 w4) := HB3.out.trans (hb4.mono HB3.out.size)
        have HB04 : Hid (Below W0.heap.size W0 w4) := HB1.out.trans (HB4.out.mono HB1.out.size)
        have d4 := cell_below d0 HB04.out (Nat.le_refl _)
        clear hb4
        go_wp2_with fail
        refine (still_lx (HLX.out.below HB4.out (Nat.le_refl _)) rfl HRM.out.1 HN.out _ (HP.out w4 (HUP.out _ HB04.out)) hl HZ.out).mono ?_
        rintro e w5 ⟨rfl, hb5⟩
        have HB5' : Hid (Below W0.heap.size W0 w5) := HB04.out.trans (hb5.mono HBS.out)
        clear hb5
        go_wp2
        exact ⟨⟨i + 1, by go_num, by omega, HB5'⟩, by simp [intOf]; omega⟩
      · have hge : ¬ (i : Int) < 2 := by omega
        go_wp2
        go_ret
        exact ⟨rfl, HUP.out _ HBr.out⟩
end Go.Proofs
