/-
  MatchBest: its law.
-/
import Derived.RangeFuncNested
import Derived.RangeFuncBound
import Derived.RangeFuncCalls
import Derived.RangeFuncLeaves
import Derived.Shelf.Abstract
import Derived.Shelf.RegionOpen
import Derived.WalkKit
import Derived.WalkSpells
import Derived.WalkLawsBesides
import Derived.OwnWalkIn
import Derived.TacticsInMore
import Derived.LoopNIn
import Derived.LoopIn
import Derived.BigQuiet
import Derived.RegionIn
import Derived.Deep.QuietTactic
import Derived.Deep.RegionWith
import Derived.Lib.OthersKept
import Derived.Maps.AppendAt
import Derived.Lib.SmallJoins
import Derived.Shelf.SlSortCmp.QuietGrown
import Derived.Test.YtpppcfppabghhaaDoorNf
namespace Go.Proofs
open Go.RowKit Go.Shelf

set_option maxRecDepth 100000
attribute [local go_sem] Oper.semAt_some
attribute [local go_sem ↓] Go.wp_at_zero Go.wp_at_succ

theorem psr_at {w : World} {ra : Option Addr} {n rc : Nat} {rs : List Rl} (h : PsR w (.slice ra n rc) rs) (h0 : rs ≠ []) : ∃ g o, ra = some ⟨g, o, none⟩ ∧ ∀ (j : Nat) (hj : j < rs.length), RAt w g (o + j * 7) rs[j] := by
  obtain ⟨a', c', e', _, hP⟩ := h
  obtain ⟨g, o, ha', hP2⟩ := hP.resolve_left h0
  injection e' with e1 e2 e3
  exact ⟨g, o, e1.trans ha', hP2⟩
set_option maxHeartbeats 8000000 in
theorem best_any (v dv lv : Value) (rs : List Rl) (d l : List Int) (w : World) (hT : Tab w) (h : PsR w v rs) (hd : IR w dv d) (hl : IR w lv l) (hdn : d.length ≤ 9223372036854775807) :
    Calls Tryd.prog 5 #[.agg #[v], dv, lv] w fun e w' => e = .returned (.bool true) ∧ Grown w w' := by
  have HSh : Hid (∀ V, Grown w V → Calls Tryd.prog 7 #[] V fun e w' => e = .returned (.bool true) ∧ Grown V w') := fun V hg => shown_any V (hT.grown hg)
  have HF : Hid (∀ V, Grown w V → Calls Tryd.prog 11 #[.agg #[v], dv, lv] V fun e w' => e = .returned (.int .i64 (fdF rs d l)) ∧ Grown V w') := fun V hg => find_any9 v dv lv rs d l V (hT.grown hg) (h.grown hg) (hd.grown hg) (hl.grown hg) hdn
  have HA : Hid (∀ V, Grown w V → Calls Tryd.prog 19 #[.agg #[v]] V fun e w' => e = .returned (.tuple #[.int .i64 (allE rs).1, .int .i64 (allE rs).2]) ∧ Grown V w') := fun V hg => all_any v rs V (hT.grown hg) (h.grown hg)
  have HP : Hid (∀ V, Grown w V → PsR V v rs) := fun V hg => h.grown hg
  have HS : Hid (∀ (V : World) (r : Rl) (av kv pv rv : Value), Grown w V → RR V av kv pv rv r → Calls Tryd.prog 13 #[.agg #[.bool r.bg, av, kv, pv, .bool r.en, rv, .int .i64 r.cu], dv, lv] V fun e w' => e = .returned (.bool (fitsB r d l)) ∧ Grown V w') := fun V r av kv pv rv hg hr => fits_any r av kv pv rv dv lv d l V (hT.grown hg) hr (hd.grown hg) (hl.grown hg) hdn
  obtain ⟨d1, d2, d3, rfl⟩ := hd.sl
  obtain ⟨l1, l2, l3, rfl⟩ := hl.sl
  obtain ⟨ra, rc, hv, hx1, hx2⟩ := h
  subst hv
  clear hx1 hx2 hd hl hdn hT
  obtain ⟨n, hN⟩ : ∃ n, rs.length = n := ⟨_, rfl⟩
  have HN : Hid (rs.length = n) := hN
  have HU : Hid ((allE rs).2 = 0 → (n ≤ 256 ∧ ∀ r ∈ rs, chk r = 0) ∧ ∃ m, Best rs d l n (fdF rs d l, m)) := fun h0 => by
    rw [← hN]; exact ⟨allE_chk h0, fdF_best d l h0⟩
  have HU2 : Hid ((allE rs).2 ≠ 0 → fdF rs d l = -1) := fun h0 => by
    show fdF rs d l = -1
    unfold fdF; rw [if_neg h0]
  rw [hN] at HF HA HP ⊢
  generalize (allE rs).1 = E1 at HA
  obtain ⟨E2, hE2⟩ : ∃ E2, (allE rs).2 = E2 := ⟨_, rfl⟩
  rw [hE2] at HA HU HU2
  obtain ⟨b, hb⟩ : ∃ b, fdF rs d l = b := ⟨_, rfl⟩
  rw [hb] at HF HU HU2
  clear hN hE2 hb
  obtain ⟨wB, hwB⟩ : ∃ wB, wB = w.alloc (.cells #[.slice ra n rc] 24) := ⟨_, rfl⟩
  have HGB : Hid (Grown w wB) := by show Grown _ _; rw [hwB]; exact (Grown.refl _).alloc _
  have cB : wB.cell? ⟨w.heap.size, 0, none⟩ = some (.slice ra n rc) := by rw [hwB]; exact cell_fst rfl
  obtain ⟨B, hB⟩ : ∃ B, w.heap.size = B := ⟨_, rfl⟩
  have HW := Hid.mk' hwB
  go_enter Tryd.func5, Tryd.ntmps5
  go_wp2_with fail
  try rw [← HW.out]
  rw [hB] at cB
  try rw [hB]
  clear hwB hB HW
  refine (HSh.out _ HGB.out).mono ?_
  rintro e w1 ⟨rfl, hg1⟩
  have c1 := hg1.cellv cB
  have HG1 := Hid.mk' (HGB.out.trans hg1)
  clear hg1 cB HGB HSh
  go_wp2_with fail
  refine (HF.out _ HG1.out).mono ?_
  rintro e w2 ⟨rfl, hg2⟩
  have c2 := hg2.cellv c1
  have HG2 := Hid.mk' (HG1.out.trans hg2)
  clear hg2 c1 HG1 HF
  go_wp2_with fail
  refine (HA.out _ HG2.out).mono ?_
  rintro e w3 ⟨rfl, hg3⟩
  have c3 := hg3.cellv c2
  have HG3 := Hid.mk' (HG2.out.trans hg3)
  clear hg3 c2 HG2 HA
  by_cases h0 : E2 = 0
  · subst h0
    have hU := HU.out rfl
    obtain ⟨⟨hn256, hck⟩, m, hbest⟩ := hU
    have HCK := Hid.mk' hck
    have hnI : (n : Int) ≤ 256 := by omega
    clear HU HU2 hck
    rcases hbest with ⟨e, hnone⟩ | ⟨j, hj, hjn, e, hfj, hbest⟩
    · obtain ⟨e1, _⟩ := Prod.mk.inj e
      subst e1
      have HNO : Hid (∀ (i : Nat) (hi : i < rs.length), fitsB rs[i] d l = false) := fun i hi => by rw [fitsB_of (HCK.out _ (List.getElem_mem hi))]; exact hnone i hi (by rw [← HN.out]; exact hi)
      clear e hnone HCK
      go_wp2_with fail
      go_loopw [54] (fun vi wr => ∃ k : Nat, vi = .int .i64 k ∧ k ≤ n ∧ Grown w3 wr) (fun vi _ => n - (intOf vi).toNat)
      case atStart => exact ⟨0, rfl, by omega, Grown.refl _⟩
      case round =>
        obtain ⟨k, rfl, hk, hG⟩ := hrel
        have hk0 : (0 : Int) ≤ (k : Int) := by omega
        by_cases hlt : k < n
        · have hlt' : (k : Int) < (n : Int) := by omega
          have hkl : k < rs.length := by rw [HN.out]; exact hlt
          obtain ⟨g, o, ha', hP2⟩ := psr_at (HP.out wr (HG3.out.trans hG)) (fun e => by rw [e] at hkl; simp at hkl)
          subst ha'
          obtain ⟨av, kv, pv, rv, q0, q1, q2, q3, q4, q5, q6, hR⟩ := hP2 k hkl
          have HC : Hid (∀ V, Grown wr V → Calls Tryd.prog 13 #[.agg #[.bool rs[k].bg, av, kv, pv, .bool rs[k].en, rv, .int .i64 rs[k].cu], .slice d1 d2 d3, .slice l1 l2 l3] V fun e w' => e = .returned (.bool (fitsB rs[k] d l)) ∧ Grown V w') := fun V hg => HS.out V rs[k] av kv pv rv (HG3.out.trans (hG.trans hg)) (hR.grown hg)
          rw [HNO.out k hkl] at HC
          obtain ⟨k1, k2, k3, rfl⟩ := hR.k.sl
          obtain ⟨a1, a2, a3, rfl⟩ := hR.a.sl
          obtain ⟨p1, p2, p3, rfl⟩ := hR.p.sl
          obtain ⟨r1, r2, r3, rfl⟩ := hR.r.sl
          generalize rs[k].bg = xb at q0 HC
          generalize rs[k].en = xe at q4 HC
          generalize rs[k].cu = xc at q6 HC
          clear hR hP2
          as_aux_lemma =>
            go_wp2_with (go_at_call 13; refine (HC.out _ ((Grown.refl _).alloc _)).mono ?_; rintro e w4 ⟨rfl, hg4⟩)
            exact ⟨⟨k + 1, by go_num, by omega, (hG.alloc _).trans hg4⟩, by simp [intOf]; omega⟩
        · as_aux_lemma =>
            have hge : ¬ (k : Int) < (n : Int) := by omega
            go_wp2
            go_ret
            exact ⟨rfl, HG3.out.trans hG⟩
    · obtain ⟨e1, e2⟩ := Prod.mk.inj e
      subst e1 e2
      have hjI : (j : Int) < (n : Int) := by omega
      have hj0 : (0 : Int) ≤ (j : Int) := by omega
      have hj1 : ¬ (j : Int) < -1 := by omega
      have hj2 : ¬ (n : Int) ≤ (j : Int) := by omega
      have hj4 : decide (n ≤ j) = false := decide_eq_false (by omega)
      have hj5 : decide ((j : Int) < -1) = false := decide_eq_false (by omega)
      have HBE : Hid (∀ (i : Nat) (hi : i < rs.length), fitsB rs[i] d l = true → rs[i].key.length ≤ rs[j].key.length ∧ (rs[i].key.length = rs[j].key.length → j ≤ i)) := fun i hi hf => by
        rw [fitsB_of (HCK.out _ (List.getElem_mem hi))] at hf
        exact hbest i hi (by rw [← HN.out]; exact hi) hf
      have hfj2 : fitsB rs[j] d l = true := by rw [fitsB_of (HCK.out _ (List.getElem_mem hj))]; exact hfj
      obtain ⟨g, o, ha', hP2⟩ := psr_at (HP.out w3 HG3.out) (fun e => by rw [e] at hj; simp at hj)
      subst ha'
      obtain ⟨av, kv, pv, rv, q0, q1, q2, q3, q4, q5, q6, hR⟩ := hP2 j hj
      have HC : Hid (∀ V, Grown w3 V → Calls Tryd.prog 13 #[.agg #[.bool rs[j].bg, av, kv, pv, .bool rs[j].en, rv, .int .i64 rs[j].cu], .slice d1 d2 d3, .slice l1 l2 l3] V fun e w' => e = .returned (.bool (fitsB rs[j] d l)) ∧ Grown V w') := fun V hg => HS.out V rs[j] av kv pv rv (HG3.out.trans hg) (hR.grown hg)
      rw [hfj2] at HC
      have HP2 : Hid (∀ V, Grown w3 V → ∀ (i : Nat) (hi : i < rs.length), RAt V g (o + i * 7) rs[i]) := fun V hg i hi => (hP2 i hi).below hg.below (Nat.le_refl _)
      obtain ⟨k1, kc, hkv, hx1, hx2⟩ := hR.k
      clear hx1 hx2
      obtain ⟨jn, hjn'⟩ : ∃ jn, rs[j].key.length = jn := ⟨_, rfl⟩
      rw [hjn'] at HBE hkv
      subst hkv
      obtain ⟨a1, a2, a3, rfl⟩ := hR.a.sl
      obtain ⟨p1, p2, p3, rfl⟩ := hR.p.sl
      obtain ⟨r1, r2, r3, rfl⟩ := hR.r.sl
      generalize rs[j].bg = xb at q0 HC
      generalize rs[j].en = xe at q4 HC
      generalize rs[j].cu = xc at q6 HC
      clear e hfj hbest HCK hfj2 hR hP2 hjn'
      go_wp2_with fail
      refine (HC.out _ (Grown.refl _)).mono ?_
      rintro e w4 ⟨rfl, hg4⟩
      have c4 := hg4.cellv c3
      have z4 := hg4.cellv q2
      have HG4 := Hid.mk' (HG3.out.trans hg4)
      have HP4 : Hid (∀ V, Grown w4 V → ∀ (i : Nat) (hi : i < rs.length), RAt V g (o + i * 7) rs[i]) := fun V hg => HP2.out V (hg4.trans hg)
      clear q0 q1 q2 q3 q4 q5 q6 c3 HC hg4 HP2 HG3
      go_wp2_with fail
      go_loopw [54] (fun vi wr => ∃ k : Nat, vi = .int .i64 k ∧ k ≤ n ∧ Grown w4 wr) (fun vi _ => n - (intOf vi).toNat)
      case atStart => exact ⟨0, rfl, by omega, Grown.refl _⟩
      case round =>
        obtain ⟨k, rfl, hk, hG⟩ := hrel
        have hk0 : (0 : Int) ≤ (k : Int) := by omega
        by_cases hlt : k < n
        · have hlt' : (k : Int) < (n : Int) := by omega
          have hkl : k < rs.length := by rw [HN.out]; exact hlt
          have hP2 := HP4.out wr hG
          obtain ⟨av, kv, pv, rv, q0, q1, q2, q3, q4, q5, q6, hR⟩ := hP2 k hkl
          have HC : Hid (∀ V, Grown wr V → Calls Tryd.prog 13 #[.agg #[.bool rs[k].bg, av, kv, pv, .bool rs[k].en, rv, .int .i64 rs[k].cu], .slice d1 d2 d3, .slice l1 l2 l3] V fun e w' => e = .returned (.bool (fitsB rs[k] d l)) ∧ Grown V w') := fun V hg => HS.out V rs[k] av kv pv rv (HG4.out.trans (hG.trans hg)) (hR.grown hg)
          have HBk := Hid.mk' (HBE.out k hkl)
          have zk := hG.cellv z4
          have ck := hG.cellv c4
          obtain ⟨k1', kc', hkv, hx1, hx2⟩ := hR.k
          clear hx1 hx2
          obtain ⟨kn, hkn⟩ : ∃ kn, rs[k].key.length = kn := ⟨_, rfl⟩
          rw [hkn] at HBk hkv
          subst hkv
          obtain ⟨a1, a2, a3, rfl⟩ := hR.a.sl
          obtain ⟨p1, p2, p3, rfl⟩ := hR.p.sl
          obtain ⟨r1, r2, r3, rfl⟩ := hR.r.sl
          generalize fitsB rs[k] d l = S at HC HBk
          generalize rs[k].bg = xb at q0 HC
          generalize rs[k].en = xe at q4 HC
          generalize rs[k].cu = xc at q6 HC
          clear hR hP2 hkn
          cases S with
          | false =>
            as_aux_lemma =>
              clear HBk
              go_wp2_with (go_at_call 13; refine (HC.out _ ((Grown.refl _).alloc _)).mono ?_; rintro e w5 ⟨rfl, hg5⟩)
              try go_big_round
              exact ⟨⟨k + 1, by go_num, by omega, (hG.alloc _).trans hg5⟩, by simp [intOf]; omega⟩
          | true =>
            obtain ⟨hle, heq⟩ := HBk.out rfl
            have hle1 : ¬ (jn : Int) < (kn : Int) := by omega
            clear HBk
            go_wp2_with fail
            refine (HC.out _ ((Grown.refl _).alloc _)).mono ?_
            rintro e w5 ⟨rfl, hg5⟩
            have u0 := fun q os => ((Grown.refl w5).quiet q os).cellv (hg5.cellv (cell_up zk _))
            have u1 := fun q os => ((Grown.refl w5).quiet q os).cellv (hg5.cellv (cell_up ck _))
            have u2 := fun q os => ((Grown.refl w5).quiet q os).cellv (hg5.cellv (a := ⟨wr.heap.size, 2, none⟩) (v := .slice k1' kn kc') (cell_fst rfl))
            have HG5 := Hid.mk' ((hG.alloc _).trans hg5)
            clear hg5 HC q0 q1 q2 q3 q4 q5 q6 zk ck
            by_cases hke : kn = jn
            · have hjk := heq hke
              have hjkI : ¬ (k : Int) < (j : Int) := by omega
              have hj3 : ¬ (j : Int) < 0 := by omega
              have hj6 : decide ((j : Int) < 0) = false := by simp
              have hj7 : decide (kn < kn) = false := by simp
              have hj8 : decide (k < j) = false := decide_eq_false (by omega)
              subst hke
              clear heq hle
              go_wp2
              refine wp_region_quiet_grown mixed (by kernel_rfl) ?_
              repeat (go_big_quiet_step (fail))
              refine wpQuiet_nil ?_
              intro _ hw'
              obtain ⟨⟨nq, osq⟩, hw''⟩ := hw'
              subst hw''
              go_wp2
              try go_big_round
              exact ⟨⟨k + 1, by go_num, by omega, HG5.out.quiet _ _⟩, by simp [intOf]; omega⟩
            · have hj3 : ¬ (j : Int) < 0 := by omega
              have hj6 : decide ((j : Int) < 0) = false := by simp
              have hj7 : decide (jn < kn) = false := decide_eq_false (by omega)
              have hj8 : ((kn : Int) == (jn : Int)) = false := by simp; omega
              have hj9 : (kn == jn) = false := by simpa using hke
              clear heq hle
              go_wp2
              refine wp_region_quiet_grown mixed (by kernel_rfl) ?_
              repeat (go_big_quiet_step (fail))
              refine wpQuiet_nil ?_
              intro _ hw'
              obtain ⟨⟨nq, osq⟩, hw''⟩ := hw'
              subst hw''
              go_wp2
              try go_big_round
              exact ⟨⟨k + 1, by go_num, by omega, HG5.out.quiet _ _⟩, by simp [intOf]; omega⟩
        · as_aux_lemma =>
            have hge : ¬ (k : Int) < (n : Int) := by omega
            go_wp2
            go_ret
            exact ⟨rfl, HG4.out.trans hG⟩
  · have hm := HU2.out h0
    subst hm
    have h1 : (E2 != 0) = true := by simpa using h0
    clear HU HU2
    go_wp2
    go_ret
    exact ⟨rfl, HG3.out⟩
end Go.Proofs
