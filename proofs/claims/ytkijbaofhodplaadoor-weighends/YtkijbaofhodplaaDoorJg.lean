/-
  What the document's Laid lays down is not nil.
-/
import Derived.RangeFuncNested
import Derived.RangeFuncBound
import Derived.RangeFuncCalls
import Derived.RangeFuncLeaves
import Derived.Shelf.Abstract
import Derived.Shelf.RegionOpen
import Derived.WalkKit
import Derived.WalkSpells
import Derived.WalkLawsBesides
import Derived.OwnWalkIn
import Derived.TacticsInMore
import Derived.LoopNIn
import Derived.LoopIn
import Derived.BigQuiet
import Derived.RegionIn
import Derived.Deep.QuietTactic
import Derived.Deep.RegionWith
import Derived.Lib.OthersKept
import Derived.Maps.AppendAt
import Derived.Lib.SmallJoins
import Derived.Shelf.SlSortCmp.QuietGrown
import Derived.Test.YtkijbaofhodplaaDoorJe
namespace Go.Proofs
open Go.RowKit Go.Shelf

set_option maxRecDepth 100000
attribute [local go_sem] Oper.semAt_some
attribute [local go_sem ↓] Go.wp_at_zero Go.wp_at_succ
theorem add_at (g o n : Nat) : (⟨g, o, none⟩ : Addr).add n = ⟨g, o + n, none⟩ := by
  unfold Addr.add
  split <;> simp_all
/-- a slice that is not nil -/
def SomeS (v : Value) : Prop := ∃ g o n c, v = .slice (some ⟨g, o, none⟩) n c
set_option maxHeartbeats 8000000 in
theorem rlaid2_walk (r : Rl) (av kv pv rv uv : Value) (us : List Int) (w : World) (h : RR w av kv pv rv r) (hu : IR w uv us) (hb : layB r us = true) :
    Calls Tryd.prog 42 #[.agg #[.bool r.bg, av, kv, pv, .bool r.en, rv, .int .i64 r.cu], uv] w fun e w' => ∃ v1 v2, e = .returned (.tuple #[v1, v2]) ∧ FarI w' w.heap.size v1 ((outs r us).take r.cu.toNat) ∧ FarI w' w.heap.size v2 ((outs r us).drop r.cu.toNat) ∧ Below w.heap.size w w' ∧ SomeS v1 ∧ SomeS v2 := by
  simp only [layB, Bool.and_eq_true, decide_eq_true_eq] at hb
  have hok := chk_ok hb.1
  have hsl := st_len hb.2
  obtain ⟨aa, an, ac, rfl⟩ := h.a.sl
  obtain ⟨ka, kn, kc, rfl⟩ := h.k.sl
  obtain ⟨pa, pn, pc, rfl⟩ := h.p.sl
  obtain ⟨ua, un, uc, rfl⟩ := hu.sl
  obtain ⟨ra, rc, rfl, _, _⟩ := h.r
  have HW : Hid (∀ W, Below w.heap.size w W → ∀ p ∈ r.res, ∀ tv, Rs W tv p.tl → PcW W ka ua kn un tv p (wrt r.key us p)) := fun W hW p hp tv ht =>
    pcW_of p tv ka ua kn un kc uc r.key us W (h.k.below hW (Nat.le_refl _)) (hu.below hW (Nat.le_refl _)) ht (hok.pc p hp) hsl
  have HR : Hid (∀ W, Below w.heap.size w W → PR W (.slice ra r.res.length rc) r.res) := fun W hW => h.r.below hW (Nat.le_refl _)
  obtain ⟨rn, hrn⟩ : ∃ rn, r.res.length = rn := ⟨_, rfl⟩
  rw [hrn] at HR ⊢
  have HN : Hid (r.res.length = rn) := hrn
  have hr16 : rn ≤ 16 := by rw [← hrn]; exact hok.r16
  obtain ⟨cn, hcn⟩ : ∃ cn : Nat, r.cu = (cn : Int) := ⟨r.cu.toNat, by have := hok.c0; omega⟩
  have hcr : cn ≤ rn := by have := hok.c1; omega
  rw [hcn]
  have HO : Hid (∀ k (hk : k < r.res.length), (outs r us).take (k + 1) = (outs r us).take k ++ [wrt r.key us r.res[k]]) := fun k hk => outs_succ hk
  have HL : Hid ((outs r us).length = rn) := by show _ = _; rw [← hrn]; simp [outs]
  rw [show ((cn : Int)).toNat = cn by omega]
  generalize outs r us = O at HO HL
  generalize hwk : wrt r.key us = wk at HO HW
  obtain ⟨bg, en, cu, ante, key, post, res⟩ := r
  simp only at HR HW HO HN ⊢
  clear h hu hok hb hrn hcn hwk hsl
  have hm := mixed
  go_enter Tryd.func42, Tryd.ntmps42
  go_wp2
  obtain ⟨w2, hw2⟩ : ∃ w2 : World, w2 = w.alloc (rcells bg (.slice aa an ac) (.slice ka kn kc) (.slice pa pn pc) en (.slice ra rn rc) (cn : Int)) := ⟨_, rfl⟩
  have d2 : w2.cell? ⟨w.heap.size, 2, none⟩ = some (.slice ka kn kc) := by rw [hw2]; simp [rcells]
  have d5 : w2.cell? ⟨w.heap.size, 5, none⟩ = some (.slice ra rn rc) := by rw [hw2]; simp [rcells]
  have d6 : w2.cell? ⟨w.heap.size, 6, none⟩ = some (.int .i64 (cn : Int)) := by rw [hw2]; simp [rcells]
  have HG2 : Hid (Below w.heap.size w w2) := by show Below _ _ _; rw [hw2]; exact ((Grown.refl w).alloc _).below
  have HZ : Hid (w2.heap.size = w.heap.size + 1) := by show _ = _; rw [hw2]; simp
  rw [show w.alloc (.cells #[.bool bg, .slice aa an ac, .slice ka kn kc, .slice pa pn pc, .bool en, .slice ra rn rc, .int .i64 (cn : Int)] 54) = w2 from hw2.symm]
  have HB0 : Hid (OwnI (w2.alloc (.cells #[] 3)) w2.heap.size (.slice (some ⟨w.heap.size + 1, 0, none⟩) 0 0) [] ∧ Below w2.heap.size w2 (w2.alloc (.cells #[] 3))) := by
    refine ⟨?_, ((Grown.refl w2).alloc _).below⟩
    exact NewI.own ⟨w.heap.size + 1, rfl, by rw [HZ.out]; exact Nat.le_refl _, by rw [← HZ.out]; exact Array.getElem?_push_size⟩ (Nat.zero_le _)
  clear hw2
  go_loopw [6, 7] (fun sa vi wr => ∃ (va : Value) (kk : Nat), va = sa ∧ vi = .int .i64 kk ∧ kk ≤ rn ∧ Hid (OwnI wr w2.heap.size va (O.take kk) ∧ Below w2.heap.size w2 wr ∧ (kk = 0 → SomeS va))) (fun _ vi _ => rn - (intOf vi).toNat)
  case atStart => exact ⟨_, 0, rfl, rfl, Nat.zero_le _, HB0.out.1, HB0.out.2, fun _ => ⟨_, _, _, _, rfl⟩⟩
  case round =>
    obtain ⟨va, k, rfl, rfl, hk, HG⟩ := hrel
    have hkI : (0 : Int) ≤ (k : Int) := by omega
    have hkI2 : (k : Int) ≤ 16 := by omega
    have e2 := cell_below d2 HG.out.2.1 (Nat.le_refl _)
    have e5 := cell_below d5 HG.out.2.1 (Nat.le_refl _)
    have e6 := cell_below d6 HG.out.2.1 (Nat.le_refl _)
    by_cases hlt : k < rn
    · have hlt' : (k : Int) < (rn : Int) := by omega
      have hkl : k < res.length := by rw [HN.out]; exact hlt
      have HBw : Below w.heap.size w wr := HG2.out.trans (HG.out.2.1.mono HG2.out.size)
      obtain ⟨ra', rc', hre, _, hP⟩ := HR.out wr HBw
      obtain ⟨g, o, hra, hP2⟩ := hP.resolve_left (fun e => by rw [e] at hkl; simp at hkl)
      cases hre
      subst hra
      obtain ⟨tv, p0, p1, p2, p3, hRs⟩ := hP2 k hkl
      have hPW := HW.out wr HBw res[k] (List.getElem_mem hkl) tv hRs
      have HOO : Hid (O.take (k + 1) = O.take k ++ [wk res[k]]) := HO.out k hkl
      obtain ⟨ta, tn, tc, rfl⟩ := hRs.sl
      generalize wk res[k] = q at hPW HOO
      unfold PcW at hPW
      generalize res[k].k = xk at hPW p0
      generalize res[k].u = xu at hPW p1
      generalize res[k].y = xy at hPW p2
      have hOl : (O.take k).length + 1 ≤ 8796093022208 := by rw [List.length_take]; omega
      clear hRs hP hP2 HBw
      rcases hPW with ⟨rfl, rfl⟩ | ⟨rfl, j, gu, ou, rfl, hju, rfl, hcu⟩ | ⟨rfl, j, gu, ou, kg, ko, x, pl, b1, b2, sv, rfl, hju, rfl, hcu, hjk, rfl, hck, hsv, hc1, hc2⟩
      · as_aux_lemma =>
          have HP2 : Hid (∀ oa ob, OwnI ((wr.alloc oa).alloc ob) w2.heap.size va (O.take k) ∧ w2.heap.size ≤ ((wr.alloc oa).alloc ob).heap.size ∧ Below w2.heap.size w2 ((wr.alloc oa).alloc ob)) := fun oa ob => by
            have hb5 : Below wr.heap.size wr ((wr.alloc oa).alloc ob) := (((Grown.refl _).alloc oa).alloc ob).below
            exact ⟨HG.out.1.below hb5 (Nat.le_refl _), Nat.le_trans HG.out.2.1.size hb5.size, HG.out.2.1.trans (hb5.mono HG.out.2.1.size)⟩
          go_wp2_with (at_builtin; go_must (refine push_I rfl _ _ 40 rfl Tryd.underlying40 w2.heap.size _ (O.take k) rfl (HP2.out _ _).1 _ _ xu rfl (by simp) hOl (HP2.out _ _).2.1 ?_; intro v3 w3 hO3 hB3))
          go_roundw
          case rel =>
            refine ⟨_, k + 1, rfl, by simp, hlt, ?_, (HP2.out _ _).2.2.trans hB3, fun h => by omega⟩
            rw [HOO.out]
            exact hO3
          case measure => simp [intOf]; omega
      · as_aux_lemma =>
          have HP2 : Hid (∀ oa ob, OwnI ((wr.alloc oa).alloc ob) w2.heap.size va (O.take k) ∧ w2.heap.size ≤ ((wr.alloc oa).alloc ob).heap.size ∧ Below w2.heap.size w2 ((wr.alloc oa).alloc ob)) := fun oa ob => by
            have hb5 : Below wr.heap.size wr ((wr.alloc oa).alloc ob) := (((Grown.refl _).alloc oa).alloc ob).below
            exact ⟨HG.out.1.below hb5 (Nat.le_refl _), Nat.le_trans HG.out.2.1.size hb5.size, HG.out.2.1.trans (hb5.mono HG.out.2.1.size)⟩
          have hj1 : (j : Int) < (un : Int) := by omega
          have hj0 : (0 : Int) ≤ (j : Int) := by omega
          have du := fun o => cell_up hcu o
          go_wp2_with (at_builtin; go_must (refine push_I rfl _ _ 40 rfl Tryd.underlying40 w2.heap.size _ (O.take k) rfl (HP2.out _ _).1 _ _ q rfl (by simp) hOl (HP2.out _ _).2.1 ?_; intro v3 w3 hO3 hB3))
          go_roundw
          case rel =>
            refine ⟨_, k + 1, rfl, by simp, hlt, ?_, (HP2.out _ _).2.2.trans hB3, fun h => by omega⟩
            rw [HOO.out]
            exact hO3
          case measure => simp [intOf]; omega
      · as_aux_lemma =>
          have hj1 : (j : Int) < (un : Int) := by omega
          have hj2 : (j : Int) < (kn : Int) := by omega
          have hj0 : (0 : Int) ≤ (j : Int) := by omega
          have du := fun o => cell_up hcu o
          have dk := fun o => cell_up hck o
          have e2' := fun o => cell_up e2 o
          obtain ⟨sa, sn, sc, rfl⟩ := hsv
          have HC1 : Hid (∀ W', Grown wr W' → Calls Tryd.prog 64 #[.slice sa sn sc, .int .i64 x] W' fun e w' => e = .returned (.tuple #[.int .i64 pl, .bool b1]) ∧ Grown W' w') := hc1
          have HC2 : Hid (∀ W', Grown wr W' → Calls Tryd.prog 65 #[.slice ta tn tc, .int .i64 pl] W' fun e w' => e = .returned (.tuple #[.int .i64 q, .bool b2]) ∧ Grown W' w') := hc2
          clear hc1 hc2
          go_wp2_with fail
          refine (HC1.out _ ((Grown.refl _).alloc _)).mono ?_
          rintro e w4 ⟨rfl, hb4⟩
          have f3 := hb4.cellv (a := ⟨wr.heap.size, 3, none⟩) (v := .slice ta tn tc) (by simp)
          have HB4 := ((Grown.refl wr).alloc (.cells #[.int .i64 3, .int .i64 xu, .int .i64 (j : Int), .slice ta tn tc] 66)).trans hb4
          clear hb4
          go_wp2_with fail
          refine (HC2.out _ HB4).mono ?_
          rintro e w5 ⟨rfl, hb5⟩
          have HB5 := HB4.trans hb5
          have HP2 : Hid (∀ ob, OwnI (w5.alloc ob) w2.heap.size va (O.take k) ∧ w2.heap.size ≤ (w5.alloc ob).heap.size ∧ Below w2.heap.size w2 (w5.alloc ob)) := fun ob => by
            have hb6 : Below wr.heap.size wr (w5.alloc ob) := (HB5.alloc ob).below
            exact ⟨HG.out.1.below hb6 (Nat.le_refl _), Nat.le_trans HG.out.2.1.size hb6.size, HG.out.2.1.trans (hb6.mono HG.out.2.1.size)⟩
          clear hb5 HB4 HB5
          go_wp2_with (at_builtin; go_must (refine push_I rfl _ _ 40 rfl Tryd.underlying40 w2.heap.size _ (O.take k) rfl (HP2.out _).1 _ _ q rfl (by simp) hOl (HP2.out _).2.1 ?_; intro v3 w3 hO3 hB3))
          go_roundw
          case rel =>
            refine ⟨_, k + 1, rfl, by simp, hlt, ?_, (HP2.out _).2.2.trans hB3, fun h => by omega⟩
            rw [HOO.out]
            exact hO3
          case measure => simp [intOf]; omega
    · have hge : ¬ (k : Int) < (rn : Int) := by omega
      obtain rfl : k = rn := by omega
      have HOw : Hid (OwnI wr w2.heap.size va O) := by have := HG.out.1; rwa [List.take_of_length_le (by rw [HL.out]; omega)] at this
      have HBw : Hid (Below w2.heap.size w2 wr) := HG.out.2.1
      have HF : Hid (FarI wr w2.heap.size va O) := OwnI.far HOw.out
      have hSS := HG.out.2.2
      obtain ⟨sa, sc, rfl, hsc0, hfr⟩ := HF.out
      have hsm : ∃ g o, sa = some ⟨g, o, none⟩ := by
        by_cases h0 : k = 0
        · obtain ⟨g, o, n, c, e⟩ := hSS h0
          injection e with e
          exact ⟨g, o, e⟩
        · rcases hfr with h1 | ⟨g, o, h1, _⟩
          · have := HL.out; rw [h1] at this; simp at this; omega
          · exact ⟨g, o, h1⟩
      clear hSS hfr
      obtain ⟨sg9, so9, hsa9⟩ := hsm
      subst hsa9
      rw [HL.out] at HOw HF hsc0 ⊢
      have hOl : O.length = k := HL.out
      have HWs : Hid (w.heap.size ≤ w2.heap.size) := HG2.out.size
      have HBq : Hid (∀ m os, Below w.heap.size w (Go.Sort.grow (wr.drewN m) os)) := fun m os => by
        have := ((Grown.refl wr).quiet m os).below
        exact HG2.out.trans ((HBw.out.trans (this.mono HBw.out.size)).mono HG2.out.size)
      have HFq : Hid (∀ m os, FarI (Go.Sort.grow (wr.drewN m) os) w.heap.size (.slice (some ⟨sg9, so9, none⟩) k sc) O) := fun m os => (HF.out.le HWs.out).below ((Grown.refl wr).quiet m os).below (Nat.le_refl _)
      have f6 : ∀ m os, (Go.Sort.grow (wr.drewN m) os).cell? ⟨w.heap.size, 6, none⟩ = some (.int .i64 (cn : Int)) := fun m os => ((Grown.refl _).quiet m os).cellv e6
      have hckI : (cn : Int) ≤ (k : Int) := by omega
      have hcnI : (0 : Int) ≤ (cn : Int) := by omega
      have hscI : (k : Int) ≤ (sc : Int) := by omega
      have hscI2 : (cn : Int) ≤ (sc : Int) := by omega
      clear HG HW HO HR HOw HB0
      by_cases hsc : cn = sc
      · subst hsc
        have HNil : Hid (∀ (m : Nat) (os : Array Obj), FarI (Go.Sort.grow (wr.drewN m) os) w.heap.size (.slice (some ⟨sg9, so9, none⟩) 0 0) (O.drop cn)) := fun m os => by
          rw [List.drop_eq_nil_of_le (by omega)]
          exact ⟨_, 0, rfl, Nat.le_refl _, .inl rfl⟩
        go_wp2
        refine wp_region_quiet_grown hm (by kernel_rfl) ?_
        repeat (go_big_quiet_step (fail))
        refine wpQuiet_nil ?_
        intro _ hw'
        obtain ⟨⟨nq, osq⟩, hw''⟩ := hw'
        subst hw''
        go_wp2
        go_ret2
        exact ⟨_, _, rfl, (HFq.out _ _).take hOl hcr, HNil.out _ _, HBq.out _ _, ⟨_, _, _, _, rfl⟩, ⟨_, _, _, _, rfl⟩⟩
      · have hscE : ((cn : Int) == (sc : Int)) = false := by simp; omega
        go_wp2
        refine wp_region_quiet_grown hm (by kernel_rfl) ?_
        repeat (go_big_quiet_step (fail))
        refine wpQuiet_nil ?_
        intro _ hw'
        obtain ⟨⟨nq, osq⟩, hw''⟩ := hw'
        subst hw''
        go_wp2
        go_ret2
        exact ⟨_, _, rfl, (HFq.out _ _).take hOl hcr, by have := (HFq.out nq osq).drop hOl hcr; rw [Option.map_some, add_at] at this; exact this, HBq.out _ _, ⟨_, _, _, _, rfl⟩, ⟨_, _, _, _, rfl⟩⟩
end Go.Proofs
