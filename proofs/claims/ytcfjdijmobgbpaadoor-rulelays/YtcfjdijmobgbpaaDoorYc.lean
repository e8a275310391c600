/-
  RuleUnits: what is told are units, as many as there are pieces.
-/
import Derived.RangeFuncNested
import Derived.RangeFuncBound
import Derived.RangeFuncCalls
import Derived.RangeFuncLeaves
import Derived.Shelf.Abstract
import Derived.Shelf.RegionOpen
import Derived.WalkKit
import Derived.WalkSpells
import Derived.WalkLawsBesides
import Derived.OwnWalkIn
import Derived.TacticsInMore
import Derived.LoopNIn
import Derived.LoopIn
import Derived.BigQuiet
import Derived.RegionIn
import Derived.Deep.QuietTactic
import Derived.Deep.RegionWith
import Derived.Lib.OthersKept
import Derived.Maps.AppendAt
import Derived.Lib.SmallJoins
import Derived.Shelf.SlSortCmp.QuietGrown
import Derived.Test.YtcfjdijmobgbpaaDoorYb
namespace Go.Proofs
open Go.RowKit Go.Shelf

set_option maxRecDepth 100000
attribute [local go_sem] Oper.semAt_some
attribute [local go_sem ↓] Go.wp_at_zero Go.wp_at_succ
theorem newI_rd {W : World} {base g n c : Nat} {l : List Int} (h : NewI W base (.slice (some ⟨g, 0, none⟩) n c) l) : IRd W g 0 l := fun j hj => by
  rw [Nat.zero_add]
  exact newI_cell h (by simp [hj])
/-- the piece at a place, wherever the walk is -/
theorem piece_at {W : World} {r : Rl} {av kv pv : Value} {ra : Option Addr} {n rc : Nat} (h : RR W av kv pv (.slice ra n rc) r) (hn : r.res.length = n) {k : Nat} (hk : k < n) :
    ∃ g o ta tn tc, ra = some ⟨g, o, none⟩ ∧ W.cell? ⟨g, o + k * 4, none⟩ = some (.int .i64 (r.res[k]'(by omega)).k) ∧ W.cell? ⟨g, o + k * 4 + 1, none⟩ = some (.int .i64 (r.res[k]'(by omega)).u) ∧ W.cell? ⟨g, o + k * 4 + 2, none⟩ = some (.int .i64 (r.res[k]'(by omega)).y) ∧ W.cell? ⟨g, o + k * 4 + 3, none⟩ = some (.slice ta tn tc) ∧ Rs W (.slice ta tn tc) (r.res[k]'(by omega)).tl := by
  obtain ⟨a1, c1, e1, _, h1⟩ := h.r
  injection e1 with q1 q2 q3
  subst q1 q3
  obtain ⟨g, o, rfl, k1⟩ := h1.resolve_left (fun e => by rw [e] at hn; simp at hn; omega)
  obtain ⟨tv, p0, p1, p2, p3, hs⟩ := k1 k (by omega)
  obtain ⟨ta, tn, tc, rfl⟩ := hs.sl
  exact ⟨g, o, ta, tn, tc, rfl, p0, p1, p2, p3, hs⟩
set_option maxHeartbeats 8000000 in
theorem units_yes (r : Rl) (av kv pv rv uv : Value) (us : List Int) (w : World) (hT : Tab w) (h : RR w av kv pv rv r) (hu : IR w uv us) (hlay : layB r us = true) :
    Calls Tryd.prog 5 #[.agg #[.bool r.bg, av, kv, pv, .bool r.en, rv, .int .i64 r.cu], uv] w fun e w' => e = .returned (.bool true) ∧ Below w.heap.size w w' := by
  have h1 : chk r = 0 := by simp only [layB, Bool.and_eq_true, decide_eq_true_eq] at hlay; exact hlay.1
  have hst : stB r.key us = true := by simp only [layB, Bool.and_eq_true, decide_eq_true_eq] at hlay; exact hlay.2
  have hl := st_len hst
  have hok := chk_ok h1
  have P0 : Hid (UF w r av kv pv rv uv us (w.alloc (.cells #[.bool r.bg, av, kv, pv, .bool r.en, rv, .int .i64 r.cu] 25))) := uf_start hT h hu
  have HSh : Hid (∀ W, Hid (UF w r av kv pv rv uv us W) → Calls Tryd.prog 9 #[] W fun e w' => e = .returned (.bool true) ∧ Hid (UF w r av kv pv rv uv us w')) := fun W p => (shown_any W p.out.tab).mono fun e w' ⟨h1, h2⟩ => ⟨h1, p.out.below h2⟩
  obtain ⟨cn, hcn⟩ : ∃ cn : Nat, r.cu = (cn : Int) := ⟨r.cu.toNat, by have := hok.c0; omega⟩
  have hcr : cn ≤ r.res.length := by have := hok.c1; omega
  have hO : (outs r us).length = r.res.length := by simp [outs]
  have HL : Hid (∀ W, Hid (UF w r av kv pv rv uv us W) → Calls Tryd.prog 21 #[.agg #[.bool r.bg, av, kv, pv, .bool r.en, rv, .int .i64 r.cu], uv] W fun e w' => ∃ g1 g2, e = .returned (.tuple #[.slice (some ⟨g1, 0, none⟩) cn cn, .slice (some ⟨g2, 0, none⟩) (r.res.length - cn) (r.res.length - cn)]) ∧ Hid (IRd w' g1 0 ((outs r us).take cn)) ∧ Hid (IRd w' g2 0 ((outs r us).drop cn)) ∧ Hid (UF w r av kv pv rv uv us w')) := fun W p => by
    refine (lays_walk r av kv pv rv uv us W p.out.tab p.out.rr p.out.iu hlay).mono ?_
    rintro e w' ⟨v1, v2, rfl, k1, k2, _, hb⟩
    rw [hcn, show ((cn : Int)).toNat = cn by omega] at k1 k2
    have k1' := k1
    have k2' := k2
    obtain ⟨g1, rfl, _⟩ := k1
    obtain ⟨g2, rfl, _⟩ := k2
    refine ⟨g1, g2, ?_, newI_rd k1', newI_rd k2', p.out.below hb⟩
    rw [List.length_take, List.length_drop, hO, Nat.min_eq_left hcr]
  have HC : Hid (∀ W, Hid (UF w r av kv pv rv uv us W) → Calls Tryd.prog 14 #[.agg #[.bool r.bg, av, kv, pv, .bool r.en, rv, .int .i64 r.cu]] W fun e w' => e = .returned (.int .i64 0) ∧ Hid (Grown W w')) := fun W p => by
    have := (check_any r av kv pv rv W p.out.tab p.out.rr)
    rw [h1] at this
    exact this
  have HWr : Hid (∀ (k : Nat) (hk : k < r.res.length) (u : Int), (outs r us)[k]? = some u → Wr r.key us r.res[k] u) := fun k hk u hu => by
    have e : (outs r us)[k]? = some (wrt r.key us r.res[k]) := by simp [outs, hk]
    rw [e] at hu
    injection hu with hu
    rw [← hu]
    exact wr_any hlay (List.getElem_mem hk)
  obtain ⟨aa, an, ac, rfl⟩ := h.a.sl
  obtain ⟨ka, kc, rfl, _, _⟩ := h.k
  obtain ⟨pa, pn, pc, rfl⟩ := h.p.sl
  obtain ⟨ra, rc, rfl, _, _⟩ := h.r
  obtain ⟨ua, uc, rfl, _, _⟩ := hu
  obtain ⟨n, hn⟩ : ∃ n, us.length = n := ⟨_, rfl⟩
  obtain ⟨rn, hrn⟩ : ∃ rn, r.res.length = rn := ⟨_, rfl⟩
  have HK : Hid (r.key.length = n) := by rw [← hn]; exact hl
  have HU : Hid (us.length = n) := hn
  have HRN : Hid (r.res.length = rn) := hrn
  have HON : Hid ((outs r us).length = rn) := by rw [← hrn]; exact hO
  have hn8 : n ≤ 8 := by rw [← hn, ← hl]; exact hok.k8
  have hr16 : rn ≤ 16 := by rw [← hrn]; exact hok.r16
  rw [hrn] at hcr
  rw [hl, hn, hrn] at P0 HSh HL HC ⊢
  rw [hcn] at P0 HL HC ⊢
  have HST : Hid (∀ (k : Nat) (hk : k < n), hasB (r.key[k]'(by rw [HK.out]; exact hk)) (us[k]'(by rw [HU.out]; exact hk)) = true) := fun k hk => st_at hst _ _
  have hm := mixed
  have HCN : Hid (r.cu = (cn : Int)) := hcn
  clear h hT hlay hn hl hst h1 hok hrn hO hcn
  go_enter Tryd.func5, Tryd.ntmps5
  go_wp2_with fail
  refine (HSh.out _ P0).mono ?_
  rintro e w1 ⟨rfl, P1⟩
  obtain ⟨c0, c1, c2, c3, c4, c5, c6⟩ := P1.out.rc
  rw [HCN.out] at c6
  go_wp2_with fail
  refine (HL.out _ P1).mono ?_
  rintro e w2 ⟨g1, g2, rfl, R1, R2, P2⟩
  clear P0 P1 c0 c1 c2 c3 c4 c5 c6
  obtain ⟨c0, c1, c2, c3, c4, c5, c6⟩ := P2.out.rc
  rw [HCN.out] at c6
  go_wp2_with fail
  refine (HC.out _ P2).mono ?_
  rintro e w3 ⟨rfl, G3⟩
  have P3 : Hid (UF w r (.slice aa an ac) (.slice ka n kc) (.slice pa pn pc) (.slice ra rn rc) (.slice ua n uc) us w3) := P2.out.grown G3.out
  have S1 : Hid (IRd w3 g1 0 ((outs r us).take cn)) := R1.out.below G3.out.below (Nat.le_refl _)
  have S2 : Hid (IRd w3 g2 0 ((outs r us).drop cn)) := R2.out.below G3.out.below (Nat.le_refl _)
  clear P2 c0 c1 c2 c3 c4 c5 c6 R1 R2 G3
  obtain ⟨c0, c1, c2, c3, c4, c5, c6⟩ := P3.out.rc
  rw [HCN.out] at c6
  clear HSh HL HC c0 c1 c3 c4
  go_wp2
  go_loopw [7, 8] (fun vs vi wr => ∃ k : Nat, vs = .bool true ∧ vi = .int .i64 k ∧ k ≤ n ∧ Grown w3 wr) (fun _ vi _ => n - (intOf vi).toNat)
  case atStart => exact ⟨0, rfl, rfl, by omega, Grown.refl _⟩
  case round =>
    obtain ⟨k, rfl, rfl, hk, hB⟩ := hrel
    have hpos : (0 : Int) ≤ (k : Int) := by omega
    by_cases hlt : k < n
    · have hlt' : (k : Int) < (n : Int) := by omega
      have hk8 : (k : Int) ≤ 8 := by omega
      obtain ⟨g, o, g4, o4, sa, sn, sc, hka, hua, d1, d2, HCall⟩ := key_at (P3.out.grown hB) HK.out HU.out hlt
      rw [HST.out k hlt] at HCall
      subst hka
      subst hua
      have HCC : Hid (∀ m os, Calls Tryd.prog 22 #[.slice sa sn sc, .int .i64 (us[k]'(by rw [HU.out]; exact hlt))] (Go.Sort.grow (wr.drewN m) os) fun e w' => e = .returned (.bool true) ∧ Grown (Go.Sort.grow (wr.drewN m) os) w') := fun m os => HCall _ ((Grown.refl _).quiet m os)
      generalize us[k]'(by rw [HU.out]; exact hlt) = u at HCC d2
      have f1 : ∀ m os, (Go.Sort.grow (wr.drewN m) os).cell? ⟨g, o + k, none⟩ = some (.slice sa sn sc) := fun m os => ((Grown.refl _).quiet m os).cellv d1
      have f2 : ∀ m os, (Go.Sort.grow (wr.drewN m) os).cell? ⟨g4, o4 + k, none⟩ = some (.int .i64 u) := fun m os => ((Grown.refl _).quiet m os).cellv d2
      have f3 : ∀ m os, (Go.Sort.grow (wr.drewN m) os).cell? ⟨w.heap.size, 2, none⟩ = some (.slice (some ⟨g, o, none⟩) n kc) := fun m os => (hB.quiet m os).cellv c2
      clear HCall d1 d2 c2 c5 c6
      go_wp2
      refine wp_region_quiet_grown hm (by kernel_rfl) ?_
      repeat (go_big_quiet_step ((go_at_call 22; exact grown_of (HCC.out _ _))))
      refine wpQuiet_nil ?_
      intro _ hw'
      obtain ⟨⟨nq, osq⟩, hw''⟩ := hw'
      subst hw''
      go_wp2
      exact ⟨⟨k + 1, rfl, by go_num, by omega, hB.quiet _ _⟩, by simp [intOf]; omega⟩
    · have hge : ¬ (k : Int) < (n : Int) := by omega
      obtain rfl : k = n := by omega
      have d5 := hB.cellv c5
      have d6 := hB.cellv c6
      have HB : Hid (Grown w3 wr) := hB
      have hsum : (cn : Int) + ((rn - cn : Nat) : Int) = (rn : Int) := by omega
      have hwrap : IntKind.i64.wrap (cn : Int) = (cn : Int) := by rw [IntKind.wrap_i64]; omega
      clear hB c2 c5 c6
      go_wp2
      go_loopw [79] (fun vi wr => ∃ j : Nat, vi = .int .i64 j ∧ j ≤ rn ∧ Hid (Grown w3 wr)) (fun vi _ => rn - (intOf vi).toNat)
      case atStart => exact ⟨0, rfl, by omega, HB⟩
      case round =>
        obtain ⟨j, rfl, hj, HB2⟩ := hrel
        have hj0 : (0 : Int) ≤ (j : Int) := by omega
        have hj16 : (j : Int) ≤ 16 := by omega
        by_cases hjl : j < rn
        · have hjl' : (j : Int) < (rn : Int) := by omega
          have PX : Hid (UF w r (.slice aa an ac) (.slice ka k kc) (.slice pa pn pc) (.slice ra rn rc) (.slice ua k uc) us wr) := P3.out.grown HB2.out
          have hjr : j < r.res.length := by rw [HRN.out]; exact hjl
          obtain ⟨g, o, ta, tn, tc, hra, q0, q1, q2, q3, hRs⟩ := piece_at PX.out.rr HRN.out hjl
          subst hra
          have hjo : j < (outs r us).length := by rw [HON.out]; exact hjl
          obtain ⟨u, hu⟩ : ∃ u, (outs r us)[j]? = some u := ⟨_, List.getElem?_eq_getElem hjo⟩
          have hW := HWr.out j hjr u hu
          have HHas : Hid (∀ W, Grown wr W → Calls Tryd.prog 22 #[.slice ta tn tc, .int .i64 u] W fun e w' => e = .returned (.bool (hasB r.res[j].tl u)) ∧ Hid (Grown W w')) := fun W hG => has_any _ _ _ W (PX.out.tab.grown hG) (hRs.grown hG)
          have HWid : Hid (∀ W, Calls Tryd.prog 23 #[.int .i64 u] W fun e w' => e = .returned (.int .i64 (wd u)) ∧ w' = W) := fun W => width_any u W
          have e6 := fun o => cell_up (HB2.out.cellv (show w3.cell? ⟨w.heap.size, 6, none⟩ = some (.int .i64 (cn : Int)) from by have := P3.out.rc.c6; rw [HCN.out] at this; exact this)) o
          obtain ⟨hw0, hkk, hk1, hk2, hk3⟩ := hW
          have hwd : (wd u == 0) = false := by simpa using hw0
          generalize hpk : r.res[j].k = pk at *
          generalize r.res[j].u = pu at *
          generalize r.res[j].y = py at *
          generalize r.res[j].tl = ptl at *
          generalize wd u = wu at *
          have HS1 : Hid (IRd wr g1 0 ((outs r us).take cn)) := S1.out.below HB2.out.below (Nat.le_refl _)
          have HS2 : Hid (IRd wr g2 0 ((outs r us).drop cn)) := S2.out.below HB2.out.below (Nat.le_refl _)
          by_cases hjc : j < cn
          · have hjc' : (j : Int) < (cn : Int) := by omega
            have hdj := HS1.out j (by rw [List.length_take]; omega)
            have hue : ((outs r us).take cn)[j]'(by rw [List.length_take]; omega) = u := by
              rw [List.getElem_take]
              exact (List.getElem?_eq_some_iff.1 hu).2
            rw [hue, Nat.zero_add] at hdj
            have hdj' := fun o => cell_up hdj o
            clear hu hue hjo hpk hdj hRs HS1 HS2 d5 d6
            rcases hkk with hk' | hk' | hk'
            · subst hk'
              have hup := hk1 rfl
              subst hup
              clear hk1 hk2 hk3
              go_wp2_with (go_at_call 23; refine (HWid.out _).mono ?_; rintro e w' ⟨rfl, rfl⟩)
              exact ⟨⟨j + 1, by go_num, by omega, HB2.out.alloc _⟩, by simp [intOf]; omega⟩
            · subst hk'
              obtain ⟨y, hy, hpy, hyu⟩ := hk2 rfl
              subst hpy
              obtain ⟨a2, c2, ee, _, hiu⟩ := PX.out.iu
              injection ee with z1 z2 z3
              subst z1 z3
              clear z2
              obtain ⟨gu, ou, rfl, hiu2⟩ := hiu.resolve_left (fun e => by rw [e] at hy; simp at hy)
              have hcy := hiu2 y hy
              rw [hyu] at hcy
              have hcy' := fun o => cell_up hcy o
              have hyk : (y : Int) < (k : Int) := by have := HU.out; omega
              have hy0 : (0 : Int) ≤ (y : Int) := by omega
              clear hk1 hk2 hk3 hiu hiu2 hcy hyu
              go_wp2_with (go_at_call 23; refine (HWid.out _).mono ?_; rintro e w' ⟨rfl, rfl⟩)
              exact ⟨⟨j + 1, by go_num, by omega, HB2.out.alloc _⟩, by simp [intOf]; omega⟩
            · subst hk'
              rw [hk3 rfl] at HHas
              clear hk1 hk2 hk3
              go_wp2_with (first | (go_at_call 23; refine (HWid.out _).mono ?_; rintro e w' ⟨rfl, rfl⟩) | (go_at_call 22; refine (HHas.out _ ((Grown.refl _).alloc _)).mono ?_; rintro e w' ⟨rfl, hgw⟩))
              exact ⟨⟨j + 1, by go_num, by omega, (HB2.out.alloc _).trans hgw.out⟩, by simp [intOf]; omega⟩
          · have hjc' : decide ((j : Int) < (cn : Int)) = false := by simp; omega
            have hdj := HS2.out (j - cn) (by rw [List.length_drop]; omega)
            have hue : ((outs r us).drop cn)[j - cn]'(by rw [List.length_drop]; omega) = u := by
              rw [List.getElem_drop]
              have := (List.getElem?_eq_some_iff.1 hu).2
              simpa [show cn + (j - cn) = j by omega] using this
            rw [hue, Nat.zero_add] at hdj
            have hdj' := fun o => cell_up hdj o
            have hsub : (j : Int) - (cn : Int) = ((j - cn : Nat) : Int) := by omega
            have hwr : IntKind.i64.wrap ((j : Int) - (cn : Int)) = ((j - cn : Nat) : Int) := by rw [IntKind.wrap_i64]; omega
            have hs0 : (0 : Int) ≤ ((j - cn : Nat) : Int) := by omega
            have hs1 : ((j - cn : Nat) : Int) < ((rn - cn : Nat) : Int) := by omega
            clear hu hue hjo hpk hdj hRs HS1 HS2 d5 d6
            rcases hkk with hk' | hk' | hk'
            · subst hk'
              have hup := hk1 rfl
              subst hup
              clear hk1 hk2 hk3
              go_wp2_with (go_at_call 23; refine (HWid.out _).mono ?_; rintro e w' ⟨rfl, rfl⟩)
              exact ⟨⟨j + 1, by go_num, by omega, HB2.out.alloc _⟩, by simp [intOf]; omega⟩
            · subst hk'
              obtain ⟨y, hy, hpy, hyu⟩ := hk2 rfl
              subst hpy
              obtain ⟨a2, c2, ee, _, hiu⟩ := PX.out.iu
              injection ee with z1 z2 z3
              subst z1 z3
              clear z2
              obtain ⟨gu, ou, rfl, hiu2⟩ := hiu.resolve_left (fun e => by rw [e] at hy; simp at hy)
              have hcy := hiu2 y hy
              rw [hyu] at hcy
              have hcy' := fun o => cell_up hcy o
              have hyk : (y : Int) < (k : Int) := by have := HU.out; omega
              have hy0 : (0 : Int) ≤ (y : Int) := by omega
              clear hk1 hk2 hk3 hiu hiu2 hcy hyu
              go_wp2_with (go_at_call 23; refine (HWid.out _).mono ?_; rintro e w' ⟨rfl, rfl⟩)
              exact ⟨⟨j + 1, by go_num, by omega, HB2.out.alloc _⟩, by simp [intOf]; omega⟩
            · subst hk'
              rw [hk3 rfl] at HHas
              clear hk1 hk2 hk3
              go_wp2_with (first | (go_at_call 23; refine (HWid.out _).mono ?_; rintro e w' ⟨rfl, rfl⟩) | (go_at_call 22; refine (HHas.out _ ((Grown.refl _).alloc _)).mono ?_; rintro e w' ⟨rfl, hgw⟩))
              exact ⟨⟨j + 1, by go_num, by omega, (HB2.out.alloc _).trans hgw.out⟩, by simp [intOf]; omega⟩
        · have hge2 : ¬ (j : Int) < (rn : Int) := by omega
          go_wp2
          go_ret
          exact ⟨rfl, (P3.out.grown HB2.out).bel⟩
theorem units_any (r : Rl) (av kv pv rv uv : Value) (us : List Int) (w : World) (hT : Tab w) (h : RR w av kv pv rv r) (hu : IR w uv us) :
    Calls Tryd.prog 5 #[.agg #[.bool r.bg, av, kv, pv, .bool r.en, rv, .int .i64 r.cu], uv] w fun e w' => e = .returned (.bool true) ∧ Below w.heap.size w w' := by
  by_cases h1 : chk r = 0
  · by_cases h2 : r.key.length = us.length
    · by_cases h3 : stB r.key us = true
      · exact units_yes r av kv pv rv uv us w hT h hu (by simp [layB, h1, h3])
      · exact units_mid r av kv pv rv uv us w hT h hu h1 h2 (by simpa using h3)
    · exact units_no r av kv pv rv uv us w hT h hu (.inr h2)
  · exact units_no r av kv pv rv uv us w hT h hu (.inl h1)
end Go.Proofs
