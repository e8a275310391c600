/-
  Several texts in one (Qb Qd Hg).
-/
import Derived.RangeFuncNested
import Derived.RangeFuncBound
import Derived.RangeFuncCalls
import Derived.RangeFuncLeaves
import Derived.Shelf.Abstract
import Derived.Shelf.RegionOpen
import Derived.WalkKit
import Derived.WalkSpells
import Derived.WalkLawsBesides
import Derived.OwnWalkIn
import Derived.TacticsInMore
import Derived.LoopNIn
import Derived.LoopIn
import Derived.BigQuiet
import Derived.RegionIn
import Derived.Deep.QuietTactic
import Derived.Deep.RegionWith
import Derived.Lib.OthersKept
import Derived.Maps.AppendAt
import Derived.Lib.SmallJoins
import Derived.Shelf.SlSortCmp.QuietGrown
import Derived.Test.YtkijbaofhodplaaDoorQa
import Derived.Test.YtkijbaofhodplaaDoorMgb
import Derived.Test.YtkijbaofhodplaaDoorHf
import Derived.Test.YtkijbaofhodplaaDoorMge
namespace Go.Proofs
open Go.RowKit Go.Shelf

set_option maxRecDepth 100000
attribute [local go_sem] Oper.semAt_some
attribute [local go_sem ↓] Go.wp_at_zero Go.wp_at_succ
set_option maxHeartbeats 4000000 in
theorem rcheck_early (bg en : Bool) (cu : Int) (aa ka pa ra : Option Addr) (an ac kn kc pn pc rn rc : Nat) (w : World) (h : kn = 0 ∨ 8 < kn ∨ 8 < an ∨ 8 < pn ∨ 16 < rn) :
    Calls Tryd.prog 43 #[.agg #[.bool bg, .slice aa an ac, .slice ka kn kc, .slice pa pn pc, .bool en, .slice ra rn rc, .int .i64 cu]] w fun e w' => e = .returned (.int .i64 (if kn = 0 ∨ 8 < kn then 70 else 72)) ∧ Grown w w' := by
  by_cases h1 : kn = 0
  · rw [if_pos (.inl h1)]
    subst h1
    clear h
    go_enter Tryd.func43, Tryd.ntmps43
    go_wp2
    go_ret
    exact ⟨rfl, (Grown.refl _).alloc _⟩
  · have e1 : decide ((kn : Int) < 1) = false := by simp; omega
    have e1' : ¬ (kn : Int) < 1 := by omega
    by_cases h2 : 8 < kn
    · rw [if_pos (.inr h2)]
      have h2' : (8 : Int) < (kn : Int) := by omega
      clear h
      go_enter Tryd.func43, Tryd.ntmps43
      go_wp2
      go_ret
      exact ⟨rfl, (Grown.refl _).alloc _⟩
    · rw [if_neg (by omega)]
      have d2' : ¬ (8 : Int) < (kn : Int) := by omega
      by_cases h3 : 8 < an
      · have h3' : (8 : Int) < (an : Int) := by omega
        clear h
        go_enter Tryd.func43, Tryd.ntmps43
        go_wp2
        go_ret
        exact ⟨rfl, (Grown.refl _).alloc _⟩
      · have d3' : ¬ (8 : Int) < (an : Int) := by omega
        by_cases h4 : 8 < pn
        · have h4' : (8 : Int) < (pn : Int) := by omega
          clear h
          go_enter Tryd.func43, Tryd.ntmps43
          go_wp2
          go_ret
          exact ⟨rfl, (Grown.refl _).alloc _⟩
        · have d4' : ¬ (8 : Int) < (pn : Int) := by omega
          have h5' : (16 : Int) < (rn : Int) := by omega
          clear h
          go_enter Tryd.func43, Tryd.ntmps43
          go_wp2
          go_ret
          exact ⟨rfl, (Grown.refl _).alloc _⟩
set_option maxHeartbeats 4000000 in
theorem rcheck_sets (r : Rl) (aa ka pa ra : Option Addr) (an ac kn kc pn pc rn rc : Nat) (w : World) (h : RR w (.slice aa an ac) (.slice ka kn kc) (.slice pa pn pc) (.slice ra rn rc) r)
    (h1 : kn ≠ 0) (h2 : kn ≤ 8) (h3 : an ≤ 8) (h4 : pn ≤ 8) (h5 : rn ≤ 16) (hb : (r.ante.all okS && r.key.all okS && r.post.all okS) = false) (ha : an = r.ante.length) (hk : kn = r.key.length) (hp : pn = r.post.length) :
    Calls Tryd.prog 43 #[.agg #[.bool r.bg, .slice aa an ac, .slice ka kn kc, .slice pa pn pc, .bool r.en, .slice ra rn rc, .int .i64 r.cu]] w fun e w' => e = .returned (.int .i64 71) ∧ Grown w w' := by
  have HA : Hid (∀ W, Grown w W → Calls Tryd.prog 66 #[.slice aa an ac] W fun e w' => e = .returned (.bool (r.ante.all okS)) ∧ Grown W w') := fun W hW => rsets_any _ _ W (h.a.grown hW) (by omega)
  have HK : Hid (∀ W, Grown w W → Calls Tryd.prog 66 #[.slice ka kn kc] W fun e w' => e = .returned (.bool (r.key.all okS)) ∧ Grown W w') := fun W hW => rsets_any _ _ W (h.k.grown hW) (by omega)
  have HP : Hid (∀ W, Grown w W → Calls Tryd.prog 66 #[.slice pa pn pc] W fun e w' => e = .returned (.bool (r.post.all okS)) ∧ Grown W w') := fun W hW => rsets_any _ _ W (h.p.grown hW) (by omega)
  generalize r.ante.all okS = b1 at HA hb
  generalize r.key.all okS = b2 at HK hb
  generalize r.post.all okS = b3 at HP hb
  obtain ⟨bg, en, cu, ante, key, post, res⟩ := r
  simp only
  clear ha hk hp h
  have e1 : ¬ (kn : Int) < 1 := by omega
  have d2' : ¬ (8 : Int) < (kn : Int) := by omega
  have d3' : ¬ (8 : Int) < (an : Int) := by omega
  have d4' : ¬ (8 : Int) < (pn : Int) := by omega
  have d5' : ¬ (16 : Int) < (rn : Int) := by omega
  clear h2 h3 h4 h5
  cases b1 with
  | false =>
    go_enter Tryd.func43, Tryd.ntmps43
    go_wp2_with fail
    refine (HA.out _ ((Grown.refl _).alloc _)).mono ?_
    rintro e w1 ⟨rfl, hb1⟩
    go_wp2
    go_ret
    exact ⟨rfl, ((Grown.refl _).alloc _).trans hb1⟩
  | true =>
    cases b2 with
    | false =>
      go_enter Tryd.func43, Tryd.ntmps43
      go_wp2_with fail
      refine (HA.out _ ((Grown.refl _).alloc _)).mono ?_
      rintro e w1 ⟨rfl, hb1⟩
      have hc2 := fun j v h => hb1.cellv (a := ⟨w.heap.size, j, none⟩) (v := v) h
      have g2 := hc2 2 (.slice ka kn kc) (by simp)
      go_wp2_with fail
      refine (HK.out _ (((Grown.refl _).alloc _).trans hb1)).mono ?_
      rintro e w2 ⟨rfl, hb2⟩
      go_wp2
      go_ret
      exact ⟨rfl, (((Grown.refl _).alloc _).trans hb1).trans hb2⟩
    | true =>
      obtain rfl : b3 = false := by simpa using hb
      go_enter Tryd.func43, Tryd.ntmps43
      go_wp2_with fail
      refine (HA.out _ ((Grown.refl _).alloc _)).mono ?_
      rintro e w1 ⟨rfl, hb1⟩
      have hc2 := fun j v h => hb1.cellv (a := ⟨w.heap.size, j, none⟩) (v := v) h
      have g2 := hc2 2 (.slice ka kn kc) (by simp)
      have g3 := hc2 3 (.slice pa pn pc) (by simp)
      go_wp2_with fail
      refine (HK.out _ (((Grown.refl _).alloc _).trans hb1)).mono ?_
      rintro e w2 ⟨rfl, hb2⟩
      have g3 := hb2.cellv g3
      go_wp2_with fail
      refine (HP.out _ ((((Grown.refl _).alloc _).trans hb1).trans hb2)).mono ?_
      rintro e w3 ⟨rfl, hb3⟩
      go_wp2
      go_ret
      exact ⟨rfl, ((((Grown.refl _).alloc _).trans hb1).trans hb2).trans hb3⟩
set_option maxHeartbeats 4000000 in
theorem rcheck_tail (r : Rl) (aa ka pa ra : Option Addr) (an ac kn kc pn pc rn rc : Nat) (w : World) (h : RR w (.slice aa an ac) (.slice ka kn kc) (.slice pa pn pc) (.slice ra rn rc) r)
    (h1 : kn ≠ 0) (h2 : kn ≤ 8) (h3 : an ≤ 8) (h4 : pn ≤ 8) (h5 : rn ≤ 16) (hb1 : r.ante.all okS = true) (hb2 : r.key.all okS = true) (hb3 : r.post.all okS = true) (ha : an = r.ante.length) (hk : kn = r.key.length) (hp : pn = r.post.length) (hr : rn = r.res.length) :
    Calls Tryd.prog 43 #[.agg #[.bool r.bg, .slice aa an ac, .slice ka kn kc, .slice pa pn pc, .bool r.en, .slice ra rn rc, .int .i64 r.cu]] w fun e w' => e = .returned (.int .i64 (tailE r)) ∧ Grown w w' := by
  have HA : Hid (∀ W, Grown w W → Calls Tryd.prog 66 #[.slice aa an ac] W fun e w' => e = .returned (.bool true) ∧ Grown W w') := fun W hW => by have := rsets_any _ _ W (h.a.grown hW) (by omega); rwa [hb1] at this
  have HK : Hid (∀ W, Grown w W → Calls Tryd.prog 66 #[.slice ka kn kc] W fun e w' => e = .returned (.bool true) ∧ Grown W w') := fun W hW => by have := rsets_any _ _ W (h.k.grown hW) (by omega); rwa [hb2] at this
  have HP : Hid (∀ W, Grown w W → Calls Tryd.prog 66 #[.slice pa pn pc] W fun e w' => e = .returned (.bool true) ∧ Grown W w') := fun W hW => by have := rsets_any _ _ W (h.p.grown hW) (by omega); rwa [hb3] at this
  have HQ : Hid (∀ W, Grown w W → ∀ (p : Pc) (tv : Value), Rs W tv p.tl → Calls Tryd.prog 67 #[.agg #[.bool r.bg, .slice aa an ac, .slice ka kn kc, .slice pa pn pc, .bool r.en, .slice ra rn rc, .int .i64 r.cu], .agg #[.int .i64 p.k, .int .i64 p.u, .int .i64 p.y, tv]] W fun e w' => e = .returned (.int .i64 (pcE r.key p)) ∧ Grown W w') := fun W hW p tv ht => rpiece_any r _ _ _ _ p tv W (h.grown hW) ht
  have HR : Hid (rn = r.res.length ∧ (r.res = [] ∨ ∃ g o, ra = some ⟨g, o, none⟩ ∧ PRd w g o r.res)) := by
    obtain ⟨a', c', e', _, h'⟩ := h.r
    cases e'
    exact ⟨hr, h'⟩
  have HE : Hid (tailE r = if fstE r.key r.res ≠ 0 then fstE r.key r.res else if r.cu < 0 ∨ (rn : Int) < r.cu then 76 else 0) := by unfold tailE; rw [hr]; rfl
  generalize tailE r = E at HE
  obtain ⟨bg, en, cu, ante, key, post, res⟩ := r
  simp only at HE HR HQ ⊢
  clear ha hk hp h hb1 hb2 hb3 hr
  have e1 : ¬ (kn : Int) < 1 := by omega
  have d2' : ¬ (8 : Int) < (kn : Int) := by omega
  have d3' : ¬ (8 : Int) < (an : Int) := by omega
  have d4' : ¬ (8 : Int) < (pn : Int) := by omega
  have d5' : ¬ (16 : Int) < (rn : Int) := by omega
  have HM : Hid (rn ≤ 16) := h5
  clear h2 h3 h4 h5
  go_enter Tryd.func43, Tryd.ntmps43
  go_wp2_with fail
  refine (HA.out _ ((Grown.refl _).alloc _)).mono ?_
  rintro e w1 ⟨rfl, hb1⟩
  have hc2 := fun j v h => hb1.cellv (a := ⟨w.heap.size, j, none⟩) (v := v) h
  have g0 := hc2 0 (.bool bg) (by simp)
  have g1 := hc2 1 (.slice aa an ac) (by simp)
  have g2 := hc2 2 (.slice ka kn kc) (by simp)
  have g3 := hc2 3 (.slice pa pn pc) (by simp)
  have g4 := hc2 4 (.bool en) (by simp)
  have g5 := hc2 5 (.slice ra rn rc) (by simp)
  have g6 := hc2 6 (.int .i64 cu) (by simp)
  go_wp2_with fail
  refine (HK.out _ (((Grown.refl _).alloc _).trans hb1)).mono ?_
  rintro e w2 ⟨rfl, hb2⟩
  have k0 := hb2.cellv g0
  have k1 := hb2.cellv g1
  have k2 := hb2.cellv g2
  have g3 := hb2.cellv g3
  have k4 := hb2.cellv g4
  have k5 := hb2.cellv g5
  have k6 := hb2.cellv g6
  clear hc2 g0 g1 g2 g4 g5 g6
  go_wp2_with fail
  refine (HP.out _ ((((Grown.refl _).alloc _).trans hb1).trans hb2)).mono ?_
  rintro e w3 ⟨rfl, hb3⟩
  have l0 := hb3.cellv k0
  have l1 := hb3.cellv k1
  have l2 := hb3.cellv k2
  have l3 := hb3.cellv g3
  have l4 := hb3.cellv k4
  have l5 := hb3.cellv k5
  have l6 := hb3.cellv k6
  have hm := mixed
  have hG3 := ((((Grown.refl w).alloc (rcells bg (.slice aa an ac) (.slice ka kn kc) (.slice pa pn pc) en (.slice ra rn rc) cu)).trans hb1).trans hb2).trans hb3
  clear k0 k1 k2 k4 k5 k6 g3 hb1 hb2 hb3 HA HK HP
  go_wp2
  go_loopw [3] (fun vi wr => ∃ k : Nat, vi = .int .i64 k ∧ k ≤ rn ∧ Hid (fstE key (res.drop k) = fstE key res) ∧ Grown w3 wr) (fun vi _ => rn - (intOf vi).toNat)
  case atStart => exact ⟨0, rfl, by omega, rfl, Grown.refl _⟩
  case round =>
    obtain ⟨k, rfl, hk, hF, hB⟩ := hrel
    have c5 := hB.cellv l5
    have c6 := hB.cellv l6
    have hkI : (0 : Int) ≤ (k : Int) := by omega
    by_cases hlt : k < rn
    · have hlt' : (k : Int) < (rn : Int) := by omega
      have hm16 := HM.out
      have hkI2 : (k : Int) ≤ 16 := by omega
      have hkl : k < res.length := by have := HR.out.1; omega
      obtain ⟨g, o, hra, hP⟩ := HR.out.2.resolve_left (fun e => by rw [e] at hkl; simp at hkl)
      subst hra
      obtain ⟨tv, p0, p1, p2, p3, hRs⟩ := (hP k hkl).below (hG3.trans hB).below (Nat.le_refl _)
      have HC : Hid (∀ W, Grown wr W → Calls Tryd.prog 67 #[.agg #[.bool bg, .slice aa an ac, .slice ka kn kc, .slice pa pn pc, .bool en, .slice (some ⟨g, o, none⟩) rn rc, .int .i64 cu], .agg #[.int .i64 res[k].k, .int .i64 res[k].u, .int .i64 res[k].y, tv]] W fun e w' => e = .returned (.int .i64 (pcE key res[k])) ∧ Grown W w') := fun W hW => HQ.out W ((hG3.trans hB).trans hW) res[k] tv (hRs.grown hW)
      have HS : Hid (fstE key (res.drop k) = if pcE key res[k] = 0 then fstE key (res.drop (k + 1)) else pcE key res[k]) := by show _ = _; rw [drop_pc hkl]; rfl
      obtain ⟨ta, tn, tc, rfl⟩ := hRs.sl
      generalize pcE key res[k] = q at HC HS
      generalize res[k].k = xk at HC p0
      generalize res[k].u = xu at HC p1
      generalize res[k].y = xy at HC p2
      have n0 : ∀ m os, (Go.Sort.grow (wr.drewN m) os).cell? ⟨w.heap.size, 0, none⟩ = some (.bool bg) := fun m os => (hB.quiet m os).cellv l0
      have n1 : ∀ m os, (Go.Sort.grow (wr.drewN m) os).cell? ⟨w.heap.size, 1, none⟩ = some (.slice aa an ac) := fun m os => (hB.quiet m os).cellv l1
      have n2 : ∀ m os, (Go.Sort.grow (wr.drewN m) os).cell? ⟨w.heap.size, 2, none⟩ = some (.slice ka kn kc) := fun m os => (hB.quiet m os).cellv l2
      have n3 : ∀ m os, (Go.Sort.grow (wr.drewN m) os).cell? ⟨w.heap.size, 3, none⟩ = some (.slice pa pn pc) := fun m os => (hB.quiet m os).cellv l3
      have n4 : ∀ m os, (Go.Sort.grow (wr.drewN m) os).cell? ⟨w.heap.size, 4, none⟩ = some (.bool en) := fun m os => (hB.quiet m os).cellv l4
      have n5 : ∀ m os, (Go.Sort.grow (wr.drewN m) os).cell? ⟨w.heap.size, 5, none⟩ = some (.slice (some ⟨g, o, none⟩) rn rc) := fun m os => (hB.quiet m os).cellv l5
      have n6 : ∀ m os, (Go.Sort.grow (wr.drewN m) os).cell? ⟨w.heap.size, 6, none⟩ = some (.int .i64 cu) := fun m os => (hB.quiet m os).cellv l6
      have m0 : ∀ m os, (Go.Sort.grow (wr.drewN m) os).cell? ⟨g, o + k * 4, none⟩ = some (.int .i64 xk) := fun m os => ((Grown.refl _).quiet m os).cellv p0
      have m1 : ∀ m os, (Go.Sort.grow (wr.drewN m) os).cell? ⟨g, o + k * 4 + 1, none⟩ = some (.int .i64 xu) := fun m os => ((Grown.refl _).quiet m os).cellv p1
      have m2 : ∀ m os, (Go.Sort.grow (wr.drewN m) os).cell? ⟨g, o + k * 4 + 2, none⟩ = some (.int .i64 xy) := fun m os => ((Grown.refl _).quiet m os).cellv p2
      have m3 : ∀ m os, (Go.Sort.grow (wr.drewN m) os).cell? ⟨g, o + k * 4 + 3, none⟩ = some (.slice ta tn tc) := fun m os => ((Grown.refl _).quiet m os).cellv p3
      clear p0 p1 p2 p3 c6
      by_cases hq : q = 0
      · subst hq
        have HF2 : Hid (fstE key (res.drop (k + 1)) = fstE key res) := by
          have h := HS.out
          rw [if_pos rfl, hF.out] at h
          exact h.symm
        clear hRs HS hF hP
        go_wp2
        refine wp_region_quiet_grown hm (by kernel_rfl) ?_
        repeat (go_big_quiet_step ((go_at_call 67; exact grown_of (HC.out _ ((Grown.refl _).quiet _ _)))))
        refine wpQuiet_nil ?_
        intro _ hw'
        obtain ⟨⟨nq, osq⟩, hw''⟩ := hw'
        subst hw''
        go_wp2
        exact ⟨⟨k + 1, by go_num, by omega, HF2, hB.quiet _ _⟩, by simp [intOf]; omega⟩
      · have hq' : (q != 0) = true := by simpa using hq
        have HF2 : Hid (E = q) := by
          have h := HS.out
          rw [if_neg hq, hF.out] at h
          have h2 := HE.out
          rw [if_pos (by rw [h]; exact hq), h] at h2
          exact h2
        clear hRs HS hF hP
        go_wp2
        refine wp_region_quiet_grown hm (by kernel_rfl) ?_
        repeat (go_big_quiet_step ((go_at_call 67; exact grown_of (HC.out _ ((Grown.refl _).quiet _ _)))))
        refine wpQuiet_nil ?_
        intro _ hw'
        obtain ⟨⟨nq, osq⟩, hw''⟩ := hw'
        subst hw''
        go_wp2
        go_ret
        exact ⟨by rw [HF2.out]; rfl, hG3.trans (hB.quiet _ _)⟩
    · have hge : ¬ (k : Int) < (rn : Int) := by omega
      have HE2 : Hid (E = if cu < 0 ∨ (rn : Int) < cu then 76 else 0) := by
        have h := hF.out
        rw [List.drop_eq_nil_of_le (by have := HR.out.1; omega)] at h
        have h2 := HE.out
        rw [if_neg (by rw [← h]; simp [fstE])] at h2
        exact h2
      clear hF
      by_cases u1 : cu < 0
      · have HE3 : Hid (E = 76) := by have := HE2.out; rwa [if_pos (.inl u1)] at this
        go_wp2
        go_ret
        exact ⟨by rw [HE3.out]; rfl, hG3.trans hB⟩
      · have d6 : decide (cu < 0) = false := by simpa using u1
        by_cases u2 : (rn : Int) < cu
        · have HE3 : Hid (E = 76) := by have := HE2.out; rwa [if_pos (.inr u2)] at this
          go_wp2
          go_ret
          exact ⟨by rw [HE3.out]; rfl, hG3.trans hB⟩
        · have d7 : decide ((rn : Int) < cu) = false := by simpa using u2
          have HE3 : Hid (E = 0) := by have := HE2.out; rwa [if_neg (by omega)] at this
          go_wp2
          go_ret
          exact ⟨by rw [HE3.out]; rfl, hG3.trans hB⟩
theorem rcheck_any (r : Rl) (av kv pv rv : Value) (w : World) (h : RR w av kv pv rv r) : Calls Tryd.prog 43 #[.agg #[.bool r.bg, av, kv, pv, .bool r.en, rv, .int .i64 r.cu]] w fun e w' => e = .returned (.int .i64 (chk r)) ∧ Grown w w' := by
  have hh := h
  obtain ⟨⟨aa, ac, rfl, _⟩, ⟨ka, kc, rfl, _⟩, ⟨pa, pc, rfl, _⟩, ⟨ra, rc, rfl, _⟩⟩ := h
  by_cases h1 : r.key.length = 0 ∨ 8 < r.key.length ∨ 8 < r.ante.length ∨ 8 < r.post.length ∨ 16 < r.res.length
  · have := rcheck_early r.bg r.en r.cu aa ka pa ra r.ante.length ac r.key.length kc r.post.length pc r.res.length rc w h1
    have e : chk r = if r.key.length = 0 ∨ 8 < r.key.length then 70 else 72 := by
      unfold chk
      by_cases h2 : r.key.length = 0 ∨ 8 < r.key.length
      · rw [if_pos h2, if_pos h2]
      · rw [if_neg h2, if_neg h2, if_pos (by omega)]
    rw [e]; exact this
  · by_cases hb : (r.ante.all okS && r.key.all okS && r.post.all okS) = false
    · have e : chk r = 71 := by unfold chk; rw [if_neg (by omega), if_neg (by omega), if_pos hb]
      rw [e]
      exact rcheck_sets r aa ka pa ra _ ac _ kc _ pc _ rc w hh (by omega) (by omega) (by omega) (by omega) (by omega) hb rfl rfl rfl
    · have e : chk r = tailE r := by unfold chk; rw [if_neg (by omega), if_neg (by omega), if_neg hb]; rfl
      rw [e]
      simp only [Bool.not_eq_false, Bool.and_eq_true] at hb
      exact rcheck_tail r aa ka pa ra _ ac _ kc _ pc _ rc w hh (by omega) (by omega) (by omega) (by omega) (by omega) hb.1.1 hb.1.2 hb.2 rfl rfl rfl rfl
set_option maxHeartbeats 4000000 in
theorem rall_any (v : Value) (rs : List Rl) (w : World) (h : PsR w v rs) : Calls Tryd.prog 28 #[.agg #[v]] w fun e w' => e = .returned (.tuple #[.int .i64 (allE rs).1, .int .i64 (allE rs).2]) ∧ Grown w w' := by
  have HP : Hid (∀ W, Grown w W → PsR W v rs) := fun W hW => h.grown hW
  obtain ⟨ra, rc, rfl, _, _⟩ := h
  obtain ⟨n, hn⟩ : ∃ n, rs.length = n := ⟨_, rfl⟩
  have HN : Hid (rs.length = n) := hn
  rw [hn] at HP ⊢
  unfold allE
  rw [hn]
  clear hn
  by_cases h1 : 256 < n
  · rw [if_pos h1]
    have h1' : (256 : Int) < (n : Int) := by omega
    go_enter Tryd.func28, Tryd.ntmps28
    go_wp2
    go_ret2
    exact ⟨rfl, (Grown.refl _).alloc _⟩
  · rw [if_neg h1]
    have h1' : ¬ (256 : Int) < (n : Int) := by omega
    obtain ⟨E, hE⟩ : ∃ E, fstR rs 0 = E := ⟨_, rfl⟩
    have HE : Hid (fstR rs 0 = E) := hE
    rw [hE]
    clear hE
    obtain ⟨E1, E2⟩ := E
    simp only
    go_enter Tryd.func28, Tryd.ntmps28
    go_wp2
    go_loopw [4] (fun vi wr => ∃ k : Nat, vi = .int .i64 k ∧ k ≤ n ∧ Hid (fstR (rs.drop k) k = (E1, E2)) ∧ Grown (w.alloc (.cells #[.slice ra n rc] 24)) wr) (fun vi _ => n - (intOf vi).toNat)
    case atStart => exact ⟨0, rfl, by omega, HE, Grown.refl _⟩
    case round =>
      obtain ⟨k, rfl, hk, hF, hB⟩ := hrel
      have hpos : (0 : Int) ≤ (k : Int) := by omega
      have hkI : (k : Int) ≤ 256 := by omega
      have c0 := hB.cellv (a := ⟨w.heap.size, 0, none⟩) (v := .slice ra n rc) (by simp)
      have hG0 : Grown w wr := ((Grown.refl w).alloc _).trans hB
      by_cases hlt : k < n
      · have hlt' : (k : Int) < (n : Int) := by omega
        have hkl : k < rs.length := by rw [HN.out]; exact hlt
        obtain ⟨a', c', e', _, hP⟩ := HP.out wr hG0
        obtain ⟨g, o, ha', hP2⟩ := hP.resolve_left (fun e => by rw [e] at hkl; simp at hkl)
        injection e' with e1 e2 e3
        clear e2 e3
        rw [ha'] at e1
        subst e1
        obtain ⟨av, kv, pv, rv, q0, q1, q2, q3, q4, q5, q6, hR⟩ := hP2 k hkl
        have HC : Hid (∀ W, Grown wr W → Calls Tryd.prog 43 #[.agg #[.bool rs[k].bg, av, kv, pv, .bool rs[k].en, rv, .int .i64 rs[k].cu]] W fun e w' => e = .returned (.int .i64 (chk rs[k])) ∧ Grown W w') := fun W hW => by
          have hg : Grown w W := hG0.trans hW
          exact rcheck_any rs[k] av kv pv rv W (hR.grown hW)
        obtain ⟨a1, a2, a3, rfl⟩ := hR.a.sl
        obtain ⟨b1, b2, b3, rfl⟩ := hR.k.sl
        obtain ⟨p1, p2, p3, rfl⟩ := hR.p.sl
        obtain ⟨r1, r2, r3, rfl⟩ := hR.r.sl
        have hF2 := hF.out
        rw [drop_rl hkl] at hF2
        unfold fstR at hF2
        generalize hch : chk rs[k] = ch at HC hF2
        generalize rs[k].bg = xb at *
        generalize rs[k].en = xe at *
        generalize rs[k].cu = xc at *
        by_cases hq : ch = 0
        · have HF2 : Hid (fstR (rs.drop (k + 1)) (k + 1) = (E1, E2)) := by rw [if_pos hq] at hF2; exact hF2
          subst hq
          clear hF2 hF hch hR hP hP2 ha'
          go_wp2_with (go_at_call 43; refine (HC.out _ (Grown.refl _)).mono ?_; rintro e w' ⟨rfl, hb⟩)
          exact ⟨⟨k + 1, by go_num, by omega, HF2, hB.trans hb⟩, by simp [intOf]; omega⟩
        · rw [if_neg hq] at hF2
          injection hF2 with f1 f2
          subst f1 f2
          have hq' : (ch != 0) = true := by simpa using hq
          clear hF hch hR hP hP2 ha'
          go_wp2_with (go_at_call 43; refine (HC.out _ (Grown.refl _)).mono ?_; rintro e w' ⟨rfl, hb⟩)
          go_ret2
          exact ⟨rfl, ((Grown.refl w).alloc _).trans (hB.trans hb)⟩
      · have hge : ¬ (k : Int) < (n : Int) := by omega
        have hF2 := hF.out
        rw [List.drop_eq_nil_of_le (by rw [HN.out]; omega)] at hF2
        unfold fstR at hF2
        injection hF2 with f1 f2
        subst f1 f2
        clear hF
        go_wp2
        go_ret2
        exact ⟨rfl, hG0⟩

theorem Fin.all {rs : List Rl} {st : St} {c : Int × Int} (hw : wgh rs = (some st, c)) : allE rs = (0, 0) := by
  have hF := wgh_fin hw
  unfold allE
  rw [if_neg (by have := hF.n; omega)]
  exact fstR_of (wgh_chk hw)
set_option maxHeartbeats 8000000 in
theorem rchk_ok (v : Value) (rs : List Rl) (st : St) (c : Int × Int) (w : World) (h : PsR w v rs) (hw : wgh rs = (some st, c)) : Calls Tryd.prog 9 #[.agg #[v]] w fun e w' => e = .returned (.tuple #[.int .i64 0, .int .i64 0]) ∧ Below w.heap.size w w' := by
  have hF := wgh_fin hw
  have HP : Hid (∀ V, Grown w V → PsR V v rs) := fun V hg => h.grown hg
  have HA : Hid (∀ V, Grown w V → Calls Tryd.prog 28 #[.agg #[v]] V fun e w' => e = .returned (.tuple #[.int .i64 0, .int .i64 0]) ∧ Grown V w') := fun V hg => by
    have := rall_any v rs V (h.grown hg)
    rw [Fin.all hw] at this; exact this
  have HL : Hid (∀ V, Grown w V → Calls Tryd.prog 30 #[v] V (LeQ V)) := fun V hg => least_any v rs st V (h.grown hg) hF
  have HF : Hid (Fin rs st) := hF
  obtain ⟨ra, rc, hv, hx1, hx2⟩ := h
  subst hv
  clear hx1 hx2
  obtain ⟨n, hN⟩ : ∃ n, rs.length = n := ⟨_, rfl⟩
  have HN : Hid (rs.length = n) := hN
  have hnI : (n : Int) ≤ 256 := by have := hF.n; omega
  rw [hN] at HP HA HL ⊢
  clear hN hF hw
  go_enter Tryd.func9, Tryd.ntmps9
  go_wp2_with fail
  obtain ⟨wA, hwA⟩ : ∃ wA, wA = w.alloc (.cells #[.slice ra n rc] 24) := ⟨_, rfl⟩
  have HGA : Hid (Grown w wA) := by show Grown _ _; rw [hwA]; exact (Grown.refl _).alloc _
  have cA : wA.cell? ⟨w.heap.size, 0, none⟩ = some (.slice ra n rc) := by rw [hwA]; simp
  try rw [← hwA]
  clear hwA
  refine (HA.out _ HGA.out).mono ?_
  rintro e w1 ⟨rfl, hG1⟩
  have HG1 : Hid (Grown w w1) := HGA.out.trans hG1
  have c1 := hG1.cellv cA
  clear hG1 cA HA HGA
  go_wp2
  go_loopw [6] (fun vi wr => ∃ k : Nat, vi = .int .i64 k ∧ k ≤ n ∧ Grown w1 wr) (fun vi _ => n - (intOf vi).toNat)
  case atStart => exact ⟨0, rfl, by omega, Grown.refl _⟩
  case round =>
    obtain ⟨k, rfl, hk, hB⟩ := hrel
    have hpos : (0 : Int) ≤ (k : Int) := by omega
    have c0 := hB.cellv c1
    by_cases hlt : k < n
    · as_aux_lemma =>
        have hlt' : (k : Int) < (n : Int) := by omega
        have hkl : k < rs.length := by rw [HN.out]; exact hlt
        obtain ⟨a', c', e', _, hP⟩ := HP.out wr (HG1.out.trans hB)
        obtain ⟨g, o, ha', hP2⟩ := hP.resolve_left (fun e => by rw [e] at hkl; simp at hkl)
        injection e' with e1 e2 e3
        clear e2 e3
        rw [ha'] at e1
        subst e1
        obtain ⟨av, kv, pv, rv, q0, q1, q2, q3, q4, q5, q6, hR⟩ := hP2 k hkl
        have hcp := HF.out.cp _ (List.getElem_mem hkl)
        have HC : Hid (∀ W, Grown wr W → Calls Tryd.prog 29 #[.agg #[.bool rs[k].bg, av, kv, pv, .bool rs[k].en, rv, .int .i64 rs[k].cu]] W fun e w' => e = .returned (.bool false) ∧ Grown W w') := fun W hW => by
          have := wrong_any rs[k] av kv pv rv W (hR.grown hW) (HF.out.ok _ (List.getElem_mem hkl))
          rw [hcp] at this; exact this
        obtain ⟨a1, a2, a3, rfl⟩ := hR.a.sl
        obtain ⟨b1, b2, b3, rfl⟩ := hR.k.sl
        obtain ⟨p1, p2, p3, rfl⟩ := hR.p.sl
        obtain ⟨r1, r2, r3, rfl⟩ := hR.r.sl
        generalize rs[k].bg = xb at *
        generalize rs[k].en = xe at *
        generalize rs[k].cu = xc at *
        clear hR hP hP2 ha' hcp
        go_wp2_with (go_at_call 29; refine (HC.out _ (Grown.refl _)).mono ?_; rintro e w' ⟨rfl, hb⟩)
        exact ⟨⟨k + 1, by go_num, by omega, hB.trans hb⟩, by simp [intOf]; omega⟩
    · as_aux_lemma =>
        have hge : ¬ (k : Int) < (n : Int) := by omega
        have HG2 : Hid (Grown w wr) := HG1.out.trans hB
        clear hB
        go_wp2_with fail
        refine (HL.out _ HG2.out).mono ?_
        rintro e w2 ⟨lv, wv, ⟨l1, l2, l3, rfl⟩, ⟨l4, l5, l6, rfl⟩, rfl, hB2⟩
        have c2 := cell_below c0 hB2 (Nat.le_refl _)
        have c3 := fun o => cell_up c2 o
        have HBF : Hid (Below w.heap.size w w2) := HG2.out.below.trans (hB2.mono HG2.out.size)
        have HBG : Hid (∀ V, Grown w2 V → Below w.heap.size w V) := fun V hg => HBF.out.trans (hg.below.mono HBF.out.size)
        clear hB2 c0 HL HP HG2 HG1 c1 HF HN
        go_wp2
        by_cases hn0 : n = 0
        · subst hn0
          go_loopw [9] (fun vi wr => vi = .int .i64 0 ∧ Grown w2 wr) (fun _ _ => 0)
          case atStart => exact ⟨rfl, by (repeat (first | exact Grown.refl _ | refine Grown.alloc ?_ _ | refine Grown.drew ?_ | refine Grown.drewN ?_ _ | refine Grown.quiet ?_ _ _))⟩
          case round =>
            obtain ⟨rfl, hg⟩ := hrel
            have c4 := hg.cellv c2
            go_wp2
            go_ret2
            exact ⟨rfl, HBG.out _ hg⟩
        · have hn1 : (0 : Int) < (n : Int) := by omega
          have hn2 : 0 < n := by omega
          go_loopw [9] (fun vi wr => vi = .int .i64 0 ∧ Grown w2 wr) (fun _ _ => 0)
          case atStart => exact ⟨rfl, by (repeat (first | exact Grown.refl _ | refine Grown.alloc ?_ _ | refine Grown.drew ?_ | refine Grown.drewN ?_ _ | refine Grown.quiet ?_ _ _))⟩
          case round =>
            obtain ⟨rfl, hg⟩ := hrel
            have c4 := hg.cellv c2
            go_wp2
            go_ret2
            exact ⟨rfl, HBG.out _ hg⟩
end Go.Proofs
