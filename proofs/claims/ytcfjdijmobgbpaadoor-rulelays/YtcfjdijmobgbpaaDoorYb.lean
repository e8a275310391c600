/-
  RuleUnits: where a key does not stand, nothing is told.
-/
import Derived.RangeFuncNested
import Derived.RangeFuncBound
import Derived.RangeFuncCalls
import Derived.RangeFuncLeaves
import Derived.Shelf.Abstract
import Derived.Shelf.RegionOpen
import Derived.WalkKit
import Derived.WalkSpells
import Derived.WalkLawsBesides
import Derived.OwnWalkIn
import Derived.TacticsInMore
import Derived.LoopNIn
import Derived.LoopIn
import Derived.BigQuiet
import Derived.RegionIn
import Derived.Deep.QuietTactic
import Derived.Deep.RegionWith
import Derived.Lib.OthersKept
import Derived.Maps.AppendAt
import Derived.Lib.SmallJoins
import Derived.Shelf.SlSortCmp.QuietGrown
import Derived.Test.YtcfjdijmobgbpaaDoorYa
namespace Go.Proofs
open Go.RowKit Go.Shelf

set_option maxRecDepth 100000
attribute [local go_sem] Oper.semAt_some
attribute [local go_sem ↓] Go.wp_at_zero Go.wp_at_succ
/-- one place of the key, wherever the walk is -/
theorem key_at {w : World} {r : Rl} {av pv rv : Value} {us : List Int} {ka ua : Option Addr} {n kc uc : Nat} {W : World} (p : UF w r av (.slice ka n kc) pv rv (.slice ua n uc) us W) (hk : r.key.length = n) (hu : us.length = n) {k : Nat} (h : k < n) :
    ∃ g o g2 o2 sa sn sc, ka = some ⟨g, o, none⟩ ∧ ua = some ⟨g2, o2, none⟩ ∧ W.cell? ⟨g, o + k, none⟩ = some (.slice sa sn sc) ∧ W.cell? ⟨g2, o2 + k, none⟩ = some (.int .i64 (us[k]'(by omega))) ∧ ∀ W', Grown W W' → Calls Tryd.prog 22 #[.slice sa sn sc, .int .i64 (us[k]'(by omega))] W' fun e w' => e = .returned (.bool (hasB (r.key[k]'(by omega)) (us[k]'(by omega)))) ∧ Grown W' w' := by
  obtain ⟨a1, c1, e1, _, h1⟩ := p.rr.k
  obtain ⟨a2, c2, e2, _, h2⟩ := p.iu
  injection e1 with q1 q2 q3
  injection e2 with q4 q5 q6
  subst q1 q3 q4 q6
  obtain ⟨g, o, rfl, k1⟩ := h1.resolve_left (fun e => by rw [e] at hk; simp at hk; omega)
  obtain ⟨g2, o2, rfl, k2⟩ := h2.resolve_left (fun e => by rw [e] at hu; simp at hu; omega)
  obtain ⟨sv, hc, hs⟩ := k1 k (by omega)
  obtain ⟨sa, sn, sc, rfl⟩ := hs.sl
  exact ⟨g, o, g2, o2, sa, sn, sc, rfl, rfl, hc, k2 k (by omega), fun W' hW => has_any _ _ _ W' (p.tab.grown hW) (hs.grown hW)⟩
set_option maxHeartbeats 8000000 in
theorem units_mid (r : Rl) (av kv pv rv uv : Value) (us : List Int) (w : World) (hT : Tab w) (h : RR w av kv pv rv r) (hu : IR w uv us) (h1 : chk r = 0) (hl : r.key.length = us.length) (hst : stB r.key us = false) :
    Calls Tryd.prog 5 #[.agg #[.bool r.bg, av, kv, pv, .bool r.en, rv, .int .i64 r.cu], uv] w fun e w' => e = .returned (.bool true) ∧ Below w.heap.size w w' := by
  have hlay : layB r us = false := by simp [layB, hst]
  have P0 : Hid (UF w r av kv pv rv uv us (w.alloc (.cells #[.bool r.bg, av, kv, pv, .bool r.en, rv, .int .i64 r.cu] 25))) := uf_start hT h hu
  have HSh : Hid (∀ W, Hid (UF w r av kv pv rv uv us W) → Calls Tryd.prog 9 #[] W fun e w' => e = .returned (.bool true) ∧ Hid (UF w r av kv pv rv uv us w')) := fun W p => (shown_any W p.out.tab).mono fun e w' ⟨h1, h2⟩ => ⟨h1, p.out.below h2⟩
  have HL : Hid (∀ W, Hid (UF w r av kv pv rv uv us W) → Calls Tryd.prog 21 #[.agg #[.bool r.bg, av, kv, pv, .bool r.en, rv, .int .i64 r.cu], uv] W fun e w' => e = .returned (.tuple #[.slice none 0 0, .slice none 0 0]) ∧ Hid (UF w r av kv pv rv uv us w')) := fun W p => (lays_no r av kv pv rv uv us W p.out.tab p.out.rr p.out.iu hlay).mono fun e w' ⟨h1, h2⟩ => ⟨h1, p.out.grown h2⟩
  have HC : Hid (∀ W, Hid (UF w r av kv pv rv uv us W) → Calls Tryd.prog 14 #[.agg #[.bool r.bg, av, kv, pv, .bool r.en, rv, .int .i64 r.cu]] W fun e w' => e = .returned (.int .i64 0) ∧ Hid (UF w r av kv pv rv uv us w')) := fun W p => by
    have := (check_any r av kv pv rv W p.out.tab p.out.rr)
    rw [h1] at this
    exact this.mono fun e w' ⟨h1, h2⟩ => ⟨h1, p.out.grown h2⟩
  have hk8 := (chk_ok h1).k8
  obtain ⟨aa, an, ac, rfl⟩ := h.a.sl
  obtain ⟨ka, kc, rfl, _, _⟩ := h.k
  obtain ⟨pa, pn, pc, rfl⟩ := h.p.sl
  obtain ⟨ra, rn, rc, rfl⟩ := h.r.sl
  obtain ⟨ua, uc, rfl, _, _⟩ := hu
  obtain ⟨n, hn⟩ : ∃ n, us.length = n := ⟨_, rfl⟩
  have HK : Hid (r.key.length = n) := by rw [← hn]; exact hl
  have HU : Hid (us.length = n) := hn
  have hn8 : n ≤ 8 := by rw [← hn, ← hl]; exact hk8
  rw [hl] at P0 HSh HL HC ⊢
  rw [hn] at P0 HSh HL HC ⊢
  have HST : Hid (((r.key.zip us).all fun x => hasB x.1 x.2) = false) := by
    have := hst
    simp only [stB, hl, decide_true, Bool.true_and] at this
    exact this
  have HZ : Hid ((r.key.zip us).length = n) := by show _ = _; rw [List.length_zip, HK.out, HU.out, Nat.min_self]
  have hm := mixed
  clear h hT hlay hn hl hst h1 hk8
  go_enter Tryd.func5, Tryd.ntmps5
  go_wp2_with fail
  refine (HSh.out _ P0).mono ?_
  rintro e w1 ⟨rfl, P1⟩
  obtain ⟨c0, c1, c2, c3, c4, c5, c6⟩ := P1.out.rc
  go_wp2_with fail
  refine (HL.out _ P1).mono ?_
  rintro e w2 ⟨rfl, P2⟩
  clear P0 P1 c0 c1 c2 c3 c4 c5 c6
  obtain ⟨c0, c1, c2, c3, c4, c5, c6⟩ := P2.out.rc
  go_wp2_with fail
  refine (HC.out _ P2).mono ?_
  rintro e w3 ⟨rfl, P3⟩
  clear P2 c0 c1 c2 c3 c4 c5 c6
  obtain ⟨c0, c1, c2, c3, c4, c5, c6⟩ := P3.out.rc
  clear HSh HL HC c0 c1 c3 c4 c5 c6
  go_wp2
  go_loopw [7, 8] (fun vs vi wr => ∃ (k : Nat) (s : Bool), vs = .bool s ∧ vi = .int .i64 k ∧ k ≤ n ∧ Hid ((((r.key.zip us).take k).all fun x => hasB x.1 x.2) = s) ∧ Grown w3 wr) (fun _ vi _ => n - (intOf vi).toNat)
  case atStart => exact ⟨0, true, rfl, rfl, by omega, by simp [Hid], Grown.refl _⟩
  case round =>
    obtain ⟨k, s, rfl, rfl, hk, hG, hB⟩ := hrel
    have hpos : (0 : Int) ≤ (k : Int) := by omega
    by_cases hlt : k < n
    · have hlt' : (k : Int) < (n : Int) := by omega
      have hk8 : (k : Int) ≤ 8 := by omega
      cases s with
      | false =>
        clear hG c2
        go_wp2
        go_ret
        exact ⟨rfl, (P3.out.grown hB).bel⟩
      | true =>
        obtain ⟨g, o, g2, o2, sa, sn, sc, hka, hua, d1, d2, HCall⟩ := key_at (P3.out.grown hB) HK.out HU.out hlt
        subst hka
        subst hua
        have hkz : k < (r.key.zip us).length := by rw [HZ.out]; exact hlt
        have hz : (r.key.zip us)[k] = (r.key[k]'(by rw [HK.out]; exact hlt), us[k]'(by rw [HU.out]; exact hlt)) := List.getElem_zip
        have HS : Hid ((((r.key.zip us).take (k + 1)).all fun x => hasB x.1 x.2) = hasB (r.key[k]'(by rw [HK.out]; exact hlt)) (us[k]'(by rw [HU.out]; exact hlt))) := by show _ = _; rw [all_succ _ hkz, hG.out, hz]; rfl
        have HCC : Hid (∀ m os, Calls Tryd.prog 22 #[.slice sa sn sc, .int .i64 (us[k]'(by rw [HU.out]; exact hlt))] (Go.Sort.grow (wr.drewN m) os) fun e w' => e = .returned (.bool (hasB (r.key[k]'(by rw [HK.out]; exact hlt)) (us[k]'(by rw [HU.out]; exact hlt)))) ∧ Grown (Go.Sort.grow (wr.drewN m) os) w') := fun m os => HCall _ ((Grown.refl _).quiet m os)
        generalize hasB (r.key[k]'(by rw [HK.out]; exact hlt)) (us[k]'(by rw [HU.out]; exact hlt)) = s2 at HS HCC
        generalize us[k]'(by rw [HU.out]; exact hlt) = u at HCC d2
        have f1 : ∀ m os, (Go.Sort.grow (wr.drewN m) os).cell? ⟨g, o + k, none⟩ = some (.slice sa sn sc) := fun m os => ((Grown.refl _).quiet m os).cellv d1
        have f2 : ∀ m os, (Go.Sort.grow (wr.drewN m) os).cell? ⟨g2, o2 + k, none⟩ = some (.int .i64 u) := fun m os => ((Grown.refl _).quiet m os).cellv d2
        have f3 : ∀ m os, (Go.Sort.grow (wr.drewN m) os).cell? ⟨w.heap.size, 2, none⟩ = some (.slice (some ⟨g, o, none⟩) n kc) := fun m os => (hB.quiet m os).cellv c2
        clear HCall hz d1 d2 c2 hG
        go_wp2
        refine wp_region_quiet_grown hm (by kernel_rfl) ?_
        repeat (go_big_quiet_step ((go_at_call 22; exact grown_of (HCC.out _ _))))
        refine wpQuiet_nil ?_
        intro _ hw'
        obtain ⟨⟨nq, osq⟩, hw''⟩ := hw'
        subst hw''
        go_wp2
        exact ⟨⟨k + 1, s2, rfl, by go_num, by omega, HS, hB.quiet _ _⟩, by simp [intOf]; omega⟩
    · have hge : ¬ (k : Int) < (n : Int) := by omega
      obtain rfl : s = false := by
        rw [← hG.out, List.take_of_length_le (by rw [HZ.out]; omega)]
        exact HST.out
      clear hG c2
      go_wp2
      go_ret
      exact ⟨rfl, (P3.out.grown hB).bel⟩
end Go.Proofs
