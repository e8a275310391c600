/-
  The rule that is next, by the document.
-/
import Derived.RangeFuncNested
import Derived.RangeFuncBound
import Derived.RangeFuncCalls
import Derived.RangeFuncLeaves
import Derived.Shelf.Abstract
import Derived.Shelf.RegionOpen
import Derived.WalkKit
import Derived.WalkSpells
import Derived.WalkLawsBesides
import Derived.OwnWalkIn
import Derived.TacticsInMore
import Derived.LoopNIn
import Derived.LoopIn
import Derived.BigQuiet
import Derived.RegionIn
import Derived.Deep.QuietTactic
import Derived.Deep.RegionWith
import Derived.Lib.OthersKept
import Derived.Maps.AppendAt
import Derived.Lib.SmallJoins
import Derived.Shelf.SlSortCmp.QuietGrown
import Derived.Test.YtpppcfppabghhaaDoorIa
import Derived.Test.YtpppcfppabghhaaDoorQc
namespace Go.Proofs
open Go.RowKit Go.Shelf

set_option maxRecDepth 100000
attribute [local go_sem] Oper.semAt_some
attribute [local go_sem ↓] Go.wp_at_zero Go.wp_at_succ

def kl (rs : List Rl) (i : Int) : Nat := ((rs[i.toNat]?).map fun r => r.key.length).getD 0
/-- the rule that is next, among the first ones -/
def nxtK (rs : List Rl) (d l : List Int) : Nat → Int
  | 0 => -1
  | k + 1 => if ((rs[k]?).map fun r => stF r d l).getD false = true ∧ (nxtK rs d l k < 0 ∨ kl rs (nxtK rs d l k) < kl rs k) then (k : Int) else nxtK rs d l k
theorem nxtK_is (rs : List Rl) (d l : List Int) : ∀ k, k ≤ rs.length → nxtK rs d l k = -1 ∨ ∃ i : Nat, ∃ hi : i < rs.length, i < k ∧ nxtK rs d l k = i ∧ stF rs[i] d l = true
  | 0, _ => .inl rfl
  | k + 1, hk => by
    rw [nxtK]
    split
    · rename_i h
      refine .inr ⟨k, by omega, by omega, rfl, ?_⟩
      have := h.1
      rw [List.getElem?_eq_getElem (by omega)] at this
      simpa using this
    · rcases nxtK_is rs d l k (by omega) with h | ⟨i, hi, h1, h2⟩
      · exact .inl h
      · exact .inr ⟨i, hi, by omega, h2⟩
set_option maxHeartbeats 8000000 in
theorem rnext_any (v dv lv : Value) (rs : List Rl) (d l : List Int) (w : World) (h : PsR w v rs) (hO : ∀ r ∈ rs, Ok r) (hn : rs.length ≤ 256) (hd : IR w dv d) (hl : IR w lv l) (hdn : d.length ≤ 1000000000) (hdw : dv = .slice none 0 0 ∨ ∃ ad n c, dv = .slice (some ad) n c) (hln : l.length ≤ 1000000000) :
    Calls Tryd.prog 26 #[.agg #[v], dv, lv] w fun e w' => e = .returned (.int .i64 (nxtK rs d l rs.length)) ∧ Grown w w' := by
  have HP : Hid (∀ V, Grown w V → PsR V v rs) := fun V hg => h.grown hg
  have HO : Hid (∀ r ∈ rs, Ok r) := hO
  have HS : Hid (∀ (V : World) (r : Rl) (av kv pv rv : Value), Grown w V → RR V av kv pv rv r → Ok r → Calls Tryd.prog 28 #[.agg #[.bool r.bg, av, kv, pv, .bool r.en, rv, .int .i64 r.cu], dv, lv] V fun e w' => e = .returned (.bool (stF r d l)) ∧ Grown V w') := fun V r av kv pv rv hg hr ho => rstF_any r av kv pv rv dv lv d l V hr (hd.grown hg) (hl.grown hg) ho hdn hdw hln
  obtain ⟨d1, d2, d3, rfl⟩ := hd.sl
  obtain ⟨l1, l2, l3, rfl⟩ := hl.sl
  obtain ⟨ra, rc, hv, hx1, hx2⟩ := h
  subst hv
  clear hx1 hx2 hd hl hdn hdw hln hO
  obtain ⟨n, hN⟩ : ∃ n, rs.length = n := ⟨_, rfl⟩
  have HN : Hid (rs.length = n) := hN
  have hnI : (n : Int) ≤ 256 := by omega
  rw [hN] at HP ⊢
  obtain ⟨R, hR⟩ : ∃ R, nxtK rs d l n = R := ⟨_, rfl⟩
  have HR : Hid (nxtK rs d l n = R) := hR
  rw [hR]
  clear hN hn hR
  go_enter Tryd.func26, Tryd.ntmps26
  go_wp2
  obtain ⟨wA, hwA⟩ : ∃ wA, wA = w.alloc (.cells #[.slice ra n rc] 24) := ⟨_, rfl⟩
  have HGA : Hid (Grown w wA) := by show Grown _ _; rw [hwA]; exact (Grown.refl _).alloc _
  have cA : wA.cell? ⟨w.heap.size, 0, none⟩ = some (.slice ra n rc) := by rw [hwA]; simp
  try rw [← hwA]
  clear hwA
  go_loopw [7, 8] (fun vb vi wr => ∃ (k : Nat) (b : Int), vi = .int .i64 k ∧ vb = .int .i64 b ∧ k ≤ n ∧ Hid (b = nxtK rs d l k) ∧ Grown wA wr) (fun _ vi _ => n - (intOf vi).toNat)
  case atStart => exact ⟨0, -1, rfl, rfl, by omega, rfl, Grown.refl _⟩
  case round =>
    obtain ⟨k, b, rfl, rfl, hk, HB, hG⟩ := hrel
    have hk0 : (0 : Int) ≤ (k : Int) := by omega
    have c0 := hG.cellv cA
    by_cases hlt : k < n
    · have hlt' : (k : Int) < (n : Int) := by omega
      have hkl : k < rs.length := by rw [HN.out]; exact hlt
      obtain ⟨a', c', e', _, hP⟩ := HP.out wr (HGA.out.trans hG)
      obtain ⟨g, o, ha', hP2⟩ := hP.resolve_left (fun e => by rw [e] at hkl; simp at hkl)
      injection e' with e1 e2 e3
      clear e2 e3
      rw [ha'] at e1
      subst e1
      obtain ⟨av, kv, pv, rv, q0, q1, q2, q3, q4, q5, q6, hR⟩ := hP2 k hkl
      have HC0 := fun (V : World) (hg : Grown wr V) => HS.out V rs[k] av kv pv rv (HGA.out.trans (hG.trans hg)) (hR.grown hg) (HO.out _ (List.getElem_mem hkl))
      have hnx : nxtK rs d l (k + 1) = if stF rs[k] d l = true ∧ (b < 0 ∨ kl rs b < rs[k].key.length) then (k : Int) else b := by
        have e : kl rs (k : Int) = rs[k].key.length := by simp [kl, hkl]
        rw [nxtK, List.getElem?_eq_getElem hkl, HB.out, e]
        simp
      obtain ⟨S, hS⟩ : ∃ S, stF rs[k] d l = S := ⟨_, rfl⟩
      rw [hS] at HC0 hnx
      have HC : Hid (∀ m os, Calls Tryd.prog 28 #[.agg #[.bool rs[k].bg, av, kv, pv, .bool rs[k].en, rv, .int .i64 rs[k].cu], .slice d1 d2 d3, .slice l1 l2 l3] (Go.Sort.grow (wr.drewN m) os) fun e w' => e = .returned (.bool S) ∧ Grown (Go.Sort.grow (wr.drewN m) os) w') := fun m os => HC0 _ ((Grown.refl wr).quiet m os)
      have hbi := nxtK_is rs d l k (by omega)
      rw [← HB.out] at hbi
      obtain ⟨ka, kc, hkv, hx1, hx2⟩ := hR.k
      clear hx1 hx2
      obtain ⟨kn, hkn⟩ : ∃ kn, rs[k].key.length = kn := ⟨_, rfl⟩
      rw [hkn] at hkv hnx
      subst hkv
      obtain ⟨a1, a2, a3, rfl⟩ := hR.a.sl
      obtain ⟨p1, p2, p3, rfl⟩ := hR.p.sl
      obtain ⟨r1, r2, r3, rfl⟩ := hR.r.sl
      generalize rs[k].bg = xb at q0 HC
      generalize rs[k].en = xe at q4 HC
      generalize rs[k].cu = xc at q6 HC
      have k0 := fun m os => ((Grown.refl wr).quiet m os).cellv c0
      have p0 := fun m os => ((Grown.refl wr).quiet m os).cellv q0
      have p1 := fun m os => ((Grown.refl wr).quiet m os).cellv q1
      have p2 := fun m os => ((Grown.refl wr).quiet m os).cellv q2
      have p3 := fun m os => ((Grown.refl wr).quiet m os).cellv q3
      have p4 := fun m os => ((Grown.refl wr).quiet m os).cellv q4
      have p5 := fun m os => ((Grown.refl wr).quiet m os).cellv q5
      have p6 := fun m os => ((Grown.refl wr).quiet m os).cellv q6
      have HGW : Hid (∀ m os, Grown wA (Go.Sort.grow (wr.drewN m) os)) := fun m os => hG.quiet m os
      have HKL : Hid (∀ i : Nat, i < n → ∃ kn' ka' kc', (∀ m os, (Go.Sort.grow (wr.drewN m) os).cell? ⟨g, o + i * 7 + 2, none⟩ = some (.slice ka' kn' kc')) ∧ kl rs (i : Int) = kn') := fun i hi => by
        have hil : i < rs.length := by rw [HN.out]; exact hi
        obtain ⟨_, kv', _, _, _, _, z2, _, _, _, _, hR'⟩ := hP2 i hil
        obtain ⟨ka', kc', hkv', _, _⟩ := hR'.k
        exact ⟨_, ka', kc', fun m os => by rw [← hkv']; exact ((Grown.refl wr).quiet m os).cellv z2, by simp [kl, hil]⟩
      have HNX := Hid.mk' hnx
      have HBI := Hid.mk' hbi
      clear HC0 hR hP hP2 ha' hS hnx hbi hkn q0 q1 q2 q3 q4 q5 q6 HB hG
      cases S with
      | false =>
        as_aux_lemma =>
          have HX : Hid (b = nxtK rs d l (k + 1)) := by rw [HNX.out]; simp [Hid]
          clear HNX HKL HBI
          go_wp2
          refine wp_region_quiet_grown mixed (by kernel_rfl) ?_
          repeat (go_big_quiet_step ((go_at_call 28; exact grown_of (HC.out _ _))))
          refine wpQuiet_nil ?_
          intro _ hw'
          obtain ⟨⟨nq, osq⟩, hw''⟩ := hw'
          subst hw''
          go_wp2
          exact ⟨⟨k + 1, b, by go_num, rfl, by omega, HX, HGW.out _ _⟩, by simp [intOf]; omega⟩
      | true =>
        by_cases hb : b < 0
        · as_aux_lemma =>
            have HX : Hid ((k : Int) = nxtK rs d l (k + 1)) := by rw [HNX.out]; simp [Hid, hb]
            clear HNX HKL HBI
            go_wp2
            refine wp_region_quiet_grown mixed (by kernel_rfl) ?_
            repeat (go_big_quiet_step ((go_at_call 28; exact grown_of (HC.out _ _))))
            refine wpQuiet_nil ?_
            intro _ hw'
            obtain ⟨⟨nq, osq⟩, hw''⟩ := hw'
            subst hw''
            go_wp2
            exact ⟨⟨k + 1, k, by go_num, rfl, by omega, HX, HGW.out _ _⟩, by simp [intOf]; omega⟩
        · obtain ⟨bi, hbi⟩ : ∃ bi : Nat, b = (bi : Int) := ⟨b.toNat, by omega⟩
          subst hbi
          have hbn : bi < n := by
            rcases HBI.out with h1 | ⟨i, _, h2, h3, _⟩
            · omega
            · omega
          have hbnI : (bi : Int) < (n : Int) := by omega
          have hb0 : (0 : Int) ≤ (bi : Int) := by omega
          have hbd : decide ((bi : Int) < 0) = false := by simp
          obtain ⟨kn', ka', kc', z2, hz⟩ := HKL.out bi hbn
          have HNY := Hid.mk' (by have := HNX.out; rw [hz] at this; exact this)
          clear HNX HKL HBI hz
          by_cases hgt : kn' < kn
          · as_aux_lemma =>
              have hgtI : (kn' : Int) < (kn : Int) := by omega
              have HX : Hid ((k : Int) = nxtK rs d l (k + 1)) := by rw [HNY.out]; simp [Hid, hgt]
              clear HNY
              go_wp2
              refine wp_region_quiet_grown mixed (by kernel_rfl) ?_
              repeat (go_big_quiet_step ((go_at_call 28; exact grown_of (HC.out _ _))))
              refine wpQuiet_nil ?_
              intro _ hw'
              obtain ⟨⟨nq, osq⟩, hw''⟩ := hw'
              subst hw''
              go_wp2
              exact ⟨⟨k + 1, k, by go_num, rfl, by omega, HX, HGW.out _ _⟩, by simp [intOf]; omega⟩
          · as_aux_lemma =>
              have hgtI : ¬ (kn' : Int) < (kn : Int) := by omega
              have hgtD : decide ((kn' : Int) < (kn : Int)) = false := by simp; omega
              have hgtE : decide (kn' < kn) = false := by simp; omega
              have HX : Hid ((bi : Int) = nxtK rs d l (k + 1)) := by rw [HNY.out, if_neg (by simp; omega)]; rfl
              clear HNY
              go_wp2
              refine wp_region_quiet_grown mixed (by kernel_rfl) ?_
              repeat (go_big_quiet_step ((go_at_call 28; exact grown_of (HC.out _ _))))
              refine wpQuiet_nil ?_
              intro _ hw'
              obtain ⟨⟨nq, osq⟩, hw''⟩ := hw'
              subst hw''
              go_wp2
              exact ⟨⟨k + 1, bi, by go_num, rfl, by omega, HX, HGW.out _ _⟩, by simp [intOf]; omega⟩
    · as_aux_lemma =>
        have hge : ¬ (k : Int) < (n : Int) := by omega
        have HQ : Hid (b = R) := by
          have : k = n := by omega
          rw [HB.out, this]; exact HR.out
        clear HB
        go_wp2
        go_ret
        exact ⟨by rw [HQ.out]; rfl, HGA.out.trans hG⟩
end Go.Proofs
