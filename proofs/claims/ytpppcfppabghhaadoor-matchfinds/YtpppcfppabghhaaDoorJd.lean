/-
  The document's answer: whether units stand at a row of sets.
-/
import Derived.RangeFuncNested
import Derived.RangeFuncBound
import Derived.RangeFuncCalls
import Derived.RangeFuncLeaves
import Derived.Shelf.Abstract
import Derived.Shelf.RegionOpen
import Derived.WalkKit
import Derived.WalkSpells
import Derived.WalkLawsBesides
import Derived.OwnWalkIn
import Derived.TacticsInMore
import Derived.LoopNIn
import Derived.LoopIn
import Derived.BigQuiet
import Derived.RegionIn
import Derived.Deep.QuietTactic
import Derived.Deep.RegionWith
import Derived.Lib.OthersKept
import Derived.Maps.AppendAt
import Derived.Lib.SmallJoins
import Derived.Shelf.SlSortCmp.QuietGrown
import Derived.Test.YtpppcfppabghhaaDoorQc
import Derived.Test.YtpppcfppabghhaaDoorWe
namespace Go.Proofs
open Go.RowKit Go.Shelf

set_option maxRecDepth 100000
attribute [local go_sem] Oper.semAt_some
attribute [local go_sem ↓] Go.wp_at_zero Go.wp_at_succ
set_option maxHeartbeats 2000000 in
theorem in_walk (A : Option Addr) (c : Nat) (l : List (Int × Int)) (u : Int) (w : World) (h : l = [] ∨ ∃ g o, A = some ⟨g, o, none⟩ ∧ Reads w g o l) (hn : l.length ≤ 1152921504606846976) :
    Calls Tryd.prog 55 #[.slice A l.length c, .int .i64 u] w fun e w' => e = .returned (.bool (decide (hasU l u))) ∧ Grown w w' := by
  obtain ⟨n, hnn⟩ : ∃ n, l.length = n := ⟨_, rfl⟩
  have HN : Hid (l.length = n) := hnn
  have HH : Hid (l = [] ∨ ∃ g o, A = some ⟨g, o, none⟩ ∧ Reads w g o l) := h
  rw [hnn] at hn ⊢
  obtain ⟨r, hr⟩ : ∃ r : Bool, decide (hasU l u) = r := ⟨_, rfl⟩
  have HR : Hid (decide (hasU l u) = r) := hr
  rw [hr]
  clear hr hnn h
  go_enter Tryd.func55, Tryd.ntmps55
  go_wp2
  go_loopw [5] (fun vi wr => ∃ k : Nat, vi = .int .i64 k ∧ k ≤ n ∧ Hid (∀ j, j < k → ¬ ((rg l j).1 ≤ u ∧ u ≤ (rg l j).2)) ∧ Grown w wr) (fun vi _ => n - (intOf vi).toNat)
  case atStart => exact ⟨0, rfl, by omega, fun j hj => by omega, Grown.refl _⟩
  case round =>
    obtain ⟨k, rfl, hk, hT, hG⟩ := hrel
    have hpos : (0 : Int) ≤ (k : Int) := by omega
    by_cases hlt : k < n
    · have hlt' : (k : Int) < (n : Int) := by omega
      have hkl : k < l.length := by rw [HN.out]; exact hlt
      obtain ⟨g, o, hA, hr1⟩ := HH.out.resolve_left (fun e => by rw [e] at hkl; simp at hkl)
      subst hA
      obtain ⟨p, q, hpq⟩ : ∃ p q : Int, rg l k = (p, q) := ⟨_, _, rfl⟩
      have x1 := hr1 k hkl
      rw [hpq] at x1
      have cp := hG.cellv x1.1
      have cq := hG.cellv x1.2
      simp only at cp cq
      have HNx : Hid (¬ (p ≤ u ∧ u ≤ q) → ∀ j, j < k + 1 → ¬ ((rg l j).1 ≤ u ∧ u ≤ (rg l j).2)) := fun hno j hj => by
        by_cases e : j = k
        · subst e; rw [hpq]; exact hno
        · exact hT.out j (by omega)
      have HYs : Hid ((p ≤ u ∧ u ≤ q) → r = true) := fun hy => by
        rw [← HR.out, decide_eq_true_eq, hasU_iff]
        exact ⟨k, hkl, by rw [hpq]; exact hy⟩
      clear x1 hr1 hpq hT
      by_cases h1 : p ≤ u
      · by_cases h2 : u ≤ q
        · have HF : Hid (r = true) := HYs.out ⟨h1, h2⟩
          clear HNx HYs
          go_wp2
          go_ret
          have hrf := HF.out
          exact ⟨by first | rfl | (rw [hrf]; rfl), hG⟩
        · have HX : Hid (∀ j, j < k + 1 → ¬ ((rg l j).1 ≤ u ∧ u ≤ (rg l j).2)) := HNx.out (fun h => h2 h.2)
          have d2 : decide (u ≤ q) = false := by simpa using h2
          clear HNx HYs
          go_wp2
          exact ⟨⟨k + 1, by go_num, by omega, HX, hG⟩, by simp [intOf]; omega⟩
      · have HX : Hid (∀ j, j < k + 1 → ¬ ((rg l j).1 ≤ u ∧ u ≤ (rg l j).2)) := HNx.out (fun h => h1 h.1)
        have d1 : decide (p ≤ u) = false := by simpa using h1
        clear HNx HYs
        go_wp2
        exact ⟨⟨k + 1, by go_num, by omega, HX, hG⟩, by simp [intOf]; omega⟩
    · have hge : ¬ (k : Int) < (n : Int) := by omega
      have hrt : r = false := by
        rw [← HR.out, decide_eq_false_iff_not, hasU_iff]
        rintro ⟨j, hj, h1⟩
        exact hT.out j (by rw [HN.out] at hj; omega) h1
      have HF : Hid (r = false) := hrt
      clear hT hrt
      go_wp2
      go_ret
      have hrf := HF.out
      exact ⟨by first | rfl | (rw [hrf]; rfl), hG⟩
theorem in_any (v : Value) (l : List (Int × Int)) (u : Int) (w : World) (h : Rs w v l) (hn : l.length ≤ 1152921504606846976) : Calls Tryd.prog 55 #[v, .int .i64 u] w fun e w' => e = .returned (.bool (decide (hasU l u))) ∧ Grown w w' := by
  obtain ⟨A, c, rfl, _, h⟩ := h
  exact in_walk A c l u w h hn
set_option maxHeartbeats 2000000 in
theorem rstands_many (a b : Option Addr) (n c m d : Nat) (w : World) (h : n ≠ m) : Calls Tryd.prog 42 #[.slice a n c, .slice b m d] w fun e w' => e = .returned (.bool false) ∧ Grown w w' := by
  have h' : ((n : Int) != (m : Int)) = true := by simp; omega
  go_enter Tryd.func42, Tryd.ntmps42
  go_wp2
  go_ret
  exact ⟨rfl, Grown.refl _⟩
set_option maxHeartbeats 2000000 in
theorem rstands_nil (a b : Option Addr) (c d : Nat) (w : World) : Calls Tryd.prog 42 #[.slice a 0 c, .slice b 0 d] w fun e w' => e = .returned (.bool true) ∧ Grown w w' := by
  go_enter Tryd.func42, Tryd.ntmps42
  go_wp2
  go_loopw [5] (fun vi wr => vi = .int .i64 0 ∧ wr = w) (fun _ _ => 0)
  case atStart => exact ⟨rfl, rfl⟩
  case round =>
    obtain ⟨rfl, rfl⟩ := hrel
    go_wp2
    go_ret
    exact ⟨rfl, Grown.refl _⟩
set_option maxHeartbeats 4000000 in
theorem rstands_walk (g o c g2 o2 d : Nat) (ls : List (List (Int × Int))) (us : List Int) (w : World) (h : SRd w g o ls) (h2 : IRd w g2 o2 us) (hn1 : ls.length ≤ 1000000) (hv : ls.all okS = true) (hl : ls.length = us.length) :
    Calls Tryd.prog 42 #[.slice (some ⟨g2, o2, none⟩) us.length d, .slice (some ⟨g, o, none⟩) ls.length c] w fun e w' => e = .returned (.bool ((ls.zip us).all fun x => hasB x.1 x.2)) ∧ Grown w w' := by
  obtain ⟨n, hnn⟩ : ∃ n, ls.length = n := ⟨_, rfl⟩
  have HN : Hid (ls.length = n) := hnn
  have HN2 : Hid (us.length = n) := by rw [← hl]; exact hnn
  have HZ : Hid ((ls.zip us).length = n) := by show _ = _; rw [List.length_zip, HN.out, HN2.out, Nat.min_self]
  rw [← hl, hnn]
  rw [hnn] at hn1
  obtain ⟨r, hr⟩ : ∃ r : Bool, ((ls.zip us).all fun x => hasB x.1 x.2) = r := ⟨_, rfl⟩
  have HR : Hid (((ls.zip us).all fun x => hasB x.1 x.2) = r) := hr
  rw [hr]
  have HV : Hid (ls.all okS = true) := hv
  have hm := mixed
  clear hr hnn hl hv
  have HH : Hid (SRd w g o ls) := h
  have HI : Hid (IRd w g2 o2 us) := h2
  clear h h2
  go_enter Tryd.func42, Tryd.ntmps42
  go_wp2
  go_loopw [5] (fun vi wr => ∃ k : Nat, vi = .int .i64 k ∧ k ≤ n ∧ Hid (((ls.zip us).take k).all (fun x => hasB x.1 x.2) = true) ∧ Grown w wr) (fun vi _ => n - (intOf vi).toNat)
  case atStart => exact ⟨0, rfl, by omega, by simp [Hid], Grown.refl _⟩
  case round =>
    obtain ⟨k, rfl, hk, hG, hB⟩ := hrel
    have hpos : (0 : Int) ≤ (k : Int) := by omega
    by_cases hlt : k < n
    · have hlt' : (k : Int) < (n : Int) := by omega
      have hkl : k < ls.length := by rw [HN.out]; exact hlt
      have hku : k < us.length := by rw [HN2.out]; exact hlt
      have hkz : k < (ls.zip us).length := by rw [HZ.out]; exact hlt
      obtain ⟨sv, hc, hs⟩ := HH.out k hkl
      have hi := hB.cellv (HI.out k hku)
      have hok := List.all_eq_true.1 HV.out ls[k] (List.getElem_mem hkl)
      have hval : validB ls[k] = true := by simp only [okS, Bool.and_eq_true] at hok; exact hok.1
      have hlen : ls[k].length ≤ 1152921504606846976 := by have := ((validB_iff _).1 hval).1; omega
      have HC : Hid (∀ m os, Calls Tryd.prog 55 #[sv, .int .i64 us[k]] (Go.Sort.grow (wr.drewN m) os) fun e w' => e = .returned (.bool (hasB ls[k] us[k])) ∧ Grown (Go.Sort.grow (wr.drewN m) os) w') := fun m os => by
        have := in_any sv ls[k] us[k] _ (hs.grown (hB.quiet m os)) hlen
        have e : hasB ls[k] us[k] = decide (hasU ls[k] us[k]) := by simp [hasB, hval]
        rw [e]; exact this
      obtain ⟨sa, sn, sc, rfl⟩ := hs.sl
      have f1 : ∀ m os, (Go.Sort.grow (wr.drewN m) os).cell? ⟨g, o + k, none⟩ = some (.slice sa sn sc) := fun m os => (hB.quiet m os).cellv hc
      have f2 : ∀ m os, (Go.Sort.grow (wr.drewN m) os).cell? ⟨g2, o2 + k, none⟩ = some (.int .i64 us[k]) := fun m os => ((Grown.refl _).quiet m os).cellv hi
      have hz : (ls.zip us)[k] = (ls[k], us[k]) := List.getElem_zip
      by_cases hv : hasB ls[k] us[k] = true
      · have HS : Hid (((ls.zip us).take (k + 1)).all (fun x => hasB x.1 x.2) = true) := by show _ = true; rw [all_succ _ hkz, hG.out, hz]; exact hv
        rw [hv] at HC
        generalize us[k] = u at HC f2
        clear hs hv hG hz hc hi hok hval hlen
        go_wp2
        refine wp_region_quiet_grown hm (by kernel_rfl) ?_
        repeat (go_big_quiet_step ((go_at_call 55; exact grown_of (HC.out _ _))))
        refine wpQuiet_nil ?_
        intro _ hw'
        obtain ⟨⟨nq, osq⟩, hw''⟩ := hw'
        subst hw''
        go_wp2
        exact ⟨⟨k + 1, by go_num, by omega, HS, hB.quiet _ _⟩, by simp [intOf]; omega⟩
      · have hv' : hasB ls[k] us[k] = false := by simpa using hv
        have HF : Hid (r = false) := by rw [← HR.out]; exact all_stop _ hkz (by rw [hz]; exact hv')
        rw [hv'] at HC
        generalize us[k] = u at HC f2
        clear hs hv hv' hG hz hc hi hok hval hlen
        go_wp2
        refine wp_region_quiet_grown hm (by kernel_rfl) ?_
        repeat (go_big_quiet_step ((go_at_call 55; exact grown_of (HC.out _ _))))
        refine wpQuiet_nil ?_
        intro _ hw'
        obtain ⟨⟨nq, osq⟩, hw''⟩ := hw'
        subst hw''
        go_wp2
        go_ret
        have hrf := HF.out
        exact ⟨by first | rfl | (rw [hrf]; rfl), hB.quiet _ _⟩
    · have hge : ¬ (k : Int) < (n : Int) := by omega
      have hrt : r = true := by
        rw [← HR.out]
        have := hG.out
        rwa [List.take_of_length_le (by rw [HZ.out]; omega)] at this
      have HF : Hid (r = true) := hrt
      clear hG hrt
      go_wp2
      go_ret
      have hrf := HF.out
      exact ⟨by first | rfl | (rw [hrf]; rfl), hB⟩
theorem rstands_any (v uv : Value) (ls : List (List (Int × Int))) (us : List Int) (w : World) (h : SR w v ls) (h2 : IR w uv us) (hn : ls.length ≤ 1000000) (hv : ls.all okS = true) : Calls Tryd.prog 42 #[uv, v] w fun e w' => e = .returned (.bool (stB ls us)) ∧ Grown w w' := by
  obtain ⟨a, cap, rfl, _, h⟩ := h
  obtain ⟨b, cap2, rfl, _, h2⟩ := h2
  unfold stB
  by_cases hl : ls.length = us.length
  · rw [decide_eq_true hl, Bool.true_and]
    rcases h with rfl | ⟨g, o, rfl, h⟩
    · obtain rfl : us = [] := List.eq_nil_of_length_eq_zero (by simpa using hl.symm)
      exact rstands_nil b a cap2 cap w
    · rcases h2 with rfl | ⟨g2, o2, rfl, h2⟩
      · obtain rfl : ls = [] := List.eq_nil_of_length_eq_zero (by simpa using hl)
        exact rstands_nil b _ cap2 cap w
      · exact rstands_walk g o cap g2 o2 cap2 ls us w h h2 hn hv hl
  · rw [decide_eq_false hl, Bool.false_and]
    exact rstands_many b a _ cap2 _ cap w (fun e => hl e.symm)
end Go.Proofs
