/-
  The document's Check of a rule.
-/
import Derived.RangeFuncNested
import Derived.RangeFuncBound
import Derived.RangeFuncCalls
import Derived.RangeFuncLeaves
import Derived.Shelf.Abstract
import Derived.Shelf.RegionOpen
import Derived.WalkKit
import Derived.WalkSpells
import Derived.WalkLawsBesides
import Derived.OwnWalkIn
import Derived.TacticsInMore
import Derived.LoopNIn
import Derived.LoopIn
import Derived.BigQuiet
import Derived.RegionIn
import Derived.Deep.QuietTactic
import Derived.Deep.RegionWith
import Derived.Lib.OthersKept
import Derived.Maps.AppendAt
import Derived.Lib.SmallJoins
import Derived.Shelf.SlSortCmp.QuietGrown
import Derived.Test.YtkijbaofhodplaaDoorWx
import Derived.Test.YtkijbaofhodplaaDoorRb
namespace Go.Proofs
open Go.RowKit Go.Shelf

set_option maxRecDepth 100000
attribute [local go_sem] Oper.semAt_some
attribute [local go_sem ↓] Go.wp_at_zero Go.wp_at_succ
theorem okS_split {l : List (Int × Int)} : okS l = (validB l && decide (l.length ≠ 0)) := by
  unfold okS
  cases l <;> simp
set_option maxHeartbeats 1000000 in
theorem rsets_nil (a : Option Addr) (c : Nat) (w : World) : Calls Tryd.prog 66 #[.slice a 0 c] w fun e w' => e = .returned (.bool true) ∧ Grown w w' := by
  go_enter Tryd.func66, Tryd.ntmps66
  go_wp2
  go_loopw [3] (fun vi wr => vi = .int .i64 0 ∧ wr = w) (fun _ _ => 0)
  case atStart => exact ⟨rfl, rfl⟩
  case round =>
    obtain ⟨rfl, rfl⟩ := hrel
    go_wp2
    go_ret
    exact ⟨rfl, Grown.refl _⟩
set_option maxHeartbeats 2000000 in
theorem rsets_walk (g o c : Nat) (ls : List (List (Int × Int))) (w : World) (h : SRd w g o ls) (hn1 : ls.length ≤ 1000000) :
    Calls Tryd.prog 66 #[.slice (some ⟨g, o, none⟩) ls.length c] w fun e w' => e = .returned (.bool (ls.all okS)) ∧ Grown w w' := by
  obtain ⟨n, hnn⟩ : ∃ n, ls.length = n := ⟨_, rfl⟩
  have HN : Hid (ls.length = n) := hnn
  rw [hnn] at hn1 ⊢
  obtain ⟨r, hr⟩ : ∃ r : Bool, ls.all okS = r := ⟨_, rfl⟩
  have HR : Hid (ls.all okS = r) := hr
  rw [hr]
  clear hr hnn
  have HH : Hid (SRd w g o ls) := h
  clear h
  go_enter Tryd.func66, Tryd.ntmps66
  go_wp2
  go_loopw [3] (fun vi wr => ∃ k : Nat, vi = .int .i64 k ∧ k ≤ n ∧ Hid ((ls.take k).all okS = true) ∧ Grown w wr) (fun vi _ => n - (intOf vi).toNat)
  case atStart => exact ⟨0, rfl, by omega, by simp [Hid], Grown.refl _⟩
  case round =>
    obtain ⟨k, rfl, hk, hG, hB⟩ := hrel
    have hpos : (0 : Int) ≤ (k : Int) := by omega
    by_cases hlt : k < n
    · have hlt' : (k : Int) < (n : Int) := by omega
      have hkl : k < ls.length := by rw [HN.out]; exact hlt
      obtain ⟨sv, hc, hs⟩ := HH.out k hkl
      have hc := hB.cellv hc
      have HC : Hid (∀ W, Grown wr W → Calls Tryd.prog 45 #[sv] W fun e w' => e = .returned (.bool (validB ls[k])) ∧ Grown W w') := fun W hW => rvalid_any sv _ W ((hs.grown hB).grown hW)
      obtain ⟨sa, sc, rfl, _, _⟩ := hs
      have hO : okS ls[k] = (validB ls[k] && decide (ls[k].length ≠ 0)) := okS_split
      have HS : Hid (okS ls[k] = true → (ls.take (k + 1)).all okS = true) := fun hv => by rw [all_succ okS hkl, hG.out, hv]; rfl
      have HF0 : Hid (okS ls[k] = false → r = false) := fun hv => by rw [← HR.out]; exact all_stop okS hkl hv
      clear hG
      generalize validB ls[k] = vb at *
      generalize ls[k].length = sn at *
      generalize okS ls[k] = ob at *
      cases vb with
      | false =>
        have HF : Hid (r = false) := HF0.out (by rw [hO]; rfl)
        clear hO HS HF0
        go_wp2_with (go_at_call 45; refine (HC.out _ (Grown.refl _)).mono ?_; rintro e w' ⟨rfl, hb⟩)
        go_ret
        have hrf := HF.out
        exact ⟨by first | rfl | (rw [hrf]; rfl), hB.trans hb⟩
      | true =>
        by_cases h0 : sn = 0
        · have HF : Hid (r = false) := HF0.out (by rw [hO]; simp [h0])
          clear hO HS HF0
          subst h0
          go_wp2_with fail
          refine (HC.out _ (Grown.refl _)).mono ?_
          rintro e w1 ⟨rfl, hb⟩
          have hc := hb.cellv hc
          go_wp2
          go_ret
          have hrf := HF.out
          exact ⟨by first | rfl | (rw [hrf]; rfl), hB.trans hb⟩
        · have HS2 : Hid ((ls.take (k + 1)).all okS = true) := HS.out (by rw [hO]; simp [h0])
          have h1 : ((sn : Int) == 0) = false := by simpa using h0
          clear hO HS HF0
          go_wp2_with fail
          refine (HC.out _ (Grown.refl _)).mono ?_
          rintro e w1 ⟨rfl, hb⟩
          have hc := hb.cellv hc
          go_wp2
          exact ⟨⟨k + 1, by go_num, by omega, HS2, hB.trans hb⟩, by simp [intOf]; omega⟩
    · have hrt : r = true := by
        rw [← HR.out]
        have := hG.out
        rwa [List.take_of_length_le (by rw [HN.out]; omega)] at this
      have HF : Hid (r = true) := hrt
      clear hG hrt
      go_wp2
      go_ret
      have hrf := HF.out
      exact ⟨by first | rfl | (rw [hrf]; rfl), hB⟩
theorem rsets_any (v : Value) (ls : List (List (Int × Int))) (w : World) (h : SR w v ls) (hn : ls.length ≤ 1000000) : Calls Tryd.prog 66 #[v] w fun e w' => e = .returned (.bool (ls.all okS)) ∧ Grown w w' := by
  obtain ⟨a, cap, rfl, _, h⟩ := h
  rcases h with rfl | ⟨g, o, rfl, h⟩
  · exact rsets_nil a cap w
  · exact rsets_walk g o cap ls w h hn
set_option maxHeartbeats 4000000 in
theorem rp_unit (bg en : Bool) (cu : Int) (aa ka pa ra : Option Addr) (an ac kn kc pn pc rn rc : Nat) (u y : Int) (ta : Option Addr) (tn tc : Nat) (w : World) : Calls Tryd.prog 67 #[.agg #[.bool bg, .slice aa an ac, .slice ka kn kc, .slice pa pn pc, .bool en, .slice ra rn rc, .int .i64 cu], .agg #[.int .i64 1, .int .i64 u, .int .i64 y, .slice ta tn tc]] w fun e w' => e = .returned (.int .i64 (if wd u = 0 ∨ y ≠ 0 ∨ tn ≠ 0 then 73 else 0)) ∧ Grown w w' := by
  have HC := runit_any u
  by_cases h1 : wd u = 0
  · rw [if_pos (.inl h1)]
    have hb : isUn u = false := by simp [isUn, h1]
    rw [hb] at HC
    clear h1 hb
    go_enter Tryd.func67, Tryd.ntmps67
    go_wp2_with (go_at_call 84; refine (HC _).mono ?_; rintro e w' ⟨rfl, rfl⟩)
    go_ret
    exact ⟨rfl, ((Grown.refl _).alloc _).alloc _⟩
  · have hb : isUn u = true := by simp [isUn, h1]
    rw [hb] at HC
    by_cases h2 : y = 0
    · by_cases h3 : tn = 0
      · rw [if_neg (by simp [h1, h2, h3])]
        subst h2 h3
        clear h1 hb
        go_enter Tryd.func67, Tryd.ntmps67
        go_wp2_with (go_at_call 84; refine (HC _).mono ?_; rintro e w' ⟨rfl, rfl⟩)
        go_ret
        exact ⟨rfl, ((Grown.refl _).alloc _).alloc _⟩
      · rw [if_pos (.inr (.inr h3))]
        subst h2
        have h4 : ((tn : Int) == 0) = false := by simpa using h3
        clear h1 hb
        go_enter Tryd.func67, Tryd.ntmps67
        go_wp2_with (go_at_call 84; refine (HC _).mono ?_; rintro e w' ⟨rfl, rfl⟩)
        go_ret
        exact ⟨rfl, ((Grown.refl _).alloc _).alloc _⟩
    · rw [if_pos (.inr (.inl h2))]
      have h4 : (y == 0) = false := by simpa using h2
      clear h1 hb
      go_enter Tryd.func67, Tryd.ntmps67
      go_wp2_with (go_at_call 84; refine (HC _).mono ?_; rintro e w' ⟨rfl, rfl⟩)
      go_ret
      exact ⟨rfl, ((Grown.refl _).alloc _).alloc _⟩
set_option maxHeartbeats 4000000 in
theorem rp_other (bg en : Bool) (cu : Int) (aa ka pa ra : Option Addr) (an ac kn kc pn pc rn rc : Nat) (k u y : Int) (ta : Option Addr) (tn tc : Nat) (w : World) (h1 : k ≠ 1) (h2 : k ≠ 2) (h3 : k ≠ 3) : Calls Tryd.prog 67 #[.agg #[.bool bg, .slice aa an ac, .slice ka kn kc, .slice pa pn pc, .bool en, .slice ra rn rc, .int .i64 cu], .agg #[.int .i64 k, .int .i64 u, .int .i64 y, .slice ta tn tc]] w fun e w' => e = .returned (.int .i64 73) ∧ Grown w w' := by
  have e1 : (k == 1) = false := by simpa using h1
  have e2 : (k == 2) = false := by simpa using h2
  have e3 : (k == 3) = false := by simpa using h3
  go_enter Tryd.func67, Tryd.ntmps67
  go_wp2
  go_ret
  exact ⟨rfl, ((Grown.refl _).alloc _).alloc _⟩
set_option maxHeartbeats 4000000 in
theorem rp_copy (bg en : Bool) (cu : Int) (aa ka pa ra : Option Addr) (an ac kn kc pn pc rn rc : Nat) (u y : Int) (ta : Option Addr) (tn tc : Nat) (w : World) : Calls Tryd.prog 67 #[.agg #[.bool bg, .slice aa an ac, .slice ka kn kc, .slice pa pn pc, .bool en, .slice ra rn rc, .int .i64 cu], .agg #[.int .i64 2, .int .i64 u, .int .i64 y, .slice ta tn tc]] w fun e w' => e = .returned (.int .i64 (if u ≠ 0 ∨ tn ≠ 0 then 73 else if y < 0 ∨ (kn : Int) ≤ y then 74 else 0)) ∧ Grown w w' := by
  have hm := mixed
  by_cases h1 : u = 0
  · subst h1
    by_cases h2 : tn = 0
    · subst h2
      rw [if_neg (by simp)]
      by_cases h3 : y < 0
      · rw [if_pos (.inl h3)]
        go_enter Tryd.func67, Tryd.ntmps67
        go_wp2
        go_ret
        exact ⟨rfl, ((Grown.refl _).alloc _).alloc _⟩
      · have d3 : decide (y < 0) = false := by simpa using h3
        by_cases h4 : (kn : Int) ≤ y
        · rw [if_pos (.inr h4)]
          go_enter Tryd.func67, Tryd.ntmps67
          go_wp2
          go_ret
          exact ⟨rfl, ((Grown.refl _).alloc _).alloc _⟩
        · rw [if_neg (by omega)]
          have d4 : decide ((kn : Int) ≤ y) = false := by simpa using h4
          have e0 : ∀ m os, (Go.Sort.grow (((w.alloc (.cells #[.bool bg, .slice aa an ac, .slice ka kn kc, .slice pa pn pc, .bool en, .slice ra rn rc, .int .i64 cu] 54)).alloc (.cells #[.int .i64 2, .int .i64 0, .int .i64 y, .slice ta 0 tc] 66)).drewN m) os).cell? ⟨w.heap.size + 1, 0, none⟩ = some (.int .i64 2) := fun m os => cell_grown (by simp) (by simp) m os
          go_enter Tryd.func67, Tryd.ntmps67
          go_wp2
          refine wp_region_quiet_grown hm (by kernel_rfl) ?_
          repeat (go_big_quiet_step (fail))
          refine wpQuiet_nil ?_
          intro _ hw'
          obtain ⟨⟨nq, osq⟩, hw''⟩ := hw'
          subst hw''
          go_wp2
          go_ret
          exact ⟨rfl, (((Grown.refl _).alloc _).alloc _).quiet _ _⟩
    · rw [if_pos (.inr h2)]
      have h4 : ((tn : Int) == 0) = false := by simpa using h2
      go_enter Tryd.func67, Tryd.ntmps67
      go_wp2
      go_ret
      exact ⟨rfl, ((Grown.refl _).alloc _).alloc _⟩
  · rw [if_pos (.inl h1)]
    have hq2 : (u == 0) = false := by simpa using h1
    go_enter Tryd.func67, Tryd.ntmps67
    go_wp2
    go_ret
    exact ⟨rfl, ((Grown.refl _).alloc _).alloc _⟩
set_option maxHeartbeats 8000000 in
theorem rp_pair_in (bg en : Bool) (cu : Int) (aa pa ra : Option Addr) (an ac kn kc pn pc rn rc : Nat) (g o j : Nat) (sv : Value) (f tl : List (Int × Int)) (ta : Option Addr) (tn tc : Nat) (w : World) (hj : j < kn) (hc : w.cell? ⟨g, o + j, none⟩ = some sv) (hf : Rs w sv f) (ht : Rs w (.slice ta tn tc) tl) :
    Calls Tryd.prog 67 #[.agg #[.bool bg, .slice aa an ac, .slice (some ⟨g, o, none⟩) kn kc, .slice pa pn pc, .bool en, .slice ra rn rc, .int .i64 cu], .agg #[.int .i64 3, .int .i64 0, .int .i64 j, .slice ta tn tc]] w fun e w' => e = .returned (.int .i64 (if matB f tl = false then 75 else 0)) ∧ Grown w w' := by
  have hm := mixed
  have HV : Hid (∀ m os, Calls Tryd.prog 45 #[.slice ta tn tc] (Go.Sort.grow (((w.alloc (.cells #[.bool bg, .slice aa an ac, .slice (some ⟨g, o, none⟩) kn kc, .slice pa pn pc, .bool en, .slice ra rn rc, .int .i64 cu] 54)).alloc (.cells #[.int .i64 3, .int .i64 0, .int .i64 (j : Int), .slice ta tn tc] 66)).drewN m) os) fun e w' => e = .returned (.bool (validB tl)) ∧ Grown (Go.Sort.grow (((w.alloc (.cells #[.bool bg, .slice aa an ac, .slice (some ⟨g, o, none⟩) kn kc, .slice pa pn pc, .bool en, .slice ra rn rc, .int .i64 cu] 54)).alloc (.cells #[.int .i64 3, .int .i64 0, .int .i64 (j : Int), .slice ta tn tc] 66)).drewN m) os) w') := fun m os => rvalid_any _ tl _ (ht.grown ((((Grown.refl _).alloc _).alloc _).quiet m os))
  have HL : Hid (∀ m os, Calls Tryd.prog 83 #[.slice ta tn tc] (Go.Sort.grow (((w.alloc (.cells #[.bool bg, .slice aa an ac, .slice (some ⟨g, o, none⟩) kn kc, .slice pa pn pc, .bool en, .slice ra rn rc, .int .i64 cu] 54)).alloc (.cells #[.int .i64 3, .int .i64 0, .int .i64 (j : Int), .slice ta tn tc] 66)).drewN m) os) fun e w' => e = .returned (.int .i64 (lenU tl)) ∧ Grown (Go.Sort.grow (((w.alloc (.cells #[.bool bg, .slice aa an ac, .slice (some ⟨g, o, none⟩) kn kc, .slice pa pn pc, .bool en, .slice ra rn rc, .int .i64 cu] 54)).alloc (.cells #[.int .i64 3, .int .i64 0, .int .i64 (j : Int), .slice ta tn tc] 66)).drewN m) os) w') := fun m os => rlen_any _ tl _ (ht.grown ((((Grown.refl _).alloc _).alloc _).quiet m os))
  have HF : Hid (∀ m os, Calls Tryd.prog 83 #[sv] (Go.Sort.grow (((w.alloc (.cells #[.bool bg, .slice aa an ac, .slice (some ⟨g, o, none⟩) kn kc, .slice pa pn pc, .bool en, .slice ra rn rc, .int .i64 cu] 54)).alloc (.cells #[.int .i64 3, .int .i64 0, .int .i64 (j : Int), .slice ta tn tc] 66)).drewN m) os) fun e w' => e = .returned (.int .i64 (lenU f)) ∧ Grown (Go.Sort.grow (((w.alloc (.cells #[.bool bg, .slice aa an ac, .slice (some ⟨g, o, none⟩) kn kc, .slice pa pn pc, .bool en, .slice ra rn rc, .int .i64 cu] 54)).alloc (.cells #[.int .i64 3, .int .i64 0, .int .i64 (j : Int), .slice ta tn tc] 66)).drewN m) os) w') := fun m os => rlen_any _ f _ (hf.grown ((((Grown.refl _).alloc _).alloc _).quiet m os))
  have e0 : ∀ m os, (Go.Sort.grow (((w.alloc (.cells #[.bool bg, .slice aa an ac, .slice (some ⟨g, o, none⟩) kn kc, .slice pa pn pc, .bool en, .slice ra rn rc, .int .i64 cu] 54)).alloc (.cells #[.int .i64 3, .int .i64 0, .int .i64 (j : Int), .slice ta tn tc] 66)).drewN m) os).cell? ⟨w.heap.size + 1, 0, none⟩ = some (.int .i64 3) := fun m os => cell_grown (by simp) (by simp) m os
  have e2 : ∀ m os, (Go.Sort.grow (((w.alloc (.cells #[.bool bg, .slice aa an ac, .slice (some ⟨g, o, none⟩) kn kc, .slice pa pn pc, .bool en, .slice ra rn rc, .int .i64 cu] 54)).alloc (.cells #[.int .i64 3, .int .i64 0, .int .i64 (j : Int), .slice ta tn tc] 66)).drewN m) os).cell? ⟨w.heap.size + 1, 2, none⟩ = some (.int .i64 (j : Int)) := fun m os => cell_grown (by simp) (by simp) m os
  have e3 : ∀ m os, (Go.Sort.grow (((w.alloc (.cells #[.bool bg, .slice aa an ac, .slice (some ⟨g, o, none⟩) kn kc, .slice pa pn pc, .bool en, .slice ra rn rc, .int .i64 cu] 54)).alloc (.cells #[.int .i64 3, .int .i64 0, .int .i64 (j : Int), .slice ta tn tc] 66)).drewN m) os).cell? ⟨w.heap.size + 1, 3, none⟩ = some (.slice ta tn tc) := fun m os => cell_grown (by simp) (by simp) m os
  have e5 : ∀ m os, (Go.Sort.grow (((w.alloc (.cells #[.bool bg, .slice aa an ac, .slice (some ⟨g, o, none⟩) kn kc, .slice pa pn pc, .bool en, .slice ra rn rc, .int .i64 cu] 54)).alloc (.cells #[.int .i64 3, .int .i64 0, .int .i64 (j : Int), .slice ta tn tc] 66)).drewN m) os).cell? ⟨w.heap.size, 2, none⟩ = some (.slice (some ⟨g, o, none⟩) kn kc) := fun m os => cell_grown (by simp; omega) (cell_up (by simp) _) m os
  have e4 : ∀ m os, (Go.Sort.grow (((w.alloc (.cells #[.bool bg, .slice aa an ac, .slice (some ⟨g, o, none⟩) kn kc, .slice pa pn pc, .bool en, .slice ra rn rc, .int .i64 cu] 54)).alloc (.cells #[.int .i64 3, .int .i64 0, .int .i64 (j : Int), .slice ta tn tc] 66)).drewN m) os).cell? ⟨g, o + j, none⟩ = some sv := fun m os => ((((Grown.refl _).alloc _).alloc _).quiet m os).cellv hc
  have hj0 : (0 : Int) ≤ (j : Int) := by omega
  have hj1 : (j : Int) < (kn : Int) := by omega
  have d3 : decide ((j : Int) < 0) = false := by simp
  have d4 : decide ((kn : Int) ≤ (j : Int)) = false := by simp; omega
  unfold matB
  generalize validB tl = vb at HV
  generalize lenU tl = lt at HL
  generalize lenU f = lf at HF
  obtain ⟨sa, sn, sc, rfl⟩ := hf.sl
  clear hf ht hc
  cases vb with
  | false =>
    rw [if_pos (by simp)]
    go_enter Tryd.func67, Tryd.ntmps67
    go_wp2
    refine wp_region_quiet_grown hm (by kernel_rfl) ?_
    repeat (go_big_quiet_step ((go_at_call 45; exact grown_of (HV.out _ _))))
    refine wpQuiet_nil ?_
    intro _ hw'
    obtain ⟨⟨nq, osq⟩, hw''⟩ := hw'
    subst hw''
    go_wp2
    go_ret
    exact ⟨rfl, (((Grown.refl _).alloc _).alloc _).quiet _ _⟩
  | true =>
    by_cases he : lf = lt
    · rw [if_neg (by simp [he])]
      subst he
      go_enter Tryd.func67, Tryd.ntmps67
      go_wp2
      refine wp_region_quiet_grown hm (by kernel_rfl) ?_
      repeat (go_big_quiet_step ((go_at_call 45; exact grown_of (HV.out _ _))))
      go_big_quiet_step ((go_at_call 83; exact grown_of (HL.out _ _)))
      repeat (go_big_quiet_step ((go_at_call 83; exact grown_of (HF.out _ _))))
      refine wpQuiet_nil ?_
      intro _ hw'
      obtain ⟨⟨nq, osq⟩, hw''⟩ := hw'
      subst hw''
      go_wp2
      go_ret
      exact ⟨rfl, (((Grown.refl _).alloc _).alloc _).quiet _ _⟩
    · rw [if_pos (by simp [he])]
      have hne : (lt != lf) = true := by simpa using fun e => he e.symm
      go_enter Tryd.func67, Tryd.ntmps67
      go_wp2
      refine wp_region_quiet_grown hm (by kernel_rfl) ?_
      repeat (go_big_quiet_step ((go_at_call 45; exact grown_of (HV.out _ _))))
      go_big_quiet_step ((go_at_call 83; exact grown_of (HL.out _ _)))
      repeat (go_big_quiet_step ((go_at_call 83; exact grown_of (HF.out _ _))))
      refine wpQuiet_nil ?_
      intro _ hw'
      obtain ⟨⟨nq, osq⟩, hw''⟩ := hw'
      subst hw''
      go_wp2
      go_ret
      exact ⟨rfl, (((Grown.refl _).alloc _).alloc _).quiet _ _⟩
set_option maxHeartbeats 4000000 in
theorem rp_pair_no (bg en : Bool) (cu : Int) (aa ka pa ra : Option Addr) (an ac kn kc pn pc rn rc : Nat) (u y : Int) (ta : Option Addr) (tn tc : Nat) (w : World) (h : u ≠ 0 ∨ y < 0 ∨ (kn : Int) ≤ y) : Calls Tryd.prog 67 #[.agg #[.bool bg, .slice aa an ac, .slice ka kn kc, .slice pa pn pc, .bool en, .slice ra rn rc, .int .i64 cu], .agg #[.int .i64 3, .int .i64 u, .int .i64 y, .slice ta tn tc]] w fun e w' => e = .returned (.int .i64 (if u ≠ 0 then 73 else 74)) ∧ Grown w w' := by
  by_cases h1 : u = 0
  · subst h1
    rw [if_neg (by simp)]
    by_cases h3 : y < 0
    · clear h
      go_enter Tryd.func67, Tryd.ntmps67
      go_wp2
      go_ret
      exact ⟨rfl, ((Grown.refl _).alloc _).alloc _⟩
    · have d3 : decide (y < 0) = false := by simpa using h3
      have h4 : (kn : Int) ≤ y := by omega
      clear h
      go_enter Tryd.func67, Tryd.ntmps67
      go_wp2
      go_ret
      exact ⟨rfl, ((Grown.refl _).alloc _).alloc _⟩
  · rw [if_pos h1]
    have hq2 : (u == 0) = false := by simpa using h1
    clear h
    go_enter Tryd.func67, Tryd.ntmps67
    go_wp2
    go_ret
    exact ⟨rfl, ((Grown.refl _).alloc _).alloc _⟩
theorem rpiece_any (r : Rl) (av kv pv rv : Value) (p : Pc) (tv : Value) (w : World) (h : RR w av kv pv rv r) (ht : Rs w tv p.tl) : Calls Tryd.prog 67 #[.agg #[.bool r.bg, av, kv, pv, .bool r.en, rv, .int .i64 r.cu], .agg #[.int .i64 p.k, .int .i64 p.u, .int .i64 p.y, tv]] w fun e w' => e = .returned (.int .i64 (pcE r.key p)) ∧ Grown w w' := by
  obtain ⟨aa, an, ac, rfl⟩ := h.a.sl
  obtain ⟨ka, kc, rfl, _, hk⟩ := h.k
  obtain ⟨pa, pn, pc, rfl⟩ := h.p.sl
  obtain ⟨ra, rn, rc, rfl⟩ := h.r.sl
  obtain ⟨k, u, y, tl⟩ := p
  simp only at ht ⊢
  obtain ⟨ta, tn, tc, rfl⟩ := ht.sl
  have hl := len_zero_iff ht
  unfold pcE
  simp only
  by_cases h1 : k = 1
  · subst h1
    rw [if_pos rfl]
    have := rp_unit r.bg r.en r.cu aa ka pa ra an ac r.key.length kc pn pc rn rc u y ta tn tc w
    rw [hl] at this ⊢
    simpa using this
  · rw [if_neg h1]
    by_cases h2 : k = 2
    · subst h2
      rw [if_pos (.inl rfl)]
      have := rp_copy r.bg r.en r.cu aa ka pa ra an ac r.key.length kc pn pc rn rc u y ta tn tc w
      rw [hl] at this ⊢
      simpa using this
    · by_cases h3 : k = 3
      · subst h3
        rw [if_pos (.inr rfl)]
        by_cases h4 : u ≠ 0 ∨ y < 0 ∨ (r.key.length : Int) ≤ y
        · have := rp_pair_no r.bg r.en r.cu aa ka pa ra an ac r.key.length kc pn pc rn rc u y ta tn tc w h4
          by_cases h5 : u = 0
          · subst h5
            have h6 : y < 0 ∨ (r.key.length : Int) ≤ y := by simpa using h4
            simpa [h6] using this
          · simpa [h5] using this
        · simp only [not_or, Classical.not_not, ne_eq] at h4
          obtain ⟨rfl, h5, h6⟩ := h4
          obtain ⟨j, rfl⟩ : ∃ j : Nat, y = (j : Int) := ⟨y.toNat, by omega⟩
          have hjl : j < r.key.length := by omega
          obtain ⟨g, o, rfl, hk2⟩ := hk.resolve_left (fun e => by rw [e] at hjl; simp at hjl)
          obtain ⟨sv, hc, hs⟩ := hk2 j hjl
          have hka : keyAt r.key (j : Int) = r.key[j] := by simp [keyAt, hjl]
          have := rp_pair_in r.bg r.en r.cu aa pa ra an ac r.key.length kc pn pc rn rc g o j sv r.key[j] tl ta tn tc w hjl hc hs ht
          rw [hka]
          have h7 : ¬ ((j : Int) < 0 ∨ (r.key.length : Int) ≤ (j : Int)) := by omega
          rw [if_neg (by simp), if_neg h7]
          simpa using this
      · rw [if_neg (by omega)]
        exact rp_other r.bg r.en r.cu aa ka pa ra an ac r.key.length kc pn pc rn rc k u y ta tn tc w h1 h2 h3
end Go.Proofs
namespace Go.Proofs
open Go.RowKit Go.Shelf

set_option maxRecDepth 100000
attribute [local go_sem] Oper.semAt_some
attribute [local go_sem ↓] Go.wp_at_zero Go.wp_at_succ
set_option maxHeartbeats 4000000 in
theorem rcheck_early (bg en : Bool) (cu : Int) (aa ka pa ra : Option Addr) (an ac kn kc pn pc rn rc : Nat) (w : World) (h : kn = 0 ∨ 8 < kn ∨ 8 < an ∨ 8 < pn ∨ 16 < rn) :
    Calls Tryd.prog 43 #[.agg #[.bool bg, .slice aa an ac, .slice ka kn kc, .slice pa pn pc, .bool en, .slice ra rn rc, .int .i64 cu]] w fun e w' => e = .returned (.int .i64 (if kn = 0 ∨ 8 < kn then 70 else 72)) ∧ Grown w w' := by
  by_cases h1 : kn = 0
  · rw [if_pos (.inl h1)]
    subst h1
    clear h
    go_enter Tryd.func43, Tryd.ntmps43
    go_wp2
    go_ret
    exact ⟨rfl, (Grown.refl _).alloc _⟩
  · have e1 : decide ((kn : Int) < 1) = false := by simp; omega
    have e1' : ¬ (kn : Int) < 1 := by omega
    by_cases h2 : 8 < kn
    · rw [if_pos (.inr h2)]
      have h2' : (8 : Int) < (kn : Int) := by omega
      clear h
      go_enter Tryd.func43, Tryd.ntmps43
      go_wp2
      go_ret
      exact ⟨rfl, (Grown.refl _).alloc _⟩
    · rw [if_neg (by omega)]
      have d2' : ¬ (8 : Int) < (kn : Int) := by omega
      by_cases h3 : 8 < an
      · have h3' : (8 : Int) < (an : Int) := by omega
        clear h
        go_enter Tryd.func43, Tryd.ntmps43
        go_wp2
        go_ret
        exact ⟨rfl, (Grown.refl _).alloc _⟩
      · have d3' : ¬ (8 : Int) < (an : Int) := by omega
        by_cases h4 : 8 < pn
        · have h4' : (8 : Int) < (pn : Int) := by omega
          clear h
          go_enter Tryd.func43, Tryd.ntmps43
          go_wp2
          go_ret
          exact ⟨rfl, (Grown.refl _).alloc _⟩
        · have d4' : ¬ (8 : Int) < (pn : Int) := by omega
          have h5' : (16 : Int) < (rn : Int) := by omega
          clear h
          go_enter Tryd.func43, Tryd.ntmps43
          go_wp2
          go_ret
          exact ⟨rfl, (Grown.refl _).alloc _⟩
set_option maxHeartbeats 4000000 in
theorem rcheck_sets (r : Rl) (aa ka pa ra : Option Addr) (an ac kn kc pn pc rn rc : Nat) (w : World) (h : RR w (.slice aa an ac) (.slice ka kn kc) (.slice pa pn pc) (.slice ra rn rc) r)
    (h1 : kn ≠ 0) (h2 : kn ≤ 8) (h3 : an ≤ 8) (h4 : pn ≤ 8) (h5 : rn ≤ 16) (hb : (r.ante.all okS && r.key.all okS && r.post.all okS) = false) (ha : an = r.ante.length) (hk : kn = r.key.length) (hp : pn = r.post.length) :
    Calls Tryd.prog 43 #[.agg #[.bool r.bg, .slice aa an ac, .slice ka kn kc, .slice pa pn pc, .bool r.en, .slice ra rn rc, .int .i64 r.cu]] w fun e w' => e = .returned (.int .i64 71) ∧ Grown w w' := by
  have HA : Hid (∀ W, Grown w W → Calls Tryd.prog 66 #[.slice aa an ac] W fun e w' => e = .returned (.bool (r.ante.all okS)) ∧ Grown W w') := fun W hW => rsets_any _ _ W (h.a.grown hW) (by omega)
  have HK : Hid (∀ W, Grown w W → Calls Tryd.prog 66 #[.slice ka kn kc] W fun e w' => e = .returned (.bool (r.key.all okS)) ∧ Grown W w') := fun W hW => rsets_any _ _ W (h.k.grown hW) (by omega)
  have HP : Hid (∀ W, Grown w W → Calls Tryd.prog 66 #[.slice pa pn pc] W fun e w' => e = .returned (.bool (r.post.all okS)) ∧ Grown W w') := fun W hW => rsets_any _ _ W (h.p.grown hW) (by omega)
  generalize r.ante.all okS = b1 at HA hb
  generalize r.key.all okS = b2 at HK hb
  generalize r.post.all okS = b3 at HP hb
  obtain ⟨bg, en, cu, ante, key, post, res⟩ := r
  simp only
  clear ha hk hp h
  have e1 : ¬ (kn : Int) < 1 := by omega
  have d2' : ¬ (8 : Int) < (kn : Int) := by omega
  have d3' : ¬ (8 : Int) < (an : Int) := by omega
  have d4' : ¬ (8 : Int) < (pn : Int) := by omega
  have d5' : ¬ (16 : Int) < (rn : Int) := by omega
  clear h2 h3 h4 h5
  cases b1 with
  | false =>
    go_enter Tryd.func43, Tryd.ntmps43
    go_wp2_with fail
    refine (HA.out _ ((Grown.refl _).alloc _)).mono ?_
    rintro e w1 ⟨rfl, hb1⟩
    go_wp2
    go_ret
    exact ⟨rfl, ((Grown.refl _).alloc _).trans hb1⟩
  | true =>
    cases b2 with
    | false =>
      go_enter Tryd.func43, Tryd.ntmps43
      go_wp2_with fail
      refine (HA.out _ ((Grown.refl _).alloc _)).mono ?_
      rintro e w1 ⟨rfl, hb1⟩
      have hc2 := fun j v h => hb1.cellv (a := ⟨w.heap.size, j, none⟩) (v := v) h
      have g2 := hc2 2 (.slice ka kn kc) (by simp)
      go_wp2_with fail
      refine (HK.out _ (((Grown.refl _).alloc _).trans hb1)).mono ?_
      rintro e w2 ⟨rfl, hb2⟩
      go_wp2
      go_ret
      exact ⟨rfl, (((Grown.refl _).alloc _).trans hb1).trans hb2⟩
    | true =>
      obtain rfl : b3 = false := by simpa using hb
      go_enter Tryd.func43, Tryd.ntmps43
      go_wp2_with fail
      refine (HA.out _ ((Grown.refl _).alloc _)).mono ?_
      rintro e w1 ⟨rfl, hb1⟩
      have hc2 := fun j v h => hb1.cellv (a := ⟨w.heap.size, j, none⟩) (v := v) h
      have g2 := hc2 2 (.slice ka kn kc) (by simp)
      have g3 := hc2 3 (.slice pa pn pc) (by simp)
      go_wp2_with fail
      refine (HK.out _ (((Grown.refl _).alloc _).trans hb1)).mono ?_
      rintro e w2 ⟨rfl, hb2⟩
      have g3 := hb2.cellv g3
      go_wp2_with fail
      refine (HP.out _ ((((Grown.refl _).alloc _).trans hb1).trans hb2)).mono ?_
      rintro e w3 ⟨rfl, hb3⟩
      go_wp2
      go_ret
      exact ⟨rfl, ((((Grown.refl _).alloc _).trans hb1).trans hb2).trans hb3⟩
set_option maxHeartbeats 4000000 in
theorem rcheck_tail (r : Rl) (aa ka pa ra : Option Addr) (an ac kn kc pn pc rn rc : Nat) (w : World) (h : RR w (.slice aa an ac) (.slice ka kn kc) (.slice pa pn pc) (.slice ra rn rc) r)
    (h1 : kn ≠ 0) (h2 : kn ≤ 8) (h3 : an ≤ 8) (h4 : pn ≤ 8) (h5 : rn ≤ 16) (hb1 : r.ante.all okS = true) (hb2 : r.key.all okS = true) (hb3 : r.post.all okS = true) (ha : an = r.ante.length) (hk : kn = r.key.length) (hp : pn = r.post.length) (hr : rn = r.res.length) :
    Calls Tryd.prog 43 #[.agg #[.bool r.bg, .slice aa an ac, .slice ka kn kc, .slice pa pn pc, .bool r.en, .slice ra rn rc, .int .i64 r.cu]] w fun e w' => e = .returned (.int .i64 (tailE r)) ∧ Grown w w' := by
  have HA : Hid (∀ W, Grown w W → Calls Tryd.prog 66 #[.slice aa an ac] W fun e w' => e = .returned (.bool true) ∧ Grown W w') := fun W hW => by have := rsets_any _ _ W (h.a.grown hW) (by omega); rwa [hb1] at this
  have HK : Hid (∀ W, Grown w W → Calls Tryd.prog 66 #[.slice ka kn kc] W fun e w' => e = .returned (.bool true) ∧ Grown W w') := fun W hW => by have := rsets_any _ _ W (h.k.grown hW) (by omega); rwa [hb2] at this
  have HP : Hid (∀ W, Grown w W → Calls Tryd.prog 66 #[.slice pa pn pc] W fun e w' => e = .returned (.bool true) ∧ Grown W w') := fun W hW => by have := rsets_any _ _ W (h.p.grown hW) (by omega); rwa [hb3] at this
  have HQ : Hid (∀ W, Grown w W → ∀ (p : Pc) (tv : Value), Rs W tv p.tl → Calls Tryd.prog 67 #[.agg #[.bool r.bg, .slice aa an ac, .slice ka kn kc, .slice pa pn pc, .bool r.en, .slice ra rn rc, .int .i64 r.cu], .agg #[.int .i64 p.k, .int .i64 p.u, .int .i64 p.y, tv]] W fun e w' => e = .returned (.int .i64 (pcE r.key p)) ∧ Grown W w') := fun W hW p tv ht => rpiece_any r _ _ _ _ p tv W (h.grown hW) ht
  have HR : Hid (rn = r.res.length ∧ (r.res = [] ∨ ∃ g o, ra = some ⟨g, o, none⟩ ∧ PRd w g o r.res)) := by
    obtain ⟨a', c', e', _, h'⟩ := h.r
    cases e'
    exact ⟨hr, h'⟩
  have HE : Hid (tailE r = if fstE r.key r.res ≠ 0 then fstE r.key r.res else if r.cu < 0 ∨ (rn : Int) < r.cu then 76 else 0) := by unfold tailE; rw [hr]; rfl
  generalize tailE r = E at HE
  obtain ⟨bg, en, cu, ante, key, post, res⟩ := r
  simp only at HE HR HQ ⊢
  clear ha hk hp h hb1 hb2 hb3 hr
  have e1 : ¬ (kn : Int) < 1 := by omega
  have d2' : ¬ (8 : Int) < (kn : Int) := by omega
  have d3' : ¬ (8 : Int) < (an : Int) := by omega
  have d4' : ¬ (8 : Int) < (pn : Int) := by omega
  have d5' : ¬ (16 : Int) < (rn : Int) := by omega
  have HM : Hid (rn ≤ 16) := h5
  clear h2 h3 h4 h5
  go_enter Tryd.func43, Tryd.ntmps43
  go_wp2_with fail
  refine (HA.out _ ((Grown.refl _).alloc _)).mono ?_
  rintro e w1 ⟨rfl, hb1⟩
  have hc2 := fun j v h => hb1.cellv (a := ⟨w.heap.size, j, none⟩) (v := v) h
  have g0 := hc2 0 (.bool bg) (by simp)
  have g1 := hc2 1 (.slice aa an ac) (by simp)
  have g2 := hc2 2 (.slice ka kn kc) (by simp)
  have g3 := hc2 3 (.slice pa pn pc) (by simp)
  have g4 := hc2 4 (.bool en) (by simp)
  have g5 := hc2 5 (.slice ra rn rc) (by simp)
  have g6 := hc2 6 (.int .i64 cu) (by simp)
  go_wp2_with fail
  refine (HK.out _ (((Grown.refl _).alloc _).trans hb1)).mono ?_
  rintro e w2 ⟨rfl, hb2⟩
  have k0 := hb2.cellv g0
  have k1 := hb2.cellv g1
  have k2 := hb2.cellv g2
  have g3 := hb2.cellv g3
  have k4 := hb2.cellv g4
  have k5 := hb2.cellv g5
  have k6 := hb2.cellv g6
  clear hc2 g0 g1 g2 g4 g5 g6
  go_wp2_with fail
  refine (HP.out _ ((((Grown.refl _).alloc _).trans hb1).trans hb2)).mono ?_
  rintro e w3 ⟨rfl, hb3⟩
  have l0 := hb3.cellv k0
  have l1 := hb3.cellv k1
  have l2 := hb3.cellv k2
  have l3 := hb3.cellv g3
  have l4 := hb3.cellv k4
  have l5 := hb3.cellv k5
  have l6 := hb3.cellv k6
  have hm := mixed
  have hG3 := ((((Grown.refl w).alloc (rcells bg (.slice aa an ac) (.slice ka kn kc) (.slice pa pn pc) en (.slice ra rn rc) cu)).trans hb1).trans hb2).trans hb3
  clear k0 k1 k2 k4 k5 k6 g3 hb1 hb2 hb3 HA HK HP
  go_wp2
  go_loopw [3] (fun vi wr => ∃ k : Nat, vi = .int .i64 k ∧ k ≤ rn ∧ Hid (fstE key (res.drop k) = fstE key res) ∧ Grown w3 wr) (fun vi _ => rn - (intOf vi).toNat)
  case atStart => exact ⟨0, rfl, by omega, rfl, Grown.refl _⟩
  case round =>
    obtain ⟨k, rfl, hk, hF, hB⟩ := hrel
    have c5 := hB.cellv l5
    have c6 := hB.cellv l6
    have hkI : (0 : Int) ≤ (k : Int) := by omega
    by_cases hlt : k < rn
    · have hlt' : (k : Int) < (rn : Int) := by omega
      have hm16 := HM.out
      have hkI2 : (k : Int) ≤ 16 := by omega
      have hkl : k < res.length := by have := HR.out.1; omega
      obtain ⟨g, o, hra, hP⟩ := HR.out.2.resolve_left (fun e => by rw [e] at hkl; simp at hkl)
      subst hra
      obtain ⟨tv, p0, p1, p2, p3, hRs⟩ := (hP k hkl).below (hG3.trans hB).below (Nat.le_refl _)
      have HC : Hid (∀ W, Grown wr W → Calls Tryd.prog 67 #[.agg #[.bool bg, .slice aa an ac, .slice ka kn kc, .slice pa pn pc, .bool en, .slice (some ⟨g, o, none⟩) rn rc, .int .i64 cu], .agg #[.int .i64 res[k].k, .int .i64 res[k].u, .int .i64 res[k].y, tv]] W fun e w' => e = .returned (.int .i64 (pcE key res[k])) ∧ Grown W w') := fun W hW => HQ.out W ((hG3.trans hB).trans hW) res[k] tv (hRs.grown hW)
      have HS : Hid (fstE key (res.drop k) = if pcE key res[k] = 0 then fstE key (res.drop (k + 1)) else pcE key res[k]) := by show _ = _; rw [drop_pc hkl]; rfl
      obtain ⟨ta, tn, tc, rfl⟩ := hRs.sl
      generalize pcE key res[k] = q at HC HS
      generalize res[k].k = xk at HC p0
      generalize res[k].u = xu at HC p1
      generalize res[k].y = xy at HC p2
      have n0 : ∀ m os, (Go.Sort.grow (wr.drewN m) os).cell? ⟨w.heap.size, 0, none⟩ = some (.bool bg) := fun m os => (hB.quiet m os).cellv l0
      have n1 : ∀ m os, (Go.Sort.grow (wr.drewN m) os).cell? ⟨w.heap.size, 1, none⟩ = some (.slice aa an ac) := fun m os => (hB.quiet m os).cellv l1
      have n2 : ∀ m os, (Go.Sort.grow (wr.drewN m) os).cell? ⟨w.heap.size, 2, none⟩ = some (.slice ka kn kc) := fun m os => (hB.quiet m os).cellv l2
      have n3 : ∀ m os, (Go.Sort.grow (wr.drewN m) os).cell? ⟨w.heap.size, 3, none⟩ = some (.slice pa pn pc) := fun m os => (hB.quiet m os).cellv l3
      have n4 : ∀ m os, (Go.Sort.grow (wr.drewN m) os).cell? ⟨w.heap.size, 4, none⟩ = some (.bool en) := fun m os => (hB.quiet m os).cellv l4
      have n5 : ∀ m os, (Go.Sort.grow (wr.drewN m) os).cell? ⟨w.heap.size, 5, none⟩ = some (.slice (some ⟨g, o, none⟩) rn rc) := fun m os => (hB.quiet m os).cellv l5
      have n6 : ∀ m os, (Go.Sort.grow (wr.drewN m) os).cell? ⟨w.heap.size, 6, none⟩ = some (.int .i64 cu) := fun m os => (hB.quiet m os).cellv l6
      have m0 : ∀ m os, (Go.Sort.grow (wr.drewN m) os).cell? ⟨g, o + k * 4, none⟩ = some (.int .i64 xk) := fun m os => ((Grown.refl _).quiet m os).cellv p0
      have m1 : ∀ m os, (Go.Sort.grow (wr.drewN m) os).cell? ⟨g, o + k * 4 + 1, none⟩ = some (.int .i64 xu) := fun m os => ((Grown.refl _).quiet m os).cellv p1
      have m2 : ∀ m os, (Go.Sort.grow (wr.drewN m) os).cell? ⟨g, o + k * 4 + 2, none⟩ = some (.int .i64 xy) := fun m os => ((Grown.refl _).quiet m os).cellv p2
      have m3 : ∀ m os, (Go.Sort.grow (wr.drewN m) os).cell? ⟨g, o + k * 4 + 3, none⟩ = some (.slice ta tn tc) := fun m os => ((Grown.refl _).quiet m os).cellv p3
      clear p0 p1 p2 p3 c6
      by_cases hq : q = 0
      · subst hq
        have HF2 : Hid (fstE key (res.drop (k + 1)) = fstE key res) := by
          have h := HS.out
          rw [if_pos rfl, hF.out] at h
          exact h.symm
        clear hRs HS hF hP
        go_wp2
        refine wp_region_quiet_grown hm (by kernel_rfl) ?_
        repeat (go_big_quiet_step ((go_at_call 67; exact grown_of (HC.out _ ((Grown.refl _).quiet _ _)))))
        refine wpQuiet_nil ?_
        intro _ hw'
        obtain ⟨⟨nq, osq⟩, hw''⟩ := hw'
        subst hw''
        go_wp2
        exact ⟨⟨k + 1, by go_num, by omega, HF2, hB.quiet _ _⟩, by simp [intOf]; omega⟩
      · have hq' : (q != 0) = true := by simpa using hq
        have HF2 : Hid (E = q) := by
          have h := HS.out
          rw [if_neg hq, hF.out] at h
          have h2 := HE.out
          rw [if_pos (by rw [h]; exact hq), h] at h2
          exact h2
        clear hRs HS hF hP
        go_wp2
        refine wp_region_quiet_grown hm (by kernel_rfl) ?_
        repeat (go_big_quiet_step ((go_at_call 67; exact grown_of (HC.out _ ((Grown.refl _).quiet _ _)))))
        refine wpQuiet_nil ?_
        intro _ hw'
        obtain ⟨⟨nq, osq⟩, hw''⟩ := hw'
        subst hw''
        go_wp2
        go_ret
        exact ⟨by rw [HF2.out]; rfl, hG3.trans (hB.quiet _ _)⟩
    · have hge : ¬ (k : Int) < (rn : Int) := by omega
      have HE2 : Hid (E = if cu < 0 ∨ (rn : Int) < cu then 76 else 0) := by
        have h := hF.out
        rw [List.drop_eq_nil_of_le (by have := HR.out.1; omega)] at h
        have h2 := HE.out
        rw [if_neg (by rw [← h]; simp [fstE])] at h2
        exact h2
      clear hF
      by_cases u1 : cu < 0
      · have HE3 : Hid (E = 76) := by have := HE2.out; rwa [if_pos (.inl u1)] at this
        go_wp2
        go_ret
        exact ⟨by rw [HE3.out]; rfl, hG3.trans hB⟩
      · have d6 : decide (cu < 0) = false := by simpa using u1
        by_cases u2 : (rn : Int) < cu
        · have HE3 : Hid (E = 76) := by have := HE2.out; rwa [if_pos (.inr u2)] at this
          go_wp2
          go_ret
          exact ⟨by rw [HE3.out]; rfl, hG3.trans hB⟩
        · have d7 : decide ((rn : Int) < cu) = false := by simpa using u2
          have HE3 : Hid (E = 0) := by have := HE2.out; rwa [if_neg (by omega)] at this
          go_wp2
          go_ret
          exact ⟨by rw [HE3.out]; rfl, hG3.trans hB⟩
theorem rcheck_any (r : Rl) (av kv pv rv : Value) (w : World) (h : RR w av kv pv rv r) : Calls Tryd.prog 43 #[.agg #[.bool r.bg, av, kv, pv, .bool r.en, rv, .int .i64 r.cu]] w fun e w' => e = .returned (.int .i64 (chk r)) ∧ Grown w w' := by
  have hh := h
  obtain ⟨⟨aa, ac, rfl, _⟩, ⟨ka, kc, rfl, _⟩, ⟨pa, pc, rfl, _⟩, ⟨ra, rc, rfl, _⟩⟩ := h
  by_cases h1 : r.key.length = 0 ∨ 8 < r.key.length ∨ 8 < r.ante.length ∨ 8 < r.post.length ∨ 16 < r.res.length
  · have := rcheck_early r.bg r.en r.cu aa ka pa ra r.ante.length ac r.key.length kc r.post.length pc r.res.length rc w h1
    have e : chk r = if r.key.length = 0 ∨ 8 < r.key.length then 70 else 72 := by
      unfold chk
      by_cases h2 : r.key.length = 0 ∨ 8 < r.key.length
      · rw [if_pos h2, if_pos h2]
      · rw [if_neg h2, if_neg h2, if_pos (by omega)]
    rw [e]; exact this
  · by_cases hb : (r.ante.all okS && r.key.all okS && r.post.all okS) = false
    · have e : chk r = 71 := by unfold chk; rw [if_neg (by omega), if_neg (by omega), if_pos hb]
      rw [e]
      exact rcheck_sets r aa ka pa ra _ ac _ kc _ pc _ rc w hh (by omega) (by omega) (by omega) (by omega) (by omega) hb rfl rfl rfl
    · have e : chk r = tailE r := by unfold chk; rw [if_neg (by omega), if_neg (by omega), if_neg hb]; rfl
      rw [e]
      simp only [Bool.not_eq_false, Bool.and_eq_true] at hb
      exact rcheck_tail r aa ka pa ra _ ac _ kc _ pc _ rc w hh (by omega) (by omega) (by omega) (by omega) (by omega) hb.1.1 hb.1.2 hb.2 rfl rfl rfl rfl
end Go.Proofs
