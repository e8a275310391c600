/-
  The document's answer: rows of sets, and what is wrong with a piece.
-/
import Derived.RangeFuncNested
import Derived.RangeFuncBound
import Derived.RangeFuncCalls
import Derived.RangeFuncLeaves
import Derived.Shelf.Abstract
import Derived.Shelf.RegionOpen
import Derived.WalkKit
import Derived.WalkSpells
import Derived.WalkLawsBesides
import Derived.OwnWalkIn
import Derived.TacticsInMore
import Derived.LoopNIn
import Derived.LoopIn
import Derived.BigQuiet
import Derived.RegionIn
import Derived.Deep.QuietTactic
import Derived.Deep.RegionWith
import Derived.Lib.OthersKept
import Derived.Maps.AppendAt
import Derived.Lib.SmallJoins
import Derived.Shelf.SlSortCmp.QuietGrown
import Derived.Test.YtkijbaofhodplaaDoorWc
import Derived.Test.YtkijbaofhodplaaDoorRb
namespace Go.Proofs
open Go.RowKit Go.Shelf

set_option maxRecDepth 100000
attribute [local go_sem] Oper.semAt_some
attribute [local go_sem ↓] Go.wp_at_zero Go.wp_at_succ
theorem okS_split {l : List (Int × Int)} : okS l = (validB l && decide (l.length ≠ 0)) := by
  unfold okS
  cases l <;> simp
set_option maxHeartbeats 1000000 in
theorem rsets_nil (a : Option Addr) (c : Nat) (w : World) : Calls Tryd.prog 66 #[.slice a 0 c] w fun e w' => e = .returned (.bool true) ∧ Grown w w' := by
  go_enter Tryd.func66, Tryd.ntmps66
  go_wp2
  go_loopw [3] (fun vi wr => vi = .int .i64 0 ∧ wr = w) (fun _ _ => 0)
  case atStart => exact ⟨rfl, rfl⟩
  case round =>
    obtain ⟨rfl, rfl⟩ := hrel
    go_wp2
    go_ret
    exact ⟨rfl, Grown.refl _⟩
set_option maxHeartbeats 2000000 in
theorem rsets_walk (g o c : Nat) (ls : List (List (Int × Int))) (w : World) (h : SRd w g o ls) (hn1 : ls.length ≤ 1000000) :
    Calls Tryd.prog 66 #[.slice (some ⟨g, o, none⟩) ls.length c] w fun e w' => e = .returned (.bool (ls.all okS)) ∧ Grown w w' := by
  obtain ⟨n, hnn⟩ : ∃ n, ls.length = n := ⟨_, rfl⟩
  have HN : Hid (ls.length = n) := hnn
  rw [hnn] at hn1 ⊢
  obtain ⟨r, hr⟩ : ∃ r : Bool, ls.all okS = r := ⟨_, rfl⟩
  have HR : Hid (ls.all okS = r) := hr
  rw [hr]
  clear hr hnn
  have HH : Hid (SRd w g o ls) := h
  clear h
  go_enter Tryd.func66, Tryd.ntmps66
  go_wp2
  go_loopw [3] (fun vi wr => ∃ k : Nat, vi = .int .i64 k ∧ k ≤ n ∧ Hid ((ls.take k).all okS = true) ∧ Grown w wr) (fun vi _ => n - (intOf vi).toNat)
  case atStart => exact ⟨0, rfl, by omega, by simp [Hid], Grown.refl _⟩
  case round =>
    obtain ⟨k, rfl, hk, hG, hB⟩ := hrel
    have hpos : (0 : Int) ≤ (k : Int) := by omega
    by_cases hlt : k < n
    · have hlt' : (k : Int) < (n : Int) := by omega
      have hkl : k < ls.length := by rw [HN.out]; exact hlt
      obtain ⟨sv, hc, hs⟩ := HH.out k hkl
      have hc := hB.cellv hc
      have HC : Hid (∀ W, Grown wr W → Calls Tryd.prog 45 #[sv] W fun e w' => e = .returned (.bool (validB ls[k])) ∧ Grown W w') := fun W hW => rvalid_any sv _ W ((hs.grown hB).grown hW)
      obtain ⟨sa, sc, rfl, _, _⟩ := hs
      have hO : okS ls[k] = (validB ls[k] && decide (ls[k].length ≠ 0)) := okS_split
      have HS : Hid (okS ls[k] = true → (ls.take (k + 1)).all okS = true) := fun hv => by rw [all_succ okS hkl, hG.out, hv]; rfl
      have HF0 : Hid (okS ls[k] = false → r = false) := fun hv => by rw [← HR.out]; exact all_stop okS hkl hv
      clear hG
      generalize validB ls[k] = vb at *
      generalize ls[k].length = sn at *
      generalize okS ls[k] = ob at *
      cases vb with
      | false =>
        have HF : Hid (r = false) := HF0.out (by rw [hO]; rfl)
        clear hO HS HF0
        go_wp2_with (go_at_call 45; refine (HC.out _ (Grown.refl _)).mono ?_; rintro e w' ⟨rfl, hb⟩)
        go_ret
        have hrf := HF.out
        exact ⟨by first | rfl | (rw [hrf]; rfl), hB.trans hb⟩
      | true =>
        by_cases h0 : sn = 0
        · have HF : Hid (r = false) := HF0.out (by rw [hO]; simp [h0])
          clear hO HS HF0
          subst h0
          go_wp2_with fail
          refine (HC.out _ (Grown.refl _)).mono ?_
          rintro e w1 ⟨rfl, hb⟩
          have hc := hb.cellv hc
          go_wp2
          go_ret
          have hrf := HF.out
          exact ⟨by first | rfl | (rw [hrf]; rfl), hB.trans hb⟩
        · have HS2 : Hid ((ls.take (k + 1)).all okS = true) := HS.out (by rw [hO]; simp [h0])
          have h1 : ((sn : Int) == 0) = false := by simpa using h0
          clear hO HS HF0
          go_wp2_with fail
          refine (HC.out _ (Grown.refl _)).mono ?_
          rintro e w1 ⟨rfl, hb⟩
          have hc := hb.cellv hc
          go_wp2
          exact ⟨⟨k + 1, by go_num, by omega, HS2, hB.trans hb⟩, by simp [intOf]; omega⟩
    · have hrt : r = true := by
        rw [← HR.out]
        have := hG.out
        rwa [List.take_of_length_le (by rw [HN.out]; omega)] at this
      have HF : Hid (r = true) := hrt
      clear hG hrt
      go_wp2
      go_ret
      have hrf := HF.out
      exact ⟨by first | rfl | (rw [hrf]; rfl), hB⟩
theorem rsets_any (v : Value) (ls : List (List (Int × Int))) (w : World) (h : SR w v ls) (hn : ls.length ≤ 1000000) : Calls Tryd.prog 66 #[v] w fun e w' => e = .returned (.bool (ls.all okS)) ∧ Grown w w' := by
  obtain ⟨a, cap, rfl, _, h⟩ := h
  rcases h with rfl | ⟨g, o, rfl, h⟩
  · exact rsets_nil a cap w
  · exact rsets_walk g o cap ls w h hn
set_option maxHeartbeats 4000000 in
theorem rp_unit (bg en : Bool) (cu : Int) (aa ka pa ra : Option Addr) (an ac kn kc pn pc rn rc : Nat) (u y : Int) (ta : Option Addr) (tn tc : Nat) (w : World) : Calls Tryd.prog 67 #[.agg #[.bool bg, .slice aa an ac, .slice ka kn kc, .slice pa pn pc, .bool en, .slice ra rn rc, .int .i64 cu], .agg #[.int .i64 1, .int .i64 u, .int .i64 y, .slice ta tn tc]] w fun e w' => e = .returned (.int .i64 (if wd u = 0 ∨ y ≠ 0 ∨ tn ≠ 0 then 73 else 0)) ∧ Grown w w' := by
  have HC := runit_any u
  by_cases h1 : wd u = 0
  · rw [if_pos (.inl h1)]
    have hb : isUn u = false := by simp [isUn, h1]
    rw [hb] at HC
    clear h1 hb
    go_enter Tryd.func67, Tryd.ntmps67
    go_wp2_with (go_at_call 84; refine (HC _).mono ?_; rintro e w' ⟨rfl, rfl⟩)
    go_ret
    exact ⟨rfl, ((Grown.refl _).alloc _).alloc _⟩
  · have hb : isUn u = true := by simp [isUn, h1]
    rw [hb] at HC
    by_cases h2 : y = 0
    · by_cases h3 : tn = 0
      · rw [if_neg (by simp [h1, h2, h3])]
        subst h2 h3
        clear h1 hb
        go_enter Tryd.func67, Tryd.ntmps67
        go_wp2_with (go_at_call 84; refine (HC _).mono ?_; rintro e w' ⟨rfl, rfl⟩)
        go_ret
        exact ⟨rfl, ((Grown.refl _).alloc _).alloc _⟩
      · rw [if_pos (.inr (.inr h3))]
        subst h2
        have h4 : ((tn : Int) == 0) = false := by simpa using h3
        clear h1 hb
        go_enter Tryd.func67, Tryd.ntmps67
        go_wp2_with (go_at_call 84; refine (HC _).mono ?_; rintro e w' ⟨rfl, rfl⟩)
        go_ret
        exact ⟨rfl, ((Grown.refl _).alloc _).alloc _⟩
    · rw [if_pos (.inr (.inl h2))]
      have h4 : (y == 0) = false := by simpa using h2
      clear h1 hb
      go_enter Tryd.func67, Tryd.ntmps67
      go_wp2_with (go_at_call 84; refine (HC _).mono ?_; rintro e w' ⟨rfl, rfl⟩)
      go_ret
      exact ⟨rfl, ((Grown.refl _).alloc _).alloc _⟩
set_option maxHeartbeats 4000000 in
theorem rp_other (bg en : Bool) (cu : Int) (aa ka pa ra : Option Addr) (an ac kn kc pn pc rn rc : Nat) (k u y : Int) (ta : Option Addr) (tn tc : Nat) (w : World) (h1 : k ≠ 1) (h2 : k ≠ 2) (h3 : k ≠ 3) : Calls Tryd.prog 67 #[.agg #[.bool bg, .slice aa an ac, .slice ka kn kc, .slice pa pn pc, .bool en, .slice ra rn rc, .int .i64 cu], .agg #[.int .i64 k, .int .i64 u, .int .i64 y, .slice ta tn tc]] w fun e w' => e = .returned (.int .i64 73) ∧ Grown w w' := by
  have e1 : (k == 1) = false := by simpa using h1
  have e2 : (k == 2) = false := by simpa using h2
  have e3 : (k == 3) = false := by simpa using h3
  go_enter Tryd.func67, Tryd.ntmps67
  go_wp2
  go_ret
  exact ⟨rfl, ((Grown.refl _).alloc _).alloc _⟩
set_option maxHeartbeats 4000000 in
theorem rp_copy (bg en : Bool) (cu : Int) (aa ka pa ra : Option Addr) (an ac kn kc pn pc rn rc : Nat) (u y : Int) (ta : Option Addr) (tn tc : Nat) (w : World) : Calls Tryd.prog 67 #[.agg #[.bool bg, .slice aa an ac, .slice ka kn kc, .slice pa pn pc, .bool en, .slice ra rn rc, .int .i64 cu], .agg #[.int .i64 2, .int .i64 u, .int .i64 y, .slice ta tn tc]] w fun e w' => e = .returned (.int .i64 (if u ≠ 0 ∨ tn ≠ 0 then 73 else if y < 0 ∨ (kn : Int) ≤ y then 74 else 0)) ∧ Grown w w' := by
  have hm := mixed
  by_cases h1 : u = 0
  · subst h1
    by_cases h2 : tn = 0
    · subst h2
      rw [if_neg (by simp)]
      by_cases h3 : y < 0
      · rw [if_pos (.inl h3)]
        go_enter Tryd.func67, Tryd.ntmps67
        go_wp2
        go_ret
        exact ⟨rfl, ((Grown.refl _).alloc _).alloc _⟩
      · have d3 : decide (y < 0) = false := by simpa using h3
        by_cases h4 : (kn : Int) ≤ y
        · rw [if_pos (.inr h4)]
          go_enter Tryd.func67, Tryd.ntmps67
          go_wp2
          go_ret
          exact ⟨rfl, ((Grown.refl _).alloc _).alloc _⟩
        · rw [if_neg (by omega)]
          have d4 : decide ((kn : Int) ≤ y) = false := by simpa using h4
          have e0 : ∀ m os, (Go.Sort.grow (((w.alloc (.cells #[.bool bg, .slice aa an ac, .slice ka kn kc, .slice pa pn pc, .bool en, .slice ra rn rc, .int .i64 cu] 54)).alloc (.cells #[.int .i64 2, .int .i64 0, .int .i64 y, .slice ta 0 tc] 66)).drewN m) os).cell? ⟨w.heap.size + 1, 0, none⟩ = some (.int .i64 2) := fun m os => cell_grown (by simp) (by simp) m os
          go_enter Tryd.func67, Tryd.ntmps67
          go_wp2
          refine wp_region_quiet_grown hm (by kernel_rfl) ?_
          repeat (go_big_quiet_step (fail))
          refine wpQuiet_nil ?_
          intro _ hw'
          obtain ⟨⟨nq, osq⟩, hw''⟩ := hw'
          subst hw''
          go_wp2
          go_ret
          exact ⟨rfl, (((Grown.refl _).alloc _).alloc _).quiet _ _⟩
    · rw [if_pos (.inr h2)]
      have h4 : ((tn : Int) == 0) = false := by simpa using h2
      go_enter Tryd.func67, Tryd.ntmps67
      go_wp2
      go_ret
      exact ⟨rfl, ((Grown.refl _).alloc _).alloc _⟩
  · rw [if_pos (.inl h1)]
    have hq2 : (u == 0) = false := by simpa using h1
    go_enter Tryd.func67, Tryd.ntmps67
    go_wp2
    go_ret
    exact ⟨rfl, ((Grown.refl _).alloc _).alloc _⟩
set_option maxHeartbeats 8000000 in
theorem rp_pair_in (bg en : Bool) (cu : Int) (aa pa ra : Option Addr) (an ac kn kc pn pc rn rc : Nat) (g o j : Nat) (sv : Value) (f tl : List (Int × Int)) (ta : Option Addr) (tn tc : Nat) (w : World) (hj : j < kn) (hc : w.cell? ⟨g, o + j, none⟩ = some sv) (hf : Rs w sv f) (ht : Rs w (.slice ta tn tc) tl) :
    Calls Tryd.prog 67 #[.agg #[.bool bg, .slice aa an ac, .slice (some ⟨g, o, none⟩) kn kc, .slice pa pn pc, .bool en, .slice ra rn rc, .int .i64 cu], .agg #[.int .i64 3, .int .i64 0, .int .i64 j, .slice ta tn tc]] w fun e w' => e = .returned (.int .i64 (if matB f tl = false then 75 else 0)) ∧ Grown w w' := by
  have hm := mixed
  have HV : Hid (∀ m os, Calls Tryd.prog 45 #[.slice ta tn tc] (Go.Sort.grow (((w.alloc (.cells #[.bool bg, .slice aa an ac, .slice (some ⟨g, o, none⟩) kn kc, .slice pa pn pc, .bool en, .slice ra rn rc, .int .i64 cu] 54)).alloc (.cells #[.int .i64 3, .int .i64 0, .int .i64 (j : Int), .slice ta tn tc] 66)).drewN m) os) fun e w' => e = .returned (.bool (validB tl)) ∧ Grown (Go.Sort.grow (((w.alloc (.cells #[.bool bg, .slice aa an ac, .slice (some ⟨g, o, none⟩) kn kc, .slice pa pn pc, .bool en, .slice ra rn rc, .int .i64 cu] 54)).alloc (.cells #[.int .i64 3, .int .i64 0, .int .i64 (j : Int), .slice ta tn tc] 66)).drewN m) os) w') := fun m os => rvalid_any _ tl _ (ht.grown ((((Grown.refl _).alloc _).alloc _).quiet m os))
  have HL : Hid (∀ m os, Calls Tryd.prog 83 #[.slice ta tn tc] (Go.Sort.grow (((w.alloc (.cells #[.bool bg, .slice aa an ac, .slice (some ⟨g, o, none⟩) kn kc, .slice pa pn pc, .bool en, .slice ra rn rc, .int .i64 cu] 54)).alloc (.cells #[.int .i64 3, .int .i64 0, .int .i64 (j : Int), .slice ta tn tc] 66)).drewN m) os) fun e w' => e = .returned (.int .i64 (lenU tl)) ∧ Grown (Go.Sort.grow (((w.alloc (.cells #[.bool bg, .slice aa an ac, .slice (some ⟨g, o, none⟩) kn kc, .slice pa pn pc, .bool en, .slice ra rn rc, .int .i64 cu] 54)).alloc (.cells #[.int .i64 3, .int .i64 0, .int .i64 (j : Int), .slice ta tn tc] 66)).drewN m) os) w') := fun m os => rlen_any _ tl _ (ht.grown ((((Grown.refl _).alloc _).alloc _).quiet m os))
  have HF : Hid (∀ m os, Calls Tryd.prog 83 #[sv] (Go.Sort.grow (((w.alloc (.cells #[.bool bg, .slice aa an ac, .slice (some ⟨g, o, none⟩) kn kc, .slice pa pn pc, .bool en, .slice ra rn rc, .int .i64 cu] 54)).alloc (.cells #[.int .i64 3, .int .i64 0, .int .i64 (j : Int), .slice ta tn tc] 66)).drewN m) os) fun e w' => e = .returned (.int .i64 (lenU f)) ∧ Grown (Go.Sort.grow (((w.alloc (.cells #[.bool bg, .slice aa an ac, .slice (some ⟨g, o, none⟩) kn kc, .slice pa pn pc, .bool en, .slice ra rn rc, .int .i64 cu] 54)).alloc (.cells #[.int .i64 3, .int .i64 0, .int .i64 (j : Int), .slice ta tn tc] 66)).drewN m) os) w') := fun m os => rlen_any _ f _ (hf.grown ((((Grown.refl _).alloc _).alloc _).quiet m os))
  have e0 : ∀ m os, (Go.Sort.grow (((w.alloc (.cells #[.bool bg, .slice aa an ac, .slice (some ⟨g, o, none⟩) kn kc, .slice pa pn pc, .bool en, .slice ra rn rc, .int .i64 cu] 54)).alloc (.cells #[.int .i64 3, .int .i64 0, .int .i64 (j : Int), .slice ta tn tc] 66)).drewN m) os).cell? ⟨w.heap.size + 1, 0, none⟩ = some (.int .i64 3) := fun m os => cell_grown (by simp) (by simp) m os
  have e2 : ∀ m os, (Go.Sort.grow (((w.alloc (.cells #[.bool bg, .slice aa an ac, .slice (some ⟨g, o, none⟩) kn kc, .slice pa pn pc, .bool en, .slice ra rn rc, .int .i64 cu] 54)).alloc (.cells #[.int .i64 3, .int .i64 0, .int .i64 (j : Int), .slice ta tn tc] 66)).drewN m) os).cell? ⟨w.heap.size + 1, 2, none⟩ = some (.int .i64 (j : Int)) := fun m os => cell_grown (by simp) (by simp) m os
  have e3 : ∀ m os, (Go.Sort.grow (((w.alloc (.cells #[.bool bg, .slice aa an ac, .slice (some ⟨g, o, none⟩) kn kc, .slice pa pn pc, .bool en, .slice ra rn rc, .int .i64 cu] 54)).alloc (.cells #[.int .i64 3, .int .i64 0, .int .i64 (j : Int), .slice ta tn tc] 66)).drewN m) os).cell? ⟨w.heap.size + 1, 3, none⟩ = some (.slice ta tn tc) := fun m os => cell_grown (by simp) (by simp) m os
  have e5 : ∀ m os, (Go.Sort.grow (((w.alloc (.cells #[.bool bg, .slice aa an ac, .slice (some ⟨g, o, none⟩) kn kc, .slice pa pn pc, .bool en, .slice ra rn rc, .int .i64 cu] 54)).alloc (.cells #[.int .i64 3, .int .i64 0, .int .i64 (j : Int), .slice ta tn tc] 66)).drewN m) os).cell? ⟨w.heap.size, 2, none⟩ = some (.slice (some ⟨g, o, none⟩) kn kc) := fun m os => cell_grown (by simp; omega) (cell_up (by simp) _) m os
  have e4 : ∀ m os, (Go.Sort.grow (((w.alloc (.cells #[.bool bg, .slice aa an ac, .slice (some ⟨g, o, none⟩) kn kc, .slice pa pn pc, .bool en, .slice ra rn rc, .int .i64 cu] 54)).alloc (.cells #[.int .i64 3, .int .i64 0, .int .i64 (j : Int), .slice ta tn tc] 66)).drewN m) os).cell? ⟨g, o + j, none⟩ = some sv := fun m os => ((((Grown.refl _).alloc _).alloc _).quiet m os).cellv hc
  have hj0 : (0 : Int) ≤ (j : Int) := by omega
  have hj1 : (j : Int) < (kn : Int) := by omega
  have d3 : decide ((j : Int) < 0) = false := by simp
  have d4 : decide ((kn : Int) ≤ (j : Int)) = false := by simp; omega
  unfold matB
  generalize validB tl = vb at HV
  generalize lenU tl = lt at HL
  generalize lenU f = lf at HF
  obtain ⟨sa, sn, sc, rfl⟩ := hf.sl
  clear hf ht hc
  cases vb with
  | false =>
    rw [if_pos (by simp)]
    go_enter Tryd.func67, Tryd.ntmps67
    go_wp2
    refine wp_region_quiet_grown hm (by kernel_rfl) ?_
    repeat (go_big_quiet_step ((go_at_call 45; exact grown_of (HV.out _ _))))
    refine wpQuiet_nil ?_
    intro _ hw'
    obtain ⟨⟨nq, osq⟩, hw''⟩ := hw'
    subst hw''
    go_wp2
    go_ret
    exact ⟨rfl, (((Grown.refl _).alloc _).alloc _).quiet _ _⟩
  | true =>
    by_cases he : lf = lt
    · rw [if_neg (by simp [he])]
      subst he
      go_enter Tryd.func67, Tryd.ntmps67
      go_wp2
      refine wp_region_quiet_grown hm (by kernel_rfl) ?_
      repeat (go_big_quiet_step ((go_at_call 45; exact grown_of (HV.out _ _))))
      go_big_quiet_step ((go_at_call 83; exact grown_of (HL.out _ _)))
      repeat (go_big_quiet_step ((go_at_call 83; exact grown_of (HF.out _ _))))
      refine wpQuiet_nil ?_
      intro _ hw'
      obtain ⟨⟨nq, osq⟩, hw''⟩ := hw'
      subst hw''
      go_wp2
      go_ret
      exact ⟨rfl, (((Grown.refl _).alloc _).alloc _).quiet _ _⟩
    · rw [if_pos (by simp [he])]
      have hne : (lt != lf) = true := by simpa using fun e => he e.symm
      go_enter Tryd.func67, Tryd.ntmps67
      go_wp2
      refine wp_region_quiet_grown hm (by kernel_rfl) ?_
      repeat (go_big_quiet_step ((go_at_call 45; exact grown_of (HV.out _ _))))
      go_big_quiet_step ((go_at_call 83; exact grown_of (HL.out _ _)))
      repeat (go_big_quiet_step ((go_at_call 83; exact grown_of (HF.out _ _))))
      refine wpQuiet_nil ?_
      intro _ hw'
      obtain ⟨⟨nq, osq⟩, hw''⟩ := hw'
      subst hw''
      go_wp2
      go_ret
      exact ⟨rfl, (((Grown.refl _).alloc _).alloc _).quiet _ _⟩
set_option maxHeartbeats 4000000 in
theorem rp_pair_no (bg en : Bool) (cu : Int) (aa ka pa ra : Option Addr) (an ac kn kc pn pc rn rc : Nat) (u y : Int) (ta : Option Addr) (tn tc : Nat) (w : World) (h : u ≠ 0 ∨ y < 0 ∨ (kn : Int) ≤ y) : Calls Tryd.prog 67 #[.agg #[.bool bg, .slice aa an ac, .slice ka kn kc, .slice pa pn pc, .bool en, .slice ra rn rc, .int .i64 cu], .agg #[.int .i64 3, .int .i64 u, .int .i64 y, .slice ta tn tc]] w fun e w' => e = .returned (.int .i64 (if u ≠ 0 then 73 else 74)) ∧ Grown w w' := by
  by_cases h1 : u = 0
  · subst h1
    rw [if_neg (by simp)]
    by_cases h3 : y < 0
    · clear h
      go_enter Tryd.func67, Tryd.ntmps67
      go_wp2
      go_ret
      exact ⟨rfl, ((Grown.refl _).alloc _).alloc _⟩
    · have d3 : decide (y < 0) = false := by simpa using h3
      have h4 : (kn : Int) ≤ y := by omega
      clear h
      go_enter Tryd.func67, Tryd.ntmps67
      go_wp2
      go_ret
      exact ⟨rfl, ((Grown.refl _).alloc _).alloc _⟩
  · rw [if_pos h1]
    have hq2 : (u == 0) = false := by simpa using h1
    clear h
    go_enter Tryd.func67, Tryd.ntmps67
    go_wp2
    go_ret
    exact ⟨rfl, ((Grown.refl _).alloc _).alloc _⟩
theorem rpiece_any (r : Rl) (av kv pv rv : Value) (p : Pc) (tv : Value) (w : World) (h : RR w av kv pv rv r) (ht : Rs w tv p.tl) : Calls Tryd.prog 67 #[.agg #[.bool r.bg, av, kv, pv, .bool r.en, rv, .int .i64 r.cu], .agg #[.int .i64 p.k, .int .i64 p.u, .int .i64 p.y, tv]] w fun e w' => e = .returned (.int .i64 (pcE r.key p)) ∧ Grown w w' := by
  obtain ⟨aa, an, ac, rfl⟩ := h.a.sl
  obtain ⟨ka, kc, rfl, _, hk⟩ := h.k
  obtain ⟨pa, pn, pc, rfl⟩ := h.p.sl
  obtain ⟨ra, rn, rc, rfl⟩ := h.r.sl
  obtain ⟨k, u, y, tl⟩ := p
  simp only at ht ⊢
  obtain ⟨ta, tn, tc, rfl⟩ := ht.sl
  have hl := len_zero_iff ht
  unfold pcE
  simp only
  by_cases h1 : k = 1
  · subst h1
    rw [if_pos rfl]
    have := rp_unit r.bg r.en r.cu aa ka pa ra an ac r.key.length kc pn pc rn rc u y ta tn tc w
    rw [hl] at this ⊢
    simpa using this
  · rw [if_neg h1]
    by_cases h2 : k = 2
    · subst h2
      rw [if_pos (.inl rfl)]
      have := rp_copy r.bg r.en r.cu aa ka pa ra an ac r.key.length kc pn pc rn rc u y ta tn tc w
      rw [hl] at this ⊢
      simpa using this
    · by_cases h3 : k = 3
      · subst h3
        rw [if_pos (.inr rfl)]
        by_cases h4 : u ≠ 0 ∨ y < 0 ∨ (r.key.length : Int) ≤ y
        · have := rp_pair_no r.bg r.en r.cu aa ka pa ra an ac r.key.length kc pn pc rn rc u y ta tn tc w h4
          by_cases h5 : u = 0
          · subst h5
            have h6 : y < 0 ∨ (r.key.length : Int) ≤ y := by simpa using h4
            simpa [h6] using this
          · simpa [h5] using this
        · simp only [not_or, Classical.not_not, ne_eq] at h4
          obtain ⟨rfl, h5, h6⟩ := h4
          obtain ⟨j, rfl⟩ : ∃ j : Nat, y = (j : Int) := ⟨y.toNat, by omega⟩
          have hjl : j < r.key.length := by omega
          obtain ⟨g, o, rfl, hk2⟩ := hk.resolve_left (fun e => by rw [e] at hjl; simp at hjl)
          obtain ⟨sv, hc, hs⟩ := hk2 j hjl
          have hka : keyAt r.key (j : Int) = r.key[j] := by simp [keyAt, hjl]
          have := rp_pair_in r.bg r.en r.cu aa pa ra an ac r.key.length kc pn pc rn rc g o j sv r.key[j] tl ta tn tc w hjl hc hs ht
          rw [hka]
          have h7 : ¬ ((j : Int) < 0 ∨ (r.key.length : Int) ≤ (j : Int)) := by omega
          rw [if_neg (by simp), if_neg h7]
          simpa using this
      · rw [if_neg (by omega)]
        exact rp_other r.bg r.en r.cu aa ka pa ra an ac r.key.length kc pn pc rn rc k u y ta tn tc w h1 h2 h3
end Go.Proofs
