/-
  Sets and rows of sets, compared: ours and the document's.
-/
import Derived.RangeFuncNested
import Derived.RangeFuncBound
import Derived.RangeFuncCalls
import Derived.RangeFuncLeaves
import Derived.Shelf.Abstract
import Derived.Shelf.RegionOpen
import Derived.WalkKit
import Derived.WalkSpells
import Derived.WalkLawsBesides
import Derived.OwnWalkIn
import Derived.TacticsInMore
import Derived.LoopNIn
import Derived.LoopIn
import Derived.BigQuiet
import Derived.RegionIn
import Derived.Deep.QuietTactic
import Derived.Deep.RegionWith
import Derived.Lib.OthersKept
import Derived.Maps.AppendAt
import Derived.Lib.SmallJoins
import Derived.Shelf.SlSortCmp.QuietGrown
import Derived.Test.YtcfjdijmobgbpaaDoorWd
namespace Go.Proofs
open Go.RowKit Go.Shelf

set_option maxRecDepth 100000
attribute [local go_sem] Oper.semAt_some
attribute [local go_sem ↓] Go.wp_at_zero Go.wp_at_succ
theorem neq_R (a b c d : Int) (W : World) : (binOp .neq 70 (.agg #[.int .i64 a, .int .i64 b]) (.agg #[.int .i64 c, .int .i64 d])).run Tryd.prog W = .ok (.bool (!decide ((a, b) = (c, d)))) W := by
  go_simp
  by_cases h1 : a = c
  · by_cases h2 : b = d <;> simp [h1, h2]
  · simp [h1]
set_option maxHeartbeats 1000000 in
theorem eq80_lens (A B : Option Addr) (n c m d : Nat) (w : World) (h : n ≠ m) : Calls Tryd.prog 80 #[.slice A n c, .slice B m d] w fun e w' => e = .returned (.bool false) ∧ Grown w w' := by
  have e1 : ((n : Int) != (m : Int)) = true := by rw [bne_iff_ne]; omega
  go_enter Tryd.func80, Tryd.ntmps80
  go_wp2
  go_ret
  exact ⟨rfl, Grown.refl _⟩
set_option maxHeartbeats 2000000 in
theorem eq80_walk (A B : Option Addr) (c d : Nat) (a b : List (Int × Int)) (w : World) (h1 : a = [] ∨ ∃ g o, A = some ⟨g, o, none⟩ ∧ Reads w g o a) (h2 : b = [] ∨ ∃ g o, B = some ⟨g, o, none⟩ ∧ Reads w g o b) (hl : b.length = a.length) (hn : a.length ≤ 1152921504606846976) :
    Calls Tryd.prog 80 #[.slice A a.length c, .slice B a.length d] w fun e w' => e = .returned (.bool (decide (a = b))) ∧ Grown w w' := by
  obtain ⟨n, hnn⟩ : ∃ n, a.length = n := ⟨_, rfl⟩
  have HA : Hid (a.length = n) := hnn
  have HB : Hid (b.length = n) := by rw [hnn] at hl; exact hl
  rw [hnn] at hn ⊢
  obtain ⟨r, hr⟩ : ∃ r : Bool, decide (a = b) = r := ⟨_, rfl⟩
  have HR : Hid (decide (a = b) = r) := hr
  have H1 : Hid (a = [] ∨ ∃ g o, A = some ⟨g, o, none⟩ ∧ Reads w g o a) := h1
  have H2 : Hid (b = [] ∨ ∃ g o, B = some ⟨g, o, none⟩ ∧ Reads w g o b) := h2
  rw [hr]
  clear hr hl h1 h2 hnn
  go_enter Tryd.func80, Tryd.ntmps80
  go_wp2
  go_loopw [13] (fun vi wr => ∃ k : Nat, vi = .int .i64 k ∧ k ≤ n ∧ Hid (∀ j, j < k → rg a j = rg b j) ∧ Grown w wr) (fun vi _ => n - (intOf vi).toNat)
  case atStart => exact ⟨0, rfl, by omega, fun j hj => by omega, Grown.refl _⟩
  case round =>
    obtain ⟨k, rfl, hk, hT, hG⟩ := hrel
    by_cases hlt : k < n
    · as_aux_lemma =>
        have hlt' : (k : Int) < (n : Int) := by omega
        have hpos : (0 : Int) ≤ (k : Int) := by omega
        have hka : k < a.length := by rw [HA.out]; exact hlt
        have hkb : k < b.length := by rw [HB.out]; exact hlt
        obtain ⟨g1, o1, hA1, hr1⟩ := H1.out.resolve_left (fun e => by rw [e] at hka; simp at hka)
        obtain ⟨g2, o2, hB1, hr2⟩ := H2.out.resolve_left (fun e => by rw [e] at hkb; simp at hkb)
        subst hA1
        subst hB1
        obtain ⟨p, q, hpq⟩ : ∃ p q : Int, rg a k = (p, q) := ⟨_, _, rfl⟩
        obtain ⟨s, t, hst⟩ : ∃ s t : Int, rg b k = (s, t) := ⟨_, _, rfl⟩
        have x1 := hr1 k hka
        have x2 := hr2 k hkb
        rw [hpq] at x1
        rw [hst] at x2
        have cp := hG.cellv x1.1
        have cq := hG.cellv x1.2
        have cs := hG.cellv x2.1
        have ct := hG.cellv x2.2
        simp only at cp cq cs ct
        have hne := neq_R p q s t
        clear x1 x2 hr1 hr2
        by_cases he : (p, q) = (s, t)
        · have hT' : Hid (∀ j, j < k + 1 → rg a j = rg b j) := fun j hj => by
            by_cases e : j = k
            · subst e; rw [hpq, hst]; exact he
            · exact hT.out j (by omega)
          simp only [he, decide_true, Bool.not_true] at hne
          clear hT hpq hst he
          go_wp2
          go_quiet (fail)
          go_wp2
          exact ⟨⟨k + 1, by go_num, by omega, hT', hG.drewN _⟩, by simp [intOf]; omega⟩
        · have hrf : r = false := by
            rw [← HR.out, decide_eq_false_iff_not]
            rintro rfl
            exact he (hpq.symm.trans hst)
          have HF : Hid (r = false) := hrf
          simp only [he, decide_false, Bool.not_false] at hne
          clear hT hpq hst he hrf
          go_wp2
          go_quiet (fail)
          go_wp2
          go_ret
          have hrf := HF.out
          exact ⟨by first | rfl | (rw [hrf]; rfl), hG.drewN _⟩
    · as_aux_lemma =>
        have hge : ¬ (k : Int) < (n : Int) := by omega
        have hrt : r = true := by
          rw [← HR.out, decide_eq_true_eq]
          refine List.ext_getElem (by rw [HA.out, HB.out]) fun j h1 h2 => ?_
          have := hT.out j (by rw [HA.out] at h1; omega)
          rwa [rg_lt h1, rg_lt h2] at this
        have HF : Hid (r = true) := hrt
        clear hT hrt
        go_wp2
        go_ret
        have hrf := HF.out
        exact ⟨by first | rfl | (rw [hrf]; rfl), hG⟩
theorem eq80_any (v1 v2 : Value) (a b : List (Int × Int)) (w : World) (h1 : Rs w v1 a) (h2 : Rs w v2 b) (hn : a.length ≤ 1152921504606846976) : Calls Tryd.prog 80 #[v1, v2] w fun e w' => e = .returned (.bool (decide (a = b))) ∧ Grown w w' := by
  obtain ⟨A, c, rfl, _, h1⟩ := h1
  obtain ⟨B, d, rfl, _, h2⟩ := h2
  by_cases hl : b.length = a.length
  · rw [hl]; exact eq80_walk A B c d a b w h1 h2 hl hn
  · rw [decide_eq_false (fun e => hl (by rw [e]))]
    exact eq80_lens A B a.length c b.length d w (fun e => hl e.symm)
set_option maxHeartbeats 1000000 in
theorem same72_any (v1 v2 : Value) (a b : List (Int × Int)) (w : World) (h1 : Rs w v1 a) (h2 : Rs w v2 b) (hn : a.length ≤ 1152921504606846976) : Calls Tryd.prog 72 #[v1, v2] w fun e w' => e = .returned (.bool (decide (a = b))) ∧ Grown w w' := by
  have HC : Hid (Calls Tryd.prog 80 #[v1, v2] w fun e w' => e = .returned (.bool (decide (a = b))) ∧ Grown w w') := eq80_any v1 v2 a b w h1 h2 hn
  generalize decide (a = b) = q at HC
  clear h1 h2
  go_enter Tryd.func72, Tryd.ntmps72
  go_wp2_with fail
  refine HC.out.mono ?_
  rintro e w1 ⟨rfl, hb1⟩
  go_wp2
  go_ret
  exact ⟨rfl, hb1⟩
set_option maxHeartbeats 1000000 in
theorem eq54_lens (A B : Option Addr) (n c m d : Nat) (w : World) (h : n ≠ m) : Calls Tryd.prog 54 #[.slice A n c, .slice B m d] w fun e w' => e = .returned (.bool false) ∧ Grown w w' := by
  have e1 : ((n : Int) != (m : Int)) = true := by rw [bne_iff_ne]; omega
  go_enter Tryd.func54, Tryd.ntmps54
  go_wp2
  go_ret
  exact ⟨rfl, Grown.refl _⟩
set_option maxHeartbeats 2000000 in
theorem eq54_walk (A B : Option Addr) (c d : Nat) (a b : List (Int × Int)) (w : World) (h1 : a = [] ∨ ∃ g o, A = some ⟨g, o, none⟩ ∧ Reads w g o a) (h2 : b = [] ∨ ∃ g o, B = some ⟨g, o, none⟩ ∧ Reads w g o b) (hl : b.length = a.length) (hn : a.length ≤ 1152921504606846976) :
    Calls Tryd.prog 54 #[.slice A a.length c, .slice B a.length d] w fun e w' => e = .returned (.bool (decide (a = b))) ∧ Grown w w' := by
  obtain ⟨n, hnn⟩ : ∃ n, a.length = n := ⟨_, rfl⟩
  have HA : Hid (a.length = n) := hnn
  have HB : Hid (b.length = n) := by rw [hnn] at hl; exact hl
  rw [hnn] at hn ⊢
  obtain ⟨r, hr⟩ : ∃ r : Bool, decide (a = b) = r := ⟨_, rfl⟩
  have HR : Hid (decide (a = b) = r) := hr
  have H1 : Hid (a = [] ∨ ∃ g o, A = some ⟨g, o, none⟩ ∧ Reads w g o a) := h1
  have H2 : Hid (b = [] ∨ ∃ g o, B = some ⟨g, o, none⟩ ∧ Reads w g o b) := h2
  rw [hr]
  clear hr hl h1 h2 hnn
  go_enter Tryd.func54, Tryd.ntmps54
  go_wp2
  go_loopw [5] (fun vi wr => ∃ k : Nat, vi = .int .i64 k ∧ k ≤ n ∧ Hid (∀ j, j < k → rg a j = rg b j) ∧ Grown w wr) (fun vi _ => n - (intOf vi).toNat)
  case atStart => exact ⟨0, rfl, by omega, fun j hj => by omega, Grown.refl _⟩
  case round =>
    obtain ⟨k, rfl, hk, hT, hG⟩ := hrel
    by_cases hlt : k < n
    · as_aux_lemma =>
        have hlt' : (k : Int) < (n : Int) := by omega
        have hpos : (0 : Int) ≤ (k : Int) := by omega
        have hka : k < a.length := by rw [HA.out]; exact hlt
        have hkb : k < b.length := by rw [HB.out]; exact hlt
        obtain ⟨g1, o1, hA1, hr1⟩ := H1.out.resolve_left (fun e => by rw [e] at hka; simp at hka)
        obtain ⟨g2, o2, hB1, hr2⟩ := H2.out.resolve_left (fun e => by rw [e] at hkb; simp at hkb)
        subst hA1
        subst hB1
        obtain ⟨p, q, hpq⟩ : ∃ p q : Int, rg a k = (p, q) := ⟨_, _, rfl⟩
        obtain ⟨s, t, hst⟩ : ∃ s t : Int, rg b k = (s, t) := ⟨_, _, rfl⟩
        have x1 := hr1 k hka
        have x2 := hr2 k hkb
        rw [hpq] at x1
        rw [hst] at x2
        have cp := hG.cellv x1.1
        have cq := hG.cellv x1.2
        have cs := hG.cellv x2.1
        have ct := hG.cellv x2.2
        simp only at cp cq cs ct
        have hne := neq_R p q s t
        clear x1 x2 hr1 hr2
        by_cases he : (p, q) = (s, t)
        · have hT' : Hid (∀ j, j < k + 1 → rg a j = rg b j) := fun j hj => by
            by_cases e : j = k
            · subst e; rw [hpq, hst]; exact he
            · exact hT.out j (by omega)
          simp only [he, decide_true, Bool.not_true] at hne
          clear hT hpq hst he
          go_wp2
          go_quiet (fail)
          go_wp2
          exact ⟨⟨k + 1, by go_num, by omega, hT', hG.drewN _⟩, by simp [intOf]; omega⟩
        · have hrf : r = false := by
            rw [← HR.out, decide_eq_false_iff_not]
            rintro rfl
            exact he (hpq.symm.trans hst)
          have HF : Hid (r = false) := hrf
          simp only [he, decide_false, Bool.not_false] at hne
          clear hT hpq hst he hrf
          go_wp2
          go_quiet (fail)
          go_wp2
          go_ret
          have hrf := HF.out
          exact ⟨by first | rfl | (rw [hrf]; rfl), hG.drewN _⟩
    · as_aux_lemma =>
        have hge : ¬ (k : Int) < (n : Int) := by omega
        have hrt : r = true := by
          rw [← HR.out, decide_eq_true_eq]
          refine List.ext_getElem (by rw [HA.out, HB.out]) fun j h1 h2 => ?_
          have := hT.out j (by rw [HA.out] at h1; omega)
          rwa [rg_lt h1, rg_lt h2] at this
        have HF : Hid (r = true) := hrt
        clear hT hrt
        go_wp2
        go_ret
        have hrf := HF.out
        exact ⟨by first | rfl | (rw [hrf]; rfl), hG⟩
theorem eq54_any (v1 v2 : Value) (a b : List (Int × Int)) (w : World) (h1 : Rs w v1 a) (h2 : Rs w v2 b) (hn : a.length ≤ 1152921504606846976) : Calls Tryd.prog 54 #[v1, v2] w fun e w' => e = .returned (.bool (decide (a = b))) ∧ Grown w w' := by
  obtain ⟨A, c, rfl, _, h1⟩ := h1
  obtain ⟨B, d, rfl, _, h2⟩ := h2
  by_cases hl : b.length = a.length
  · rw [hl]; exact eq54_walk A B c d a b w h1 h2 hl hn
  · rw [decide_eq_false (fun e => hl (by rw [e]))]
    exact eq54_lens A B a.length c b.length d w (fun e => hl e.symm)
set_option maxHeartbeats 1000000 in
theorem eq71_lens (A B : Option Addr) (n c m d : Nat) (w : World) (h : n ≠ m) : Calls Tryd.prog 71 #[.slice A n c, .slice B m d, .func (.func 72) #[] #[]] w fun e w' => e = .returned (.bool false) ∧ Grown w w' := by
  have e1 : ((n : Int) != (m : Int)) = true := by rw [bne_iff_ne]; omega
  go_enter Tryd.func71, Tryd.ntmps71
  go_wp2
  go_ret
  exact ⟨rfl, Grown.refl _⟩
set_option maxHeartbeats 2000000 in
theorem eq71_walk (A B : Option Addr) (c d : Nat) (a b : List (List (Int × Int))) (w : World) (h1 : a = [] ∨ ∃ g o, A = some ⟨g, o, none⟩ ∧ SRd w g o a) (h2 : b = [] ∨ ∃ g o, B = some ⟨g, o, none⟩ ∧ SRd w g o b) (hl : b.length = a.length) (hn : a.length ≤ 1152921504606846976) (hs : ∀ l ∈ a, l.length ≤ 1152921504606846976) :
    Calls Tryd.prog 71 #[.slice A a.length c, .slice B a.length d, .func (.func 72) #[] #[]] w fun e w' => e = .returned (.bool (decide (a = b))) ∧ Grown w w' := by
  obtain ⟨n, hnn⟩ : ∃ n, a.length = n := ⟨_, rfl⟩
  have HA : Hid (a.length = n) := hnn
  have HB : Hid (b.length = n) := by rw [hnn] at hl; exact hl
  have HSm : Hid (∀ l ∈ a, l.length ≤ 1152921504606846976) := hs
  rw [hnn] at hn ⊢
  obtain ⟨r, hr⟩ : ∃ r : Bool, decide (a = b) = r := ⟨_, rfl⟩
  have HR : Hid (decide (a = b) = r) := hr
  have H1 : Hid (a = [] ∨ ∃ g o, A = some ⟨g, o, none⟩ ∧ SRd w g o a) := h1
  have H2 : Hid (b = [] ∨ ∃ g o, B = some ⟨g, o, none⟩ ∧ SRd w g o b) := h2
  rw [hr]
  have hm := mixed
  clear hr hl h1 h2 hnn hs
  go_enter Tryd.func71, Tryd.ntmps71
  go_wp2
  go_loopw [17] (fun vi wr => ∃ k : Nat, vi = .int .i64 k ∧ k ≤ n ∧ Hid (a.take k = b.take k) ∧ Grown w wr) (fun vi _ => n - (intOf vi).toNat)
  case atStart => exact ⟨0, rfl, by omega, rfl, Grown.refl _⟩
  case round =>
    obtain ⟨k, rfl, hk, hT, hG⟩ := hrel
    by_cases hlt : k < n
    · as_aux_lemma =>
        have hlt' : (k : Int) < (n : Int) := by omega
        have hpos : (0 : Int) ≤ (k : Int) := by omega
        have hka : k < a.length := by rw [HA.out]; exact hlt
        have hkb : k < b.length := by rw [HB.out]; exact hlt
        obtain ⟨g1, o1, hA1, hr1⟩ := H1.out.resolve_left (fun e => by rw [e] at hka; simp at hka)
        obtain ⟨g2, o2, hB1, hr2⟩ := H2.out.resolve_left (fun e => by rw [e] at hkb; simp at hkb)
        subst hA1
        subst hB1
        obtain ⟨s1, d1, x1⟩ := hr1 k hka
        obtain ⟨s2, d2, x2⟩ := hr2 k hkb
        have d1 := hG.cellv d1
        have d2 := hG.cellv d2
        have HC : Hid (∀ W, Grown wr W → Calls Tryd.prog 72 #[s1, s2] W fun e w' => e = .returned (.bool (decide (a[k] = b[k]))) ∧ Grown W w') := fun W hW => same72_any s1 s2 _ _ W (x1.grown (hG.trans hW)) (x2.grown (hG.trans hW)) (HSm.out _ (List.getElem_mem hka))
        obtain ⟨sa, sn, sc, rfl⟩ := x1.sl
        obtain ⟨ta, tn, tc, rfl⟩ := x2.sl
        clear x1 x2 hr1 hr2
        by_cases he : a[k] = b[k]
        · have hT' : Hid (a.take (k + 1) = b.take (k + 1)) := by show _ = _; rw [List.take_succ_eq_append_getElem hka, List.take_succ_eq_append_getElem hkb, hT.out, he]
          rw [decide_eq_true he] at HC
          clear hT he
          go_wp2_with (go_at_call 72; refine (HC.out _ (Grown.refl _)).mono ?_; rintro e w' ⟨rfl, hb⟩)
          exact ⟨⟨k + 1, by go_num, by omega, hT', hG.trans hb⟩, by simp [intOf]; omega⟩
        · have hrf : r = false := by
            rw [← HR.out, decide_eq_false_iff_not]
            rintro rfl
            exact he rfl
          have HF : Hid (r = false) := hrf
          rw [decide_eq_false he] at HC
          clear hT he hrf
          go_wp2_with (go_at_call 72; refine (HC.out _ (Grown.refl _)).mono ?_; rintro e w' ⟨rfl, hb⟩)
          go_ret
          have hrf := HF.out
          exact ⟨by first | rfl | (rw [hrf]; rfl), hG.trans hb⟩
    · as_aux_lemma =>
        have hge : ¬ (k : Int) < (n : Int) := by omega
        have hrt : r = true := by
          rw [← HR.out, decide_eq_true_eq]
          have := hT.out
          rwa [List.take_of_length_le (by rw [HA.out]; omega), List.take_of_length_le (by rw [HB.out]; omega)] at this
        have HF : Hid (r = true) := hrt
        clear hT hrt
        go_wp2
        go_ret
        have hrf := HF.out
        exact ⟨by first | rfl | (rw [hrf]; rfl), hG⟩
theorem eq71_any (v1 v2 : Value) (a b : List (List (Int × Int))) (w : World) (h1 : SR w v1 a) (h2 : SR w v2 b) (hn : a.length ≤ 1152921504606846976) (hs : ∀ l ∈ a, l.length ≤ 1152921504606846976) : Calls Tryd.prog 71 #[v1, v2, .func (.func 72) #[] #[]] w fun e w' => e = .returned (.bool (decide (a = b))) ∧ Grown w w' := by
  obtain ⟨A, c, rfl, _, h1⟩ := h1
  obtain ⟨B, d, rfl, _, h2⟩ := h2
  by_cases hl : b.length = a.length
  · rw [hl]; exact eq71_walk A B c d a b w h1 h2 hl hn hs
  · rw [decide_eq_false (fun e => hl (by rw [e]))]
    exact eq71_lens A B a.length c b.length d w (fun e => hl e.symm)
set_option maxHeartbeats 1000000 in
theorem same51_any (v1 v2 : Value) (a b : List (List (Int × Int))) (w : World) (h1 : SR w v1 a) (h2 : SR w v2 b) (hn : a.length ≤ 1152921504606846976) (hs : ∀ l ∈ a, l.length ≤ 1152921504606846976) : Calls Tryd.prog 51 #[v1, v2] w fun e w' => e = .returned (.bool (decide (a = b))) ∧ Grown w w' := by
  have HC : Hid (Calls Tryd.prog 71 #[v1, v2, .func (.func 72) #[] #[]] w fun e w' => e = .returned (.bool (decide (a = b))) ∧ Grown w w') := eq71_any v1 v2 a b w h1 h2 hn hs
  generalize decide (a = b) = q at HC
  clear h1 h2
  go_enter Tryd.func51, Tryd.ntmps51
  go_wp2_with fail
  refine HC.out.mono ?_
  rintro e w1 ⟨rfl, hb1⟩
  go_wp2
  go_ret
  exact ⟨rfl, hb1⟩
set_option maxHeartbeats 1000000 in
theorem eq55_lens (A B : Option Addr) (n c m d : Nat) (w : World) (h : n ≠ m) : Calls Tryd.prog 55 #[.slice A n c, .slice B m d] w fun e w' => e = .returned (.bool false) ∧ Grown w w' := by
  have e1 : ((n : Int) != (m : Int)) = true := by rw [bne_iff_ne]; omega
  go_enter Tryd.func55, Tryd.ntmps55
  go_wp2
  go_ret
  exact ⟨rfl, Grown.refl _⟩
set_option maxHeartbeats 2000000 in
theorem eq55_walk (A B : Option Addr) (c d : Nat) (a b : List (List (Int × Int))) (w : World) (h1 : a = [] ∨ ∃ g o, A = some ⟨g, o, none⟩ ∧ SRd w g o a) (h2 : b = [] ∨ ∃ g o, B = some ⟨g, o, none⟩ ∧ SRd w g o b) (hl : b.length = a.length) (hn : a.length ≤ 1152921504606846976) (hs : ∀ l ∈ a, l.length ≤ 1152921504606846976) :
    Calls Tryd.prog 55 #[.slice A a.length c, .slice B a.length d] w fun e w' => e = .returned (.bool (decide (a = b))) ∧ Grown w w' := by
  obtain ⟨n, hnn⟩ : ∃ n, a.length = n := ⟨_, rfl⟩
  have HA : Hid (a.length = n) := hnn
  have HB : Hid (b.length = n) := by rw [hnn] at hl; exact hl
  have HSm : Hid (∀ l ∈ a, l.length ≤ 1152921504606846976) := hs
  rw [hnn] at hn ⊢
  obtain ⟨r, hr⟩ : ∃ r : Bool, decide (a = b) = r := ⟨_, rfl⟩
  have HR : Hid (decide (a = b) = r) := hr
  have H1 : Hid (a = [] ∨ ∃ g o, A = some ⟨g, o, none⟩ ∧ SRd w g o a) := h1
  have H2 : Hid (b = [] ∨ ∃ g o, B = some ⟨g, o, none⟩ ∧ SRd w g o b) := h2
  rw [hr]
  have hm := mixed
  clear hr hl h1 h2 hnn hs
  go_enter Tryd.func55, Tryd.ntmps55
  go_wp2
  go_loopw [5] (fun vi wr => ∃ k : Nat, vi = .int .i64 k ∧ k ≤ n ∧ Hid (a.take k = b.take k) ∧ Grown w wr) (fun vi _ => n - (intOf vi).toNat)
  case atStart => exact ⟨0, rfl, by omega, rfl, Grown.refl _⟩
  case round =>
    obtain ⟨k, rfl, hk, hT, hG⟩ := hrel
    by_cases hlt : k < n
    · as_aux_lemma =>
        have hlt' : (k : Int) < (n : Int) := by omega
        have hpos : (0 : Int) ≤ (k : Int) := by omega
        have hka : k < a.length := by rw [HA.out]; exact hlt
        have hkb : k < b.length := by rw [HB.out]; exact hlt
        obtain ⟨g1, o1, hA1, hr1⟩ := H1.out.resolve_left (fun e => by rw [e] at hka; simp at hka)
        obtain ⟨g2, o2, hB1, hr2⟩ := H2.out.resolve_left (fun e => by rw [e] at hkb; simp at hkb)
        subst hA1
        subst hB1
        obtain ⟨s1, d1, x1⟩ := hr1 k hka
        obtain ⟨s2, d2, x2⟩ := hr2 k hkb
        have d1 := hG.cellv d1
        have d2 := hG.cellv d2
        have HC : Hid (∀ W, Grown wr W → Calls Tryd.prog 54 #[s1, s2] W fun e w' => e = .returned (.bool (decide (a[k] = b[k]))) ∧ Grown W w') := fun W hW => eq54_any s1 s2 _ _ W (x1.grown (hG.trans hW)) (x2.grown (hG.trans hW)) (HSm.out _ (List.getElem_mem hka))
        obtain ⟨sa, sn, sc, rfl⟩ := x1.sl
        obtain ⟨ta, tn, tc, rfl⟩ := x2.sl
        clear x1 x2 hr1 hr2
        have f1 : ∀ m os, (Go.Sort.grow (wr.drewN m) os).cell? ⟨g1, o1 + k, none⟩ = some (.slice sa sn sc) := fun m os => ((Grown.refl _).quiet m os).cellv d1
        have f2 : ∀ m os, (Go.Sort.grow (wr.drewN m) os).cell? ⟨g2, o2 + k, none⟩ = some (.slice ta tn tc) := fun m os => ((Grown.refl _).quiet m os).cellv d2
        clear d1 d2
        by_cases he : a[k] = b[k]
        · have hT' : Hid (a.take (k + 1) = b.take (k + 1)) := by show _ = _; rw [List.take_succ_eq_append_getElem hka, List.take_succ_eq_append_getElem hkb, hT.out, he]
          rw [decide_eq_true he] at HC
          clear hT he
          go_wp2
          refine wp_region_quiet_grown hm (by kernel_rfl) ?_
          repeat (go_big_quiet_step ((go_at_call 54; exact grown_of (HC.out _ ((Grown.refl _).quiet _ _)))))
          refine wpQuiet_nil ?_
          intro _ hw'
          obtain ⟨⟨nq, osq⟩, hw''⟩ := hw'
          subst hw''
          go_wp2
          exact ⟨⟨k + 1, by go_num, by omega, hT', hG.quiet _ _⟩, by simp [intOf]; omega⟩
        · have hrf : r = false := by
            rw [← HR.out, decide_eq_false_iff_not]
            rintro rfl
            exact he rfl
          have HF : Hid (r = false) := hrf
          rw [decide_eq_false he] at HC
          clear hT he hrf
          go_wp2
          refine wp_region_quiet_grown hm (by kernel_rfl) ?_
          repeat (go_big_quiet_step ((go_at_call 54; exact grown_of (HC.out _ ((Grown.refl _).quiet _ _)))))
          refine wpQuiet_nil ?_
          intro _ hw'
          obtain ⟨⟨nq, osq⟩, hw''⟩ := hw'
          subst hw''
          go_wp2
          go_ret
          have hrf := HF.out
          exact ⟨by first | rfl | (rw [hrf]; rfl), hG.quiet _ _⟩
    · as_aux_lemma =>
        have hge : ¬ (k : Int) < (n : Int) := by omega
        have hrt : r = true := by
          rw [← HR.out, decide_eq_true_eq]
          have := hT.out
          rwa [List.take_of_length_le (by rw [HA.out]; omega), List.take_of_length_le (by rw [HB.out]; omega)] at this
        have HF : Hid (r = true) := hrt
        clear hT hrt
        go_wp2
        go_ret
        have hrf := HF.out
        exact ⟨by first | rfl | (rw [hrf]; rfl), hG⟩
theorem eq55_any (v1 v2 : Value) (a b : List (List (Int × Int))) (w : World) (h1 : SR w v1 a) (h2 : SR w v2 b) (hn : a.length ≤ 1152921504606846976) (hs : ∀ l ∈ a, l.length ≤ 1152921504606846976) : Calls Tryd.prog 55 #[v1, v2] w fun e w' => e = .returned (.bool (decide (a = b))) ∧ Grown w w' := by
  obtain ⟨A, c, rfl, _, h1⟩ := h1
  obtain ⟨B, d, rfl, _, h2⟩ := h2
  by_cases hl : b.length = a.length
  · rw [hl]; exact eq55_walk A B c d a b w h1 h2 hl hn hs
  · rw [decide_eq_false (fun e => hl (by rw [e]))]
    exact eq55_lens A B a.length c b.length d w (fun e => hl e.symm)
end Go.Proofs
