/-
  The document's Place and greatest.
-/
import Derived.RangeFuncNested
import Derived.RangeFuncBound
import Derived.RangeFuncCalls
import Derived.RangeFuncLeaves
import Derived.Shelf.Abstract
import Derived.Shelf.RegionOpen
import Derived.WalkKit
import Derived.WalkSpells
import Derived.WalkLawsBesides
import Derived.OwnWalkIn
import Derived.TacticsInMore
import Derived.LoopNIn
import Derived.LoopIn
import Derived.BigQuiet
import Derived.RegionIn
import Derived.Deep.QuietTactic
import Derived.Deep.RegionWith
import Derived.Lib.OthersKept
import Derived.Maps.AppendAt
import Derived.Lib.SmallJoins
import Derived.Shelf.SlSortCmp.QuietGrown
import Derived.Test.YtkijbaofhodplaaDoorWx
import Derived.Test.YtkijbaofhodplaaDoorEy
namespace Go.Proofs
open Go.RowKit Go.Shelf

set_option maxRecDepth 100000
attribute [local go_sem] Oper.semAt_some
attribute [local go_sem ↓] Go.wp_at_zero Go.wp_at_succ
/-- what stands at a place of numbers -/
def bAt (l : List Int) (i : Nat) : Int := l[i]?.getD 0
def plcF (l : List Int) (u : Int) : Nat → Nat → Nat → Nat
  | 0, lo, _ => lo
  | f + 1, lo, hi => if 1 < hi - lo then (if bAt l ((lo + hi) / 2) ≤ u then plcF l u f ((lo + hi) / 2) hi else plcF l u f lo ((lo + hi) / 2)) else lo
def plc (l : List Int) (u : Int) : Nat := plcF l u l.length 0 l.length
/-- what the search finds: a place whose number is not above, if the first one is not; those behind the end are above -/
theorem plcF_spec (l : List Int) (u : Int) : ∀ (f lo hi : Nat), hi - lo ≤ f + 1 → lo < hi → hi ≤ l.length → bAt l lo ≤ u → (hi = l.length ∨ u < bAt l hi) → plcF l u f lo hi < l.length ∧ bAt l (plcF l u f lo hi) ≤ u ∧ (plcF l u f lo hi + 1 = l.length ∨ u < bAt l (plcF l u f lo hi + 1))
  | 0, lo, hi, h1, h2, h3, h4, h5 => by
    have : hi = lo + 1 := by omega
    subst this
    exact ⟨by simp [plcF]; omega, h4, h5⟩
  | f + 1, lo, hi, h1, h2, h3, h4, h5 => by
    unfold plcF
    by_cases hc : 1 < hi - lo
    · rw [if_pos hc]
      by_cases hm : bAt l ((lo + hi) / 2) ≤ u
      · rw [if_pos hm]
        exact plcF_spec l u f _ _ (by omega) (by omega) h3 hm h5
      · rw [if_neg hm]
        exact plcF_spec l u f _ _ (by omega) (by omega) (by omega) h4 (.inr (by omega))
    · rw [if_neg hc]
      have : hi = lo + 1 := by omega
      subst this
      exact ⟨by omega, h4, h5⟩
set_option maxHeartbeats 2000000 in
theorem place_any (v : Value) (l : List Int) (u : Int) (w : World) (h : IR w v l) (hn : l.length ≤ 4611686018427387903) : Calls Tryd.prog 31 #[v, .int .i64 u] w fun e w' => e = .returned (.int .i64 (plc l u)) ∧ w' = w := by
  obtain ⟨a, c, rfl, _, hr⟩ := h
  have HR : Hid (l = [] ∨ ∃ g o, a = some ⟨g, o, none⟩ ∧ IRd w g o l) := hr
  obtain ⟨N, hN⟩ : ∃ N, l.length = N := ⟨_, rfl⟩
  have HN : Hid (l.length = N) := hN
  obtain ⟨R, hRR⟩ : ∃ R, plc l u = R := ⟨_, rfl⟩
  have HRR : Hid (plcF l u N 0 N = R) := by show _ = R; rw [← hRR, plc, hN]
  rw [hN] at hn ⊢
  rw [hRR]
  have hNI : (N : Int) ≤ 4611686018427387903 := by omega
  clear hN hr hRR
  go_enter Tryd.func31, Tryd.ntmps31
  go_wp2
  go_loopw [5, 6] (fun vl vh wr => ∃ lo hi f : Nat, vl = .int .i64 lo ∧ vh = .int .i64 hi ∧ lo ≤ hi ∧ hi ≤ N ∧ Hid (plcF l u f lo hi = R ∧ hi - lo ≤ f) ∧ wr = w) (fun vl vh _ => (intOf vh).toNat - (intOf vl).toNat)
  case atStart => exact ⟨0, N, N, rfl, rfl, by omega, by omega, ⟨HRR.out, by omega⟩, rfl⟩
  case round =>
    obtain ⟨lo, hi, f, rfl, rfl, hlh, hhN, HF, hwr⟩ := hrel
    obtain rfl := hwr.symm
    have hlo0 : (0 : Int) ≤ (lo : Int) := by omega
    have hhi : (hi : Int) ≤ (N : Int) := by omega
    have hlhI : (lo : Int) ≤ (hi : Int) := by omega
    by_cases hc : 1 < hi - lo
    · have hcI : (1 : Int) < (hi : Int) - (lo : Int) := by omega
      have hcd : decide ((1 : Int) < (hi : Int) - (lo : Int)) = true := by simpa using hcI
      obtain ⟨f', rfl⟩ : ∃ f', f = f' + 1 := ⟨f - 1, by have := HF.out.2; omega⟩
      have hp := HF.out.1
      rw [plcF, if_pos hc] at hp
      obtain ⟨m, hm⟩ : ∃ m, (lo + hi) / 2 = m := ⟨_, rfl⟩
      rw [hm] at hp
      have hmI : ((lo : Int) + (hi : Int)).tdiv 2 = (m : Int) := by rw [Int.tdiv_eq_ediv_of_nonneg (by omega)]; omega
      have hml : m < l.length := by rw [HN.out]; omega
      have hmN : (m : Int) < (N : Int) := by have := HN.out; omega
      have hm0 : (0 : Int) ≤ (m : Int) := by omega
      obtain ⟨g, o, rfl, hd⟩ := HR.out.resolve_left (fun e => by rw [e] at hml; simp at hml)
      have cm := hd m hml
      have hbm : bAt l m = l[m] := by simp [bAt, hml]
      rw [hbm] at hp
      generalize l[m] = x at cm hp
      have HL : Hid (lo < m ∧ m < hi ∧ hi - lo ≤ f' + 1) := ⟨by omega, by omega, HF.out.2⟩
      clear hd hbm hm HF
      by_cases hx : x ≤ u
      · as_aux_lemma =>
          have HP : Hid (plcF l u f' m hi = R) := by rw [if_pos hx] at hp; exact hp
          clear hp
          have hL := HL.out
          go_wp2
          exact ⟨⟨m, hi, f', rfl, rfl, by omega, by omega, ⟨HP.out, by omega⟩, by first | rfl | trivial⟩, by simp [intOf]; omega⟩
      · as_aux_lemma =>
          have HP : Hid (plcF l u f' lo m = R) := by rw [if_neg hx] at hp; exact hp
          clear hp
          have hL := HL.out
          go_wp2
          exact ⟨⟨lo, m, f', rfl, rfl, by omega, by omega, ⟨HP.out, by omega⟩, by first | rfl | trivial⟩, by simp [intOf]; omega⟩
    · as_aux_lemma =>
        have hcn : ¬ (1 : Int) < (hi : Int) - (lo : Int) := by omega
        have hcd : decide ((1 : Int) < (hi : Int) - (lo : Int)) = false := by simp; omega
        have HP : Hid (lo = R) := by
          have := HF.out.1
          cases f with
          | zero => rw [plcF] at this; exact this
          | succ f => rw [plcF, if_neg hc] at this; exact this
        clear HF
        go_wp2
        go_ret
        exact ⟨by rw [HP.out]; rfl, rfl⟩
end Go.Proofs
namespace Go.Proofs
open Go.RowKit Go.Shelf

set_option maxRecDepth 100000
attribute [local go_sem] Oper.semAt_some
attribute [local go_sem ↓] Go.wp_at_zero Go.wp_at_succ
def grK (L W : List Int) (hi : Int) : Nat → Nat → Int → Int
  | 0, _, n => n
  | f + 1, k, n => if k < L.length ∧ bAt L k ≤ hi then grK L W hi f (k + 1) (if n < bAt W k then bAt W k else n) else n
def gr1 (L W : List Int) (n : Int) (x : Int × Int) : Int := grK L W x.2 L.length (plc L x.1) n
def grt (L W : List Int) (s : List (Int × Int)) : Int := s.foldl (gr1 L W) 0
theorem grt_succ (L W : List Int) (s : List (Int × Int)) {k : Nat} (h : k < s.length) : (s.take (k + 1)).foldl (gr1 L W) 0 = gr1 L W ((s.take k).foldl (gr1 L W) 0) (rg s k) := by
  rw [List.take_add_one, List.foldl_append, List.getElem?_eq_getElem h, rg_lt h]
  rfl
theorem ir_cell {w : World} {a : Option Addr} {n c : Nat} {l : List Int} (h : IR w (.slice a n c) l) {j : Nat} (hj : j < l.length) : ∃ g o, a = some ⟨g, o, none⟩ ∧ w.cell? ⟨g, o + j, none⟩ = some (.int .i64 (bAt l j)) := by
  obtain ⟨a', c', e, _, hr⟩ := h
  obtain ⟨g, o, ha, hd⟩ := hr.resolve_left (fun e => by rw [e] at hj; simp at hj)
  injection e with e1
  refine ⟨g, o, e1.trans ha, ?_⟩
  have := hd j hj
  rw [this]
  simp [bAt, hj]
set_option maxHeartbeats 4000000 in
theorem greatest_any (lv wv sv : Value) (L W : List Int) (s : List (Int × Int)) (w : World) (hL : IR w lv L) (hW : IR w wv W) (hl : W.length = L.length) (hS : Rs w sv s) (hn : L.length ≤ 4611686018427387903) (hs : s.length ≤ 4611686018427387903) :
    Calls Tryd.prog 72 #[.agg #[lv, wv], sv] w fun e w' => e = .returned (.int .i64 (grt L W s)) ∧ Grown w w' := by
  have HPl : Hid (∀ (V : World) (u : Int), Grown w V → Calls Tryd.prog 31 #[lv, .int .i64 u] V fun e w' => e = .returned (.int .i64 (plc L u)) ∧ Grown V w') := fun V u hg => (place_any lv L u V (hL.grown hg) hn).mono fun _ _ ⟨h1, h2⟩ => ⟨h1, by rw [h2]; exact Grown.refl _⟩
  have HL : Hid (∀ V, Grown w V → IR V lv L) := fun V hg => hL.grown hg
  have HW : Hid (∀ V, Grown w V → IR V wv W) := fun V hg => hW.grown hg
  have HS : Hid (∀ V, Grown w V → Rs V sv s) := fun V hg => hS.grown hg
  obtain ⟨la, ln, lc, rfl⟩ := hL.sl
  obtain ⟨wa, wn, wc, rfl⟩ := hW.sl
  obtain ⟨sa, sc, hsv, _, _⟩ := hS
  subst hsv
  have hln : ln = L.length := by obtain ⟨_, _, e, _⟩ := hL; injection e
  have hwn : wn = L.length := by obtain ⟨_, _, e, _⟩ := hW; injection e with _ e2; omega
  obtain ⟨N, hN⟩ : ∃ N, L.length = N := ⟨_, rfl⟩
  obtain ⟨m, hm⟩ : ∃ m, s.length = m := ⟨_, rfl⟩
  have HN : Hid (L.length = N ∧ W.length = N ∧ s.length = m) := ⟨hN, by omega, hm⟩
  rw [hN] at hln hwn hn
  obtain rfl := hln.symm
  obtain rfl := hwn.symm
  rw [hm] at hs HS ⊢
  have hNI : (N : Int) ≤ 4611686018427387903 := by omega
  have hmI : (m : Int) ≤ 4611686018427387903 := by omega
  obtain ⟨R, hR⟩ : ∃ R, grt L W s = R := ⟨_, rfl⟩
  have HR : Hid (grt L W s = R) := hR
  rw [hR]
  clear hR hL hW hN hm hl
  obtain ⟨W0, hW0⟩ : ∃ W0, W0 = w.alloc (.cells #[.slice la N lc, .slice wa N wc] 70) := ⟨_, rfl⟩
  have HG0 : Hid (Grown w W0) := by show Grown _ _; rw [hW0]; exact (Grown.refl _).alloc _
  have d0 : W0.cell? ⟨w.heap.size, 0, none⟩ = some (.slice la N lc) := by rw [hW0]; simp
  have d1 : W0.cell? ⟨w.heap.size, 1, none⟩ = some (.slice wa N wc) := by rw [hW0]; simp
  go_enter Tryd.func72, Tryd.ntmps72
  go_wp2
  rw [← hW0]
  clear hW0
  go_loopw [5, 6] (fun vn vi wr => ∃ (i : Nat) (x : Int), vi = .int .i64 i ∧ vn = .int .i64 x ∧ i ≤ m ∧ Hid (x = (s.take i).foldl (gr1 L W) 0) ∧ Grown W0 wr) (fun _ vi _ => m - (intOf vi).toNat)
  case atStart => exact ⟨0, 0, rfl, rfl, by omega, by show _ = _; simp, Grown.refl _⟩
  case round =>
    obtain ⟨i, x, rfl, rfl, hi, HX, hG⟩ := hrel
    have hi0 : (0 : Int) ≤ (i : Int) := by omega
    by_cases hlt : i < m
    · have hlt' : (i : Int) < (m : Int) := by omega
      have his : i < s.length := by rw [HN.out.2.2]; exact hlt
      have hGw : Grown w wr := HG0.out.trans hG
      obtain ⟨a', c', e', _, hrr⟩ := HS.out wr hGw
      obtain ⟨sg, so, ha', hrd⟩ := hrr.resolve_left (fun e => by rw [e] at his; simp at his)
      injection e' with e1 e2 e3
      clear e2 e3
      rw [ha'] at e1
      subst e1
      obtain ⟨q1, q2⟩ := hrd i his
      have HSX := grt_succ L W s his
      rw [← HX.out] at HSX
      obtain ⟨lo, hlo⟩ : ∃ lo, (rg s i).1 = lo := ⟨_, rfl⟩
      obtain ⟨hi', hhi⟩ : ∃ hi', (rg s i).2 = hi' := ⟨_, rfl⟩
      rw [hlo] at q1
      rw [hhi] at q2
      have HK : Hid (grK L W hi' N (plc L lo) x = (s.take (i + 1)).foldl (gr1 L W) 0) := by show _ = _; rw [HSX, gr1, hlo, hhi, HN.out.1]
      have c0 := hG.cellv d0
      have k0 := fun m os => ((Grown.refl wr).quiet m os).cellv c0
      have k1 := fun m os => ((Grown.refl wr).quiet m os).cellv q1
      have HC : Hid (∀ m os, Calls Tryd.prog 31 #[.slice la N lc, .int .i64 lo] (Go.Sort.grow (wr.drewN m) os) fun e w' => e = .returned (.int .i64 (plc L lo)) ∧ Grown (Go.Sort.grow (wr.drewN m) os) w') := fun m os => HPl.out _ lo (hGw.quiet m os)
      have HGW : Hid (∀ m os, Grown W0 (Go.Sort.grow (wr.drewN m) os)) := fun m os => hG.quiet m os
      have q2' := fun m os => ((Grown.refl wr).quiet m os).cellv q2
      obtain ⟨p, hp⟩ : ∃ p, plc L lo = p := ⟨_, rfl⟩
      rw [hp] at HK HC
      clear hrr hrd HSX hlo hhi hp HX hG ha'
      go_wp2
      refine wp_region_quiet_grown mixed (by kernel_rfl) ?_
      repeat (go_big_quiet_step ((go_at_call 31; exact grown_of (HC.out _ _))))
      refine wpQuiet_nil ?_
      intro _ hw'
      obtain ⟨⟨nq, osq⟩, hw''⟩ := hw'
      subst hw''
      obtain ⟨W2, hW2⟩ : ∃ W2, W2 = Go.Sort.grow (wr.drewN nq) osq := ⟨_, rfl⟩
      have HG2 : Hid (Grown W0 W2) := by rw [hW2]; exact HGW.out _ _
      have q22 : W2.cell? ⟨sg, so + i * 2 + 1, none⟩ = some (.int .i64 hi') := by rw [hW2]; exact q2' _ _
      rw [← hW2]
      clear hW2 k0 k1 q2' HC HGW c0 q1 q2
      go_wp2
      go_loopw [5, 7] (fun vn vk wx => ∃ (k f : Nat) (y : Int), vk = .int .i64 k ∧ vn = .int .i64 y ∧ Hid (grK L W hi' f k y = (s.take (i + 1)).foldl (gr1 L W) 0 ∧ N - k ≤ f) ∧ Grown W2 wx ∧ k ≤ N + p) (fun _ vk _ => N - (intOf vk).toNat)
      case atStart => exact ⟨p, N, x, rfl, rfl, ⟨HK.out, by omega⟩, Grown.refl _, by omega⟩
      case round =>
        obtain ⟨k, f, y, rfl, rfl, HF, hGx, hkp⟩ := hrel
        have hk0 : (0 : Int) ≤ (k : Int) := by omega
        have c0 := (HG2.out.trans hGx).cellv d0
        have c1 := (HG2.out.trans hGx).cellv d1
        have qh := hGx.cellv q22
        have hGwx : Grown w wr := HG0.out.trans (HG2.out.trans hGx)
        by_cases hkN : k < N
        · have hkN' : (k : Int) < (N : Int) := by omega
          obtain ⟨lg, lo', hla, cl⟩ := ir_cell (HL.out wr hGwx) (j := k) (by rw [HN.out.1]; exact hkN)
          obtain ⟨wg, wo, hwa, cw⟩ := ir_cell (HW.out wr hGwx) (j := k) (by rw [HN.out.2.1]; exact hkN)
          subst hla hwa
          obtain ⟨f', rfl⟩ : ∃ f', f = f' + 1 := ⟨f - 1, by have := HF.out.2; omega⟩
          have hg := HF.out.1
          rw [grK] at hg
          have HF2 : Hid (N - k ≤ f' + 1) := HF.out.2
          generalize bAt L k = bl at cl hg
          generalize bAt W k = bw at cw hg
          clear HF
          by_cases hle : bl ≤ hi'
          · rw [if_pos ⟨by rw [HN.out.1]; exact hkN, hle⟩] at hg
            by_cases hgt : y < bw
            · as_aux_lemma =>
                have HQ : Hid (grK L W hi' f' (k + 1) bw = (s.take (i + 1)).foldl (gr1 L W) 0 ∧ N - (k + 1) ≤ f') := by rw [if_pos hgt] at hg; exact ⟨hg, by have := HF2.out; omega⟩
                clear hg HF2
                go_wp2
                go_quiet (fail)
                go_wp2
                exact ⟨⟨k + 1, f', bw, by go_num, rfl, HQ, hGx.drewN _, by omega⟩, by simp [intOf]; omega⟩
            · as_aux_lemma =>
                have HQ : Hid (grK L W hi' f' (k + 1) y = (s.take (i + 1)).foldl (gr1 L W) 0 ∧ N - (k + 1) ≤ f') := by rw [if_neg hgt] at hg; exact ⟨hg, by have := HF2.out; omega⟩
                clear hg HF2
                go_wp2
                go_quiet (fail)
                go_wp2
                exact ⟨⟨k + 1, f', y, by go_num, rfl, HQ, hGx.drewN _, by omega⟩, by simp [intOf]; omega⟩
          · as_aux_lemma =>
              have HQ : Hid (y = (s.take (i + 1)).foldl (gr1 L W) 0) := by rw [if_neg (fun h => hle h.2)] at hg; exact hg
              have HGF : Hid (∀ q, Grown W0 (wr.drewN q)) := fun q => (HG2.out.trans hGx).drewN q
              clear hg HF2
              go_wp2
              go_quiet (fail)
              go_wp2
              exact ⟨⟨i + 1, y, by go_num, rfl, by omega, HQ, HGF.out _⟩, by simp [intOf]; omega⟩
        · as_aux_lemma =>
            have hge : ¬ (k : Int) < (N : Int) := by omega
            have HQ : Hid (y = (s.take (i + 1)).foldl (gr1 L W) 0) := by
              have hg := HF.out.1
              cases f with
              | zero => rw [grK] at hg; exact hg
              | succ f => rw [grK, if_neg (fun h => hkN (by rw [HN.out.1] at h; exact h.1))] at hg; exact hg
            have HGF : Hid (∀ q, Grown W0 (wr.drewN q)) := fun q => (HG2.out.trans hGx).drewN q
            clear HF
            go_wp2
            go_quiet (fail)
            go_wp2
            exact ⟨⟨i + 1, y, by go_num, rfl, by omega, HQ, HGF.out _⟩, by simp [intOf]; omega⟩
    · as_aux_lemma =>
        have hge : ¬ (i : Int) < (m : Int) := by omega
        have HQ : Hid (x = R) := by
          show x = R
          rw [HX.out, ← HR.out, List.take_of_length_le (by rw [HN.out.2.2]; omega)]
          rfl
        clear HX
        go_wp2
        go_ret
        exact ⟨by rw [HQ.out]; rfl, HG0.out.trans hG⟩
end Go.Proofs
