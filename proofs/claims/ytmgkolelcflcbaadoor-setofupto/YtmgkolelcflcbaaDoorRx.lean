/-
  The document: what is in the one and not in the other, walked.
-/
import Derived.RangeFuncNested
import Derived.RangeFuncBound
import Derived.RangeFuncCalls
import Derived.RangeFuncLeaves
import Derived.Shelf.Abstract
import Derived.Shelf.RegionOpen
import Derived.WalkKit
import Derived.WalkSpells
import Derived.WalkLawsBesides
import Derived.OwnWalkIn
import Derived.TacticsInMore
import Derived.LoopNIn
import Derived.LoopIn
import Derived.BigQuiet
import Derived.RegionIn
import Derived.Deep.QuietTactic
import Derived.Deep.RegionWith
import Derived.Lib.OthersKept
import Derived.Maps.AppendAt
import Derived.Maps.OwnIn
import Derived.Lib.SmallJoins
import Derived.Deep.RegionHeld3
import Derived.Test.YtmgkolelcflcbaaDoorRw
namespace Go.Proofs
open Go.RowKit Go.Shelf

set_option maxRecDepth 100000
attribute [local go_sem] Oper.semAt_some
attribute [local go_sem ↓] Go.wp_at_zero Go.wp_at_succ
set_option maxHeartbeats 4000000 in
theorem without_walk (A B : Option Addr) (c d : Nat) (a b : List (Int × Int)) (w : World) (h1 : a = [] ∨ ∃ g o, A = some ⟨g, o, none⟩ ∧ Reads w g o a) (h2 : b = [] ∨ ∃ g o, B = some ⟨g, o, none⟩ ∧ Reads w g o b) (ha : Good a) (hb : Good b) (hn : a.length ≤ 512) (hm : b.length ≤ 600000) :
    Calls Tryd.prog 56 #[.slice A a.length c, .slice B b.length d] w fun e w' => ∃ v r, e = .returned v ∧ (Good r ∧ ∀ u, hasU r u ↔ hasU a u ∧ ¬ hasU b u) ∧ OwnR w' w.heap.size v r ∧ Below w.heap.size w w' := by
  obtain ⟨n, hnn⟩ : ∃ n, a.length = n := ⟨_, rfl⟩
  obtain ⟨m, hmm⟩ : ∃ m, b.length = m := ⟨_, rfl⟩
  have HN : Hid (a.length = n ∧ b.length = m) := ⟨hnn, hmm⟩
  rw [hnn] at hn ⊢
  rw [hmm] at hm ⊢
  have HG : Hid (Good a ∧ Good b) := ⟨ha, hb⟩
  have H1 : Hid (a = [] ∨ ∃ g o, A = some ⟨g, o, none⟩ ∧ Reads w g o a) := h1
  have H2 : Hid (b = [] ∨ ∃ g o, B = some ⟨g, o, none⟩ ∧ Reads w g o b) := h2
  clear h1 h2 ha hb hnn hmm
  have hO0 : OwnR (w.alloc (.cells #[] 38)) w.heap.size (.slice (some ⟨w.heap.size, 0, none⟩) 0 0) [] := World.ownsRow_lit (e := 38) (size := 2) w #[] 0 (Nat.le_refl _) (by unfold maxLen; omega) rfl
  have hB0 : Below w.heap.size w (w.alloc (.cells #[] 38)) := (Below.refl _ w).alloc (Nat.le_refl _) _
  go_enter Tryd.func56, Tryd.ntmps56
  go_wp2
  go_loopw [5, 6] (fun vs vi wr => ∃ (va : Value) (i : Nat) (acc : List (Int × Int)), va = vs ∧ vi = .int .i64 i ∧ i ≤ n ∧ Hid (WA a b i acc) ∧ OwnR wr w.heap.size va acc ∧ Below w.heap.size w wr) (fun _ vi _ => n - (intOf vi).toNat)
  case atStart => exact ⟨_, 0, [], rfl, rfl, by omega, wa_start a b, hO0, hB0⟩
  case round =>
    obtain ⟨va, i, acc, rfl, rfl, hi, hW, hO, hB⟩ := hrel
    clear hO0 hB0
    have hz := hB.size
    have hal : acc.length ≤ n * (m + 1) := by
      have h1 := hW.out.2
      rw [HN.out.2] at h1
      exact Nat.le_trans h1 (Nat.mul_le_mul_right _ hi)
    have hal2 : acc.length ≤ 512 * 600001 := Nat.le_trans hal (Nat.mul_le_mul hn (by omega))
    by_cases hlt : i < n
    · as_aux_lemma =>
        have hlt' : (i : Int) < (n : Int) := by omega
        have hpos : (0 : Int) ≤ (i : Int) := by omega
        have hia : i < a.length := by rw [HN.out.1]; exact hlt
        obtain ⟨g, o, hA, hr⟩ := H1.out.resolve_left (fun e => by rw [e] at hia; simp at hia)
        subst hA
        have hg : g < w.heap.size := hr.lt (fun e => by rw [e] at hia; simp at hia)
        obtain ⟨x, y, hxy⟩ : ∃ x y : Int, rg a i = (x, y) := ⟨_, _, rfl⟩
        have x1 := hr i hia
        rw [hxy] at x1
        have HX : Hid (∀ W, Below w.heap.size w W → W.cell? ⟨g, o + i * 2, none⟩ = some (.int .i64 x) ∧ W.cell? ⟨g, o + i * 2 + 1, none⟩ = some (.int .i64 y)) := fun W hW =>
          ⟨(hW.cell (p := ⟨g, _, none⟩) hg).trans x1.1, (hW.cell (p := ⟨g, _, none⟩) hg).trans x1.2⟩
        obtain ⟨cx, cy⟩ := HX.out _ hB
        have hw := good_at HG.out.1 hia
        rw [hxy] at hw
        have hw2 := (whole_iff _ _).1 hw
        have hx0 : 0 ≤ x ∧ x ≤ 1114367 ∧ 0 ≤ y ∧ y ≤ 1114367 := by omega
        have HXY : Hid (rg a i = (x, y)) := hxy
        have HWA := hW
        clear hw hw2 hxy hr x1 hW
        obtain ⟨p1, p2, p3, p4⟩ := hx0
        go_wp2
        go_loopw [5, 7, 8] (fun vs vl vk wr => ∃ (vb : Value) (k : Nat) (lo : Int) (ps : List (Int × Int)), vb = vs ∧ vk = .int .i64 k ∧ vl = .int .i64 lo ∧ k ≤ m ∧ Hid (WO b x y k lo ps) ∧ OwnR wr w.heap.size vb (acc ++ ps) ∧ Below w.heap.size w wr) (fun _ _ vk _ => m - (intOf vk).toNat)
        case atStart => exact ⟨_, 0, x, [], rfl, rfl, rfl, by omega, wo_start p2, by simpa using hO, hB⟩
        case round =>
          obtain ⟨vb, k, lo, ps, rfl, rfl, rfl, hk, hP, hOk, hBk⟩ := hrel
          clear cx cy
          obtain ⟨cx, cy⟩ := HX.out _ hBk
          have hzk := hBk.size
          have hl0 : 0 ≤ lo ∧ lo ≤ 1114368 := ⟨by have := hP.out.2.2.2.1; omega, hP.out.2.2.2.2.2⟩
          obtain ⟨l1, l2⟩ := hl0
          have hpl : ps.length ≤ 600000 := by have := hP.out.2.2.2.2.1; omega
          have hal3 : (acc ++ ps).length + 1 ≤ 8796093022208 := by rw [List.length_append]; omega
          by_cases hkm : k < m
          · as_aux_lemma =>
              clear hO hB
              have hkm' : (k : Int) < (m : Int) := by omega
              have hkp : (0 : Int) ≤ (k : Int) := by omega
              have hkb : k < b.length := by rw [HN.out.2]; exact hkm
              obtain ⟨g2, o2, hA2, hr2⟩ := H2.out.resolve_left (fun e => by rw [e] at hkb; simp at hkb)
              subst hA2
              have hg2 : g2 < w.heap.size := hr2.lt (fun e => by rw [e] at hkb; simp at hkb)
              obtain ⟨p, q, hpq⟩ : ∃ p q : Int, rg b k = (p, q) := ⟨_, _, rfl⟩
              obtain ⟨cp, cq⟩ := (hr2.below hBk hg2) k hkb
              rw [hpq] at cp cq
              simp only at cp cq
              have hw := good_at HG.out.2 hkb
              rw [hpq] at hw
              have hw2 := (whole_iff _ _).1 hw
              have hq0 : 0 ≤ p ∧ p ≤ 1114367 ∧ 0 ≤ q ∧ q ≤ 1114367 := by omega
              obtain ⟨q1, q2, q3, q4⟩ := hq0
              have HPQ : Hid (rg b k = (p, q)) := hpq
              clear hw hw2 hpq hr2
              by_cases hs : q < lo
              · as_aux_lemma =>
                  have HN2 : Hid (WO b x y (k + 1) lo ps) := wo_skip HG.out.2 hkb HPQ.out hP.out (.inl hs)
                  clear hP
                  go_wp2
                  go_quiet (fail)
                  go_wp2
                  exact ⟨⟨_, k + 1, lo, ps, rfl, by go_num, rfl, by omega, HN2, hOk.far (fun _ _ => rfl), below_drewN hBk _⟩, by simp [intOf]; omega⟩
              · have hd1 : decide (q < lo) = false := by simpa using hs
                by_cases hs2 : y < p
                · as_aux_lemma =>
                    have HN2 : Hid (WO b x y (k + 1) lo ps) := wo_skip HG.out.2 hkb HPQ.out hP.out (.inr hs2)
                    clear hP
                    go_wp2
                    go_quiet (fail)
                    go_wp2
                    exact ⟨⟨_, k + 1, lo, ps, rfl, by go_num, rfl, by omega, HN2, hOk.far (fun _ _ => rfl), below_drewN hBk _⟩, by simp [intOf]; omega⟩
                · as_aux_lemma =>
                    have hd2 : decide (y < p) = false := by simpa using hs2
                    have HN2 : Hid (WO b x y (k + 1) (q + 1) (ps ++ [(lo, p - 1)])) := wo_take HG.out.2 hkb HPQ.out hP.out hs hs2
                    clear hP
                    go_wp2
                    go_quiet (fail)
                    obtain ⟨W5, hW5⟩ : ∃ W5, wr.drewN nq = W5 := ⟨_, rfl⟩
                    have hO5 : OwnR W5 w.heap.size vb (acc ++ ps) := by rw [← hW5]; exact hOk.far (fun _ _ => rfl)
                    have hB5 : Below w.heap.size w W5 := by rw [← hW5]; exact below_drewN hBk _
                    have cp5 : W5.cell? ⟨g2, o2 + k * 2, none⟩ = some (.int .i64 p) := by rw [← hW5]; exact cp
                    have cq5 : W5.cell? ⟨g2, o2 + k * 2 + 1, none⟩ = some (.int .i64 q) := by rw [← hW5]; exact cq
                    have hz5 := hB5.size
                    have HR2 : Hid (∀ W, Below w.heap.size w W → W.cell? ⟨g2, o2 + k * 2 + 1, none⟩ = some (.int .i64 q)) := fun W hW => (hW.cell (p := ⟨g2, _, none⟩) hg2).trans ((hB5.cell (p := ⟨g2, _, none⟩) hg2).symm.trans cq5)
                    rw [hW5]
                    clear cp cq hW5 hOk hBk cx cy
                    go_wp2_with (at_builtin; go_must (refine push_R rfl _ _ 22 rfl Tryd.underlying22 w.heap.size _ _ rfl (hO5.alloc _) _ _ lo (p - 1) rfl (new_cells W5 _ _ _ _ rfl).1 (new_cells W5 _ _ _ _ rfl).2 hal3 (by rw [World.size_alloc]; omega) ?_); intro v' w3 hO1 hgr hb1; have hB6 : Below w.heap.size w w3 := (hB5.alloc hz5 _).trans hb1; have cR := HR2.out _ hB6)
                    exact ⟨⟨_, k + 1, q + 1, ps ++ [(lo, p - 1)], rfl, by go_num, rfl, by omega, HN2, by rw [List.append_assoc] at hO1; exact hO1, hB6⟩, by simp [intOf]; omega⟩
          · as_aux_lemma =>
              have hkm2 : k = b.length := by rw [HN.out.2]; omega
              have HE : Hid (WA a b (i + 1) (acc ++ ps ++ [(lo, y)])) := by
                have h1 := hP.out
                rw [hkm2] at h1
                exact wa_step hia HXY.out HWA.out h1
              clear hP hO hB hkm2
              go_wp2_with (at_builtin; go_must (refine push_R rfl _ _ 22 rfl Tryd.underlying22 w.heap.size _ _ rfl (hOk.alloc _) _ _ lo y rfl (new_cells wr _ _ _ _ rfl).1 (new_cells wr _ _ _ _ rfl).2 hal3 (by rw [World.size_alloc]; omega) ?_); intro v' w3 hO1 hgr hb1)
              exact ⟨⟨_, i + 1, _, rfl, by go_num, by omega, HE, hO1, (hBk.alloc hzk _).trans hb1⟩, by simp [intOf]; omega⟩
    · as_aux_lemma =>
        have hin : i = a.length := by rw [HN.out.1]; omega
        have HE : Hid (∀ u, hasU acc u ↔ hasU a u ∧ ¬ hasU b u) := fun u => by
          have h1 := hW.out.1 u
          rw [hin, List.take_length] at h1
          exact h1
        obtain ⟨av, ac, hav, _⟩ := own_len hO
        subst hav
        have HRs : Hid (Calls Tryd.prog 49 #[.slice av acc.length ac] wr fun e w' => ∃ v r, e = .returned v ∧ Canon acc r ∧ OwnR w' wr.heap.size v r ∧ Below wr.heap.size wr w') := runited_any _ acc wr hO.rs (by omega)
        clear hW hin hO
        go_wp2_with fail
        refine HRs.out.mono ?_
        rintro e w5 ⟨v5, r, rfl, hC, hO5, hB5⟩
        have HF : Hid ((Good r ∧ ∀ u, hasU r u ↔ hasU a u ∧ ¬ hasU b u) ∧ OwnR w5 w.heap.size v5 r ∧ Below w.heap.size w w5) := by
          refine ⟨⟨hC.1, fun u => ?_⟩, hO5.le hz, hB.trans (hB5.mono hz)⟩
          rw [hC.2 u, HE.out u]
          exact ⟨fun k => k.2, fun k => ⟨good_units HG.out.1 k.1, k⟩⟩
        clear hC hO5 hB5
        go_wp2
        go_ret
        exact ⟨_, r, rfl, HF.out.1, HF.out.2.1, HF.out.2.2⟩
theorem rwithout_any (va vb : Value) (a b : List (Int × Int)) (w : World) (h1 : Rs w va a) (h2 : Rs w vb b) (ha : Good a) (hb : Good b) (hn : a.length ≤ 512) :
    Calls Tryd.prog 56 #[va, vb] w fun e w' => ∃ v r, e = .returned v ∧ (Good r ∧ ∀ u, hasU r u ↔ hasU a u ∧ ¬ hasU b u) ∧ OwnR w' w.heap.size v r ∧ Below w.heap.size w w' := by
  obtain ⟨A, c, rfl, _, h1⟩ := h1
  obtain ⟨B, d, rfl, _, h2⟩ := h2
  exact without_walk A B c d a b w h1 h2 ha hb hn (good_many hb)
end Go.Proofs
