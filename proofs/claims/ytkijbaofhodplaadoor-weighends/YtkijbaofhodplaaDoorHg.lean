/-
  The document's Check of a pass that may be.
-/
import Derived.RangeFuncNested
import Derived.RangeFuncBound
import Derived.RangeFuncCalls
import Derived.RangeFuncLeaves
import Derived.Shelf.Abstract
import Derived.Shelf.RegionOpen
import Derived.WalkKit
import Derived.WalkSpells
import Derived.WalkLawsBesides
import Derived.OwnWalkIn
import Derived.TacticsInMore
import Derived.LoopNIn
import Derived.LoopIn
import Derived.BigQuiet
import Derived.RegionIn
import Derived.Deep.QuietTactic
import Derived.Deep.RegionWith
import Derived.Lib.OthersKept
import Derived.Maps.AppendAt
import Derived.Lib.SmallJoins
import Derived.Shelf.SlSortCmp.QuietGrown
import Derived.Test.YtkijbaofhodplaaDoorHf
import Derived.Test.YtkijbaofhodplaaDoorQd
import Derived.Test.YtkijbaofhodplaaDoorGa
namespace Go.Proofs
open Go.RowKit Go.Shelf

set_option maxRecDepth 100000
attribute [local go_sem] Oper.semAt_some
attribute [local go_sem ↓] Go.wp_at_zero Go.wp_at_succ

theorem Fin.all {rs : List Rl} {st : St} {c : Int × Int} (hw : wgh rs = (some st, c)) : allE rs = (0, 0) := by
  have hF := wgh_fin hw
  unfold allE
  rw [if_neg (by have := hF.n; omega)]
  exact fstR_of (wgh_chk hw)
set_option maxHeartbeats 8000000 in
theorem rchk_ok (v : Value) (rs : List Rl) (st : St) (c : Int × Int) (w : World) (h : PsR w v rs) (hw : wgh rs = (some st, c)) : Calls Tryd.prog 9 #[.agg #[v]] w fun e w' => e = .returned (.tuple #[.int .i64 0, .int .i64 0]) ∧ Below w.heap.size w w' := by
  have hF := wgh_fin hw
  have HP : Hid (∀ V, Grown w V → PsR V v rs) := fun V hg => h.grown hg
  have HA : Hid (∀ V, Grown w V → Calls Tryd.prog 28 #[.agg #[v]] V fun e w' => e = .returned (.tuple #[.int .i64 0, .int .i64 0]) ∧ Grown V w') := fun V hg => by
    have := rall_any v rs V (h.grown hg)
    rw [Fin.all hw] at this; exact this
  have HL : Hid (∀ V, Grown w V → Calls Tryd.prog 30 #[v] V (LeQ V)) := fun V hg => least_any v rs st V (h.grown hg) hF
  have HF : Hid (Fin rs st) := hF
  obtain ⟨ra, rc, hv, hx1, hx2⟩ := h
  subst hv
  clear hx1 hx2
  obtain ⟨n, hN⟩ : ∃ n, rs.length = n := ⟨_, rfl⟩
  have HN : Hid (rs.length = n) := hN
  have hnI : (n : Int) ≤ 256 := by have := hF.n; omega
  rw [hN] at HP HA HL ⊢
  clear hN hF hw
  go_enter Tryd.func9, Tryd.ntmps9
  go_wp2_with fail
  obtain ⟨wA, hwA⟩ : ∃ wA, wA = w.alloc (.cells #[.slice ra n rc] 24) := ⟨_, rfl⟩
  have HGA : Hid (Grown w wA) := by show Grown _ _; rw [hwA]; exact (Grown.refl _).alloc _
  have cA : wA.cell? ⟨w.heap.size, 0, none⟩ = some (.slice ra n rc) := by rw [hwA]; simp
  try rw [← hwA]
  clear hwA
  refine (HA.out _ HGA.out).mono ?_
  rintro e w1 ⟨rfl, hG1⟩
  have HG1 : Hid (Grown w w1) := HGA.out.trans hG1
  have c1 := hG1.cellv cA
  clear hG1 cA HA HGA
  go_wp2
  go_loopw [6] (fun vi wr => ∃ k : Nat, vi = .int .i64 k ∧ k ≤ n ∧ Grown w1 wr) (fun vi _ => n - (intOf vi).toNat)
  case atStart => exact ⟨0, rfl, by omega, Grown.refl _⟩
  case round =>
    obtain ⟨k, rfl, hk, hB⟩ := hrel
    have hpos : (0 : Int) ≤ (k : Int) := by omega
    have c0 := hB.cellv c1
    by_cases hlt : k < n
    · as_aux_lemma =>
        have hlt' : (k : Int) < (n : Int) := by omega
        have hkl : k < rs.length := by rw [HN.out]; exact hlt
        obtain ⟨a', c', e', _, hP⟩ := HP.out wr (HG1.out.trans hB)
        obtain ⟨g, o, ha', hP2⟩ := hP.resolve_left (fun e => by rw [e] at hkl; simp at hkl)
        injection e' with e1 e2 e3
        clear e2 e3
        rw [ha'] at e1
        subst e1
        obtain ⟨av, kv, pv, rv, q0, q1, q2, q3, q4, q5, q6, hR⟩ := hP2 k hkl
        have hcp := HF.out.cp _ (List.getElem_mem hkl)
        have HC : Hid (∀ W, Grown wr W → Calls Tryd.prog 29 #[.agg #[.bool rs[k].bg, av, kv, pv, .bool rs[k].en, rv, .int .i64 rs[k].cu]] W fun e w' => e = .returned (.bool false) ∧ Grown W w') := fun W hW => by
          have := wrong_any rs[k] av kv pv rv W (hR.grown hW) (HF.out.ok _ (List.getElem_mem hkl))
          rw [hcp] at this; exact this
        obtain ⟨a1, a2, a3, rfl⟩ := hR.a.sl
        obtain ⟨b1, b2, b3, rfl⟩ := hR.k.sl
        obtain ⟨p1, p2, p3, rfl⟩ := hR.p.sl
        obtain ⟨r1, r2, r3, rfl⟩ := hR.r.sl
        generalize rs[k].bg = xb at *
        generalize rs[k].en = xe at *
        generalize rs[k].cu = xc at *
        clear hR hP hP2 ha' hcp
        go_wp2_with (go_at_call 29; refine (HC.out _ (Grown.refl _)).mono ?_; rintro e w' ⟨rfl, hb⟩)
        exact ⟨⟨k + 1, by go_num, by omega, hB.trans hb⟩, by simp [intOf]; omega⟩
    · as_aux_lemma =>
        have hge : ¬ (k : Int) < (n : Int) := by omega
        have HG2 : Hid (Grown w wr) := HG1.out.trans hB
        clear hB
        go_wp2_with fail
        refine (HL.out _ HG2.out).mono ?_
        rintro e w2 ⟨lv, wv, ⟨l1, l2, l3, rfl⟩, ⟨l4, l5, l6, rfl⟩, rfl, hB2⟩
        have c2 := cell_below c0 hB2 (Nat.le_refl _)
        have c3 := fun o => cell_up c2 o
        have HBF : Hid (Below w.heap.size w w2) := HG2.out.below.trans (hB2.mono HG2.out.size)
        have HBG : Hid (∀ V, Grown w2 V → Below w.heap.size w V) := fun V hg => HBF.out.trans (hg.below.mono HBF.out.size)
        clear hB2 c0 HL HP HG2 HG1 c1 HF HN
        go_wp2
        by_cases hn0 : n = 0
        · subst hn0
          go_loopw [9] (fun vi wr => vi = .int .i64 0 ∧ Grown w2 wr) (fun _ _ => 0)
          case atStart => exact ⟨rfl, by (repeat (first | exact Grown.refl _ | refine Grown.alloc ?_ _ | refine Grown.drew ?_ | refine Grown.drewN ?_ _ | refine Grown.quiet ?_ _ _))⟩
          case round =>
            obtain ⟨rfl, hg⟩ := hrel
            have c4 := hg.cellv c2
            go_wp2
            go_ret2
            exact ⟨rfl, HBG.out _ hg⟩
        · have hn1 : (0 : Int) < (n : Int) := by omega
          have hn2 : 0 < n := by omega
          go_loopw [9] (fun vi wr => vi = .int .i64 0 ∧ Grown w2 wr) (fun _ _ => 0)
          case atStart => exact ⟨rfl, by (repeat (first | exact Grown.refl _ | refine Grown.alloc ?_ _ | refine Grown.drew ?_ | refine Grown.drewN ?_ _ | refine Grown.quiet ?_ _ _))⟩
          case round =>
            obtain ⟨rfl, hg⟩ := hrel
            have c4 := hg.cellv c2
            go_wp2
            go_ret2
            exact ⟨rfl, HBG.out _ hg⟩
end Go.Proofs
