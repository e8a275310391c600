/-
  The document's All.
-/
import Derived.RangeFuncNested
import Derived.RangeFuncBound
import Derived.RangeFuncCalls
import Derived.RangeFuncLeaves
import Derived.Shelf.Abstract
import Derived.Shelf.RegionOpen
import Derived.WalkKit
import Derived.WalkSpells
import Derived.WalkLawsBesides
import Derived.OwnWalkIn
import Derived.TacticsInMore
import Derived.LoopNIn
import Derived.LoopIn
import Derived.BigQuiet
import Derived.RegionIn
import Derived.Deep.QuietTactic
import Derived.Deep.RegionWith
import Derived.Lib.OthersKept
import Derived.Maps.AppendAt
import Derived.Lib.SmallJoins
import Derived.Shelf.SlSortCmp.QuietGrown
import Derived.Test.YtpppcfppabghhaaDoorQb
import Derived.Test.YtpppcfppabghhaaDoorQc
namespace Go.Proofs
open Go.RowKit Go.Shelf

set_option maxRecDepth 100000
attribute [local go_sem] Oper.semAt_some
attribute [local go_sem ↓] Go.wp_at_zero Go.wp_at_succ
set_option maxHeartbeats 4000000 in
theorem rall_any (v : Value) (rs : List Rl) (w : World) (h : PsR w v rs) : Calls Tryd.prog 25 #[.agg #[v]] w fun e w' => e = .returned (.tuple #[.int .i64 (allE rs).1, .int .i64 (allE rs).2]) ∧ Grown w w' := by
  have HP : Hid (∀ W, Grown w W → PsR W v rs) := fun W hW => h.grown hW
  obtain ⟨ra, rc, rfl, _, _⟩ := h
  obtain ⟨n, hn⟩ : ∃ n, rs.length = n := ⟨_, rfl⟩
  have HN : Hid (rs.length = n) := hn
  rw [hn] at HP ⊢
  unfold allE
  rw [hn]
  clear hn
  by_cases h1 : 256 < n
  · rw [if_pos h1]
    have h1' : (256 : Int) < (n : Int) := by omega
    go_enter Tryd.func25, Tryd.ntmps25
    go_wp2
    go_ret2
    exact ⟨rfl, (Grown.refl _).alloc _⟩
  · rw [if_neg h1]
    have h1' : ¬ (256 : Int) < (n : Int) := by omega
    obtain ⟨E, hE⟩ : ∃ E, fstR rs 0 = E := ⟨_, rfl⟩
    have HE : Hid (fstR rs 0 = E) := hE
    rw [hE]
    clear hE
    obtain ⟨E1, E2⟩ := E
    simp only
    go_enter Tryd.func25, Tryd.ntmps25
    go_wp2
    go_loopw [4] (fun vi wr => ∃ k : Nat, vi = .int .i64 k ∧ k ≤ n ∧ Hid (fstR (rs.drop k) k = (E1, E2)) ∧ Grown (w.alloc (.cells #[.slice ra n rc] 24)) wr) (fun vi _ => n - (intOf vi).toNat)
    case atStart => exact ⟨0, rfl, by omega, HE, Grown.refl _⟩
    case round =>
      obtain ⟨k, rfl, hk, hF, hB⟩ := hrel
      have hpos : (0 : Int) ≤ (k : Int) := by omega
      have hkI : (k : Int) ≤ 256 := by omega
      have c0 := hB.cellv (a := ⟨w.heap.size, 0, none⟩) (v := .slice ra n rc) (by simp)
      have hG0 : Grown w wr := ((Grown.refl w).alloc _).trans hB
      by_cases hlt : k < n
      · have hlt' : (k : Int) < (n : Int) := by omega
        have hkl : k < rs.length := by rw [HN.out]; exact hlt
        obtain ⟨a', c', e', _, hP⟩ := HP.out wr hG0
        obtain ⟨g, o, ha', hP2⟩ := hP.resolve_left (fun e => by rw [e] at hkl; simp at hkl)
        injection e' with e1 e2 e3
        clear e2 e3
        rw [ha'] at e1
        subst e1
        obtain ⟨av, kv, pv, rv, q0, q1, q2, q3, q4, q5, q6, hR⟩ := hP2 k hkl
        have HC : Hid (∀ W, Grown wr W → Calls Tryd.prog 27 #[.agg #[.bool rs[k].bg, av, kv, pv, .bool rs[k].en, rv, .int .i64 rs[k].cu]] W fun e w' => e = .returned (.int .i64 (chk rs[k])) ∧ Grown W w') := fun W hW => by
          have hg : Grown w W := hG0.trans hW
          exact rcheck_any rs[k] av kv pv rv W (hR.grown hW)
        obtain ⟨a1, a2, a3, rfl⟩ := hR.a.sl
        obtain ⟨b1, b2, b3, rfl⟩ := hR.k.sl
        obtain ⟨p1, p2, p3, rfl⟩ := hR.p.sl
        obtain ⟨r1, r2, r3, rfl⟩ := hR.r.sl
        have hF2 := hF.out
        rw [drop_rl hkl] at hF2
        unfold fstR at hF2
        generalize hch : chk rs[k] = ch at HC hF2
        generalize rs[k].bg = xb at *
        generalize rs[k].en = xe at *
        generalize rs[k].cu = xc at *
        by_cases hq : ch = 0
        · have HF2 : Hid (fstR (rs.drop (k + 1)) (k + 1) = (E1, E2)) := by rw [if_pos hq] at hF2; exact hF2
          subst hq
          clear hF2 hF hch hR hP hP2 ha'
          go_wp2_with (go_at_call 27; refine (HC.out _ (Grown.refl _)).mono ?_; rintro e w' ⟨rfl, hb⟩)
          exact ⟨⟨k + 1, by go_num, by omega, HF2, hB.trans hb⟩, by simp [intOf]; omega⟩
        · rw [if_neg hq] at hF2
          injection hF2 with f1 f2
          subst f1 f2
          have hq' : (ch != 0) = true := by simpa using hq
          clear hF hch hR hP hP2 ha'
          go_wp2_with (go_at_call 27; refine (HC.out _ (Grown.refl _)).mono ?_; rintro e w' ⟨rfl, hb⟩)
          go_ret2
          exact ⟨rfl, ((Grown.refl w).alloc _).trans (hB.trans hb)⟩
      · have hge : ¬ (k : Int) < (n : Int) := by omega
        have hF2 := hF.out
        rw [List.drop_eq_nil_of_le (by rw [HN.out]; omega)] at hF2
        unfold fstR at hF2
        injection hF2 with f1 f2
        subst f1 f2
        clear hF
        go_wp2
        go_ret2
        exact ⟨rfl, hG0⟩
end Go.Proofs
