/-
  Whether a rule fits: the method, and Fits.
-/
import Derived.RangeFuncNested
import Derived.RangeFuncBound
import Derived.RangeFuncCalls
import Derived.RangeFuncLeaves
import Derived.Shelf.Abstract
import Derived.Shelf.RegionOpen
import Derived.WalkKit
import Derived.WalkSpells
import Derived.WalkLawsBesides
import Derived.OwnWalkIn
import Derived.TacticsInMore
import Derived.LoopNIn
import Derived.LoopIn
import Derived.BigQuiet
import Derived.RegionIn
import Derived.Deep.QuietTactic
import Derived.Deep.RegionWith
import Derived.Lib.OthersKept
import Derived.Maps.AppendAt
import Derived.Lib.SmallJoins
import Derived.Shelf.SlSortCmp.QuietGrown
import Derived.Test.YtpppcfppabghhaaDoorNc
namespace Go.Proofs
open Go.RowKit Go.Shelf

set_option maxRecDepth 100000
attribute [local go_sem] Oper.semAt_some
attribute [local go_sem ↓] Go.wp_at_zero Go.wp_at_succ

theorem cell_of {W : World} {B j : Nat} {cs : Array Value} {t : TypeId} {m : Nat × Nat} (h : W.heap[B]? = some (.cells cs t m)) : W.cell? ⟨B, j, none⟩ = cs[j]? := by
  simp [World.cell?, h]
theorem size_up (W : World) (o : Obj) : (W.alloc o).heap.size = W.heap.size + 1 := Array.size_push _
theorem cell_fst {W : World} {cs : Array Value} {t : TypeId} {j : Nat} {v : Value} (h : cs[j]? = some v) : (W.alloc (.cells cs t)).cell? ⟨W.heap.size, j, none⟩ = some v := (cell_of (heap_alloc_new _ _)).trans h
theorem cell_snd {W : World} {o : Obj} {cs : Array Value} {t : TypeId} {j : Nat} {v : Value} (h : cs[j]? = some v) : ((W.alloc o).alloc (.cells cs t)).cell? ⟨W.heap.size + 1, j, none⟩ = some v := by
  rw [← size_up W o]; exact cell_fst h
theorem cell_trd {W : World} {o o' : Obj} {cs : Array Value} {t : TypeId} {j : Nat} {v : Value} (h : cs[j]? = some v) : (((W.alloc o).alloc o').alloc (.cells cs t)).cell? ⟨W.heap.size + 1 + 1, j, none⟩ = some v := by
  rw [← size_up W o, ← size_up (W.alloc o) o']; exact cell_fst h
set_option maxHeartbeats 4000000 in
theorem fit_any (r : Rl) (av kv pv rv dv lv : Value) (d l : List Int) (w : World) (hT : Tab w) (h : RR w av kv pv rv r) (hO : Ok r) (hd : IR w dv d) (hl : IR w lv l) (hdn : d.length ≤ 9223372036854775807) :
    Calls Tryd.prog 24 #[.agg #[dv, lv], .agg #[.bool r.bg, av, kv, pv, .bool r.en, rv, .int .i64 r.cu]] w fun e w' => e = .returned (.bool (fitB r d l)) ∧ Grown w w' := by
  have hmf : ∀ (fn : Fn) (first cap : Array Value) (w : World), (Instr.makeFunc fn first cap).run Tryd.prog w = .ok (.func fn first cap) w := fun _ _ _ _ => rfl
  have HB : Hid (∀ V, Grown w V → Calls Tryd.prog 35 #[.func (.func 36) #[.agg #[dv, lv]] #[], .func (.func 37) #[.agg #[.bool r.bg, av, kv, pv, .bool r.en, rv, .int .i64 r.cu]] #[], .bool r.en] V fun e w' => e = .returned (.bool (stU l (r.key ++ r.post) r.en)) ∧ Grown V w') := fun V hg =>
    standsB_any _ _ l (r.key ++ r.post) r.en V (hT.grown hg) (behindU hd.sl (hl.grown hg)) (behindA (h.grown hg) hO) (by have := hO.k8; have := hO.p8; rw [List.length_append]; omega)
  have HA : Hid (∀ V, Grown w V → Calls Tryd.prog 35 #[.func (.func 38) #[.agg #[dv, lv]] #[], .func (.func 39) #[.agg #[.bool r.bg, av, kv, pv, .bool r.en, rv, .int .i64 r.cu]] #[], .bool r.bg] V fun e w' => e = .returned (.bool (stU d.reverse r.ante.reverse r.bg)) ∧ Grown V w') := fun V hg =>
    standsA_any _ _ d.reverse r.ante.reverse r.bg V (hT.grown hg) (aheadU hl.sl (hd.grown hg) hdn) (aheadA (h.grown hg) hO) (by have := hO.a8; rw [List.length_reverse]; omega)
  obtain ⟨d1, d2, d3, rfl⟩ := hd.sl
  obtain ⟨l1, l2, l3, rfl⟩ := hl.sl
  obtain ⟨a1, a2, a3, rfl⟩ := h.a.sl
  obtain ⟨k1, k2, k3, rfl⟩ := h.k.sl
  obtain ⟨p1, p2, p3, rfl⟩ := h.p.sl
  obtain ⟨r1, r2, r3, rfl⟩ := h.r.sl
  unfold fitB
  obtain ⟨B1, hB1⟩ : ∃ B1, stU l (r.key ++ r.post) r.en = B1 := ⟨_, rfl⟩
  obtain ⟨B2, hB2⟩ : ∃ B2, stU d.reverse r.ante.reverse r.bg = B2 := ⟨_, rfl⟩
  rw [hB1] at HB ⊢
  rw [hB2] at HA ⊢
  clear hB1 hB2 hd hl h hO hT hdn
  generalize r.bg = xb at HA HB ⊢
  generalize r.en = xe at HA HB ⊢
  generalize r.cu = xc at HA HB ⊢
  cases B1 with
  | false =>
    go_enter Tryd.func24, Tryd.ntmps24
    go_wp2_with (go_at_call 35; refine (HB.out _ ((((Grown.refl _).alloc _).alloc _).alloc _)).mono ?_; rintro e w1 ⟨rfl, hg1⟩)
    go_ret
    exact ⟨rfl, ((((Grown.refl _).alloc _).alloc _).alloc _).trans hg1⟩
  | true =>
    have HG : Hid (∀ o1 o2 o3 W, Grown (((w.alloc o1).alloc o2).alloc o3) W → Grown w W) := fun o1 o2 o3 W hW => ((((Grown.refl _).alloc _).alloc _).alloc _).trans hW
    go_enter Tryd.func24, Tryd.ntmps24
    go_wp2_with fail
    refine (HB.out _ ((((Grown.refl _).alloc _).alloc _).alloc _)).mono ?_
    rintro e w1 ⟨rfl, hg1⟩
    have c0 := hg1.cellv (a := ⟨w.heap.size, 0, none⟩) (v := .slice d1 d2 d3) (cell_up (cell_up (cell_fst rfl) _) _)
    have c1 := hg1.cellv (a := ⟨w.heap.size, 1, none⟩) (v := .slice l1 l2 l3) (cell_up (cell_up (cell_fst rfl) _) _)
    have c2 := hg1.cellv (a := ⟨w.heap.size + 1, 0, none⟩) (v := .bool xb) (cell_up (cell_snd rfl) _)
    have q0 := hg1.cellv (a := ⟨w.heap.size + 1 + 1, 0, none⟩) (v := .bool xb) (cell_trd rfl)
    have q1 := hg1.cellv (a := ⟨w.heap.size + 1 + 1, 1, none⟩) (v := .slice a1 a2 a3) (cell_trd rfl)
    have q2 := hg1.cellv (a := ⟨w.heap.size + 1 + 1, 2, none⟩) (v := .slice k1 k2 k3) (cell_trd rfl)
    have q3 := hg1.cellv (a := ⟨w.heap.size + 1 + 1, 3, none⟩) (v := .slice p1 p2 p3) (cell_trd rfl)
    have q4 := hg1.cellv (a := ⟨w.heap.size + 1 + 1, 4, none⟩) (v := .bool xe) (cell_trd rfl)
    have q5 := hg1.cellv (a := ⟨w.heap.size + 1 + 1, 5, none⟩) (v := .slice r1 r2 r3) (cell_trd rfl)
    have q6 := hg1.cellv (a := ⟨w.heap.size + 1 + 1, 6, none⟩) (v := .int .i64 xc) (cell_trd rfl)
    have HG1 := Hid.mk' (HG.out _ _ _ _ hg1)
    clear hg1 HG
    go_wp2_with (go_at_call 35; refine (HA.out _ HG1.out).mono ?_; rintro e w2 ⟨rfl, hg2⟩)
    go_ret
    exact ⟨rfl, HG1.out.trans hg2⟩
end Go.Proofs
