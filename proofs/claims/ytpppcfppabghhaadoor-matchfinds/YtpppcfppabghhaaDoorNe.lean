/-
  Fits, of any rule; Find.
-/
import Derived.RangeFuncNested
import Derived.RangeFuncBound
import Derived.RangeFuncCalls
import Derived.RangeFuncLeaves
import Derived.Shelf.Abstract
import Derived.Shelf.RegionOpen
import Derived.WalkKit
import Derived.WalkSpells
import Derived.WalkLawsBesides
import Derived.OwnWalkIn
import Derived.TacticsInMore
import Derived.LoopNIn
import Derived.LoopIn
import Derived.BigQuiet
import Derived.RegionIn
import Derived.Deep.QuietTactic
import Derived.Deep.RegionWith
import Derived.Lib.OthersKept
import Derived.Maps.AppendAt
import Derived.Lib.SmallJoins
import Derived.Shelf.SlSortCmp.QuietGrown
import Derived.Test.YtpppcfppabghhaaDoorNd
namespace Go.Proofs
open Go.RowKit Go.Shelf

set_option maxRecDepth 100000
attribute [local go_sem] Oper.semAt_some
attribute [local go_sem ↓] Go.wp_at_zero Go.wp_at_succ

set_option maxHeartbeats 4000000 in
theorem fits_any (r : Rl) (av kv pv rv dv lv : Value) (d l : List Int) (w : World) (hT : Tab w) (h : RR w av kv pv rv r) (hd : IR w dv d) (hl : IR w lv l) (hdn : d.length ≤ 9223372036854775807) :
    Calls Tryd.prog 13 #[.agg #[.bool r.bg, av, kv, pv, .bool r.en, rv, .int .i64 r.cu], dv, lv] w fun e w' => e = .returned (.bool (fitsB r d l)) ∧ Grown w w' := by
  have HC : Hid (∀ V, Grown w V → Calls Tryd.prog 20 #[.agg #[.bool r.bg, av, kv, pv, .bool r.en, rv, .int .i64 r.cu]] V fun e w' => e = .returned (.int .i64 (chk r)) ∧ Grown V w') := fun V hg => check_any r av kv pv rv V (hT.grown hg) (h.grown hg)
  have HF : Hid (∀ V, Grown w V → chk r = 0 → Calls Tryd.prog 24 #[.agg #[dv, lv], .agg #[.bool r.bg, av, kv, pv, .bool r.en, rv, .int .i64 r.cu]] V fun e w' => e = .returned (.bool (fitB r d l)) ∧ Grown V w') := fun V hg h0 => fit_any r av kv pv rv dv lv d l V (hT.grown hg) (h.grown hg) (chk_ok h0) (hd.grown hg) (hl.grown hg) hdn
  obtain ⟨d1, d2, d3, rfl⟩ := hd.sl
  obtain ⟨l1, l2, l3, rfl⟩ := hl.sl
  obtain ⟨a1, a2, a3, rfl⟩ := h.a.sl
  obtain ⟨k1, k2, k3, rfl⟩ := h.k.sl
  obtain ⟨p1, p2, p3, rfl⟩ := h.p.sl
  obtain ⟨r1, r2, r3, rfl⟩ := h.r.sl
  unfold fitsB
  obtain ⟨c, hc⟩ : ∃ c, chk r = c := ⟨_, rfl⟩
  obtain ⟨B, hB⟩ : ∃ B, fitB r d l = B := ⟨_, rfl⟩
  rw [hc] at HC HF ⊢
  rw [hB] at HF ⊢
  clear hc hB hd hl h hT hdn
  generalize r.bg = xb at HC HF ⊢
  generalize r.en = xe at HC HF ⊢
  generalize r.cu = xc at HC HF ⊢
  by_cases h0 : c = 0
  · subst h0
    have HX : Hid (∀ o W, Grown (w.alloc o) W → Grown w W) := fun o W hW => ((Grown.refl _).alloc _).trans hW
    go_enter Tryd.func13, Tryd.ntmps13
    go_wp2_with fail
    refine (HC.out _ ((Grown.refl _).alloc _)).mono ?_
    rintro e w1 ⟨rfl, hg1⟩
    have q0 := hg1.cellv (a := ⟨w.heap.size, 0, none⟩) (v := .bool xb) (cell_fst rfl)
    have q1 := hg1.cellv (a := ⟨w.heap.size, 1, none⟩) (v := .slice a1 a2 a3) (cell_fst rfl)
    have q2 := hg1.cellv (a := ⟨w.heap.size, 2, none⟩) (v := .slice k1 k2 k3) (cell_fst rfl)
    have q3 := hg1.cellv (a := ⟨w.heap.size, 3, none⟩) (v := .slice p1 p2 p3) (cell_fst rfl)
    have q4 := hg1.cellv (a := ⟨w.heap.size, 4, none⟩) (v := .bool xe) (cell_fst rfl)
    have q5 := hg1.cellv (a := ⟨w.heap.size, 5, none⟩) (v := .slice r1 r2 r3) (cell_fst rfl)
    have q6 := hg1.cellv (a := ⟨w.heap.size, 6, none⟩) (v := .int .i64 xc) (cell_fst rfl)
    have HG : Hid (Grown w w1) := HX.out _ _ hg1
    clear hg1 HC HX
    go_wp2_with (go_at_call 24; refine (HF.out _ HG.out (by trivial)).mono ?_; rintro e w2 ⟨rfl, hg2⟩)
    go_ret
    exact ⟨by simp, HG.out.trans hg2⟩
  · have hf : (c == 0) = false := by simpa using h0
    have hd : decide (c = 0) = false := by simpa using h0
    rw [hd, Bool.false_and]
    clear hd HF
    go_enter Tryd.func13, Tryd.ntmps13
    go_wp2_with (go_at_call 20; refine (HC.out _ ((Grown.refl _).alloc _)).mono ?_; rintro e w1 ⟨rfl, hg1⟩)
    go_ret
    exact ⟨rfl, ((Grown.refl _).alloc _).trans hg1⟩
set_option maxHeartbeats 8000000 in
theorem find_any9 (v dv lv : Value) (rs : List Rl) (d l : List Int) (w : World) (hT : Tab w) (h : PsR w v rs) (hd : IR w dv d) (hl : IR w lv l) (hdn : d.length ≤ 9223372036854775807) :
    Calls Tryd.prog 11 #[.agg #[v], dv, lv] w fun e w' => e = .returned (.int .i64 (fdF rs d l)) ∧ Grown w w' := by
  have HA : Hid (∀ V, Grown w V → Calls Tryd.prog 19 #[.agg #[v]] V fun e w' => e = .returned (.tuple #[.int .i64 (allE rs).1, .int .i64 (allE rs).2]) ∧ Grown V w') := fun V hg => all_any v rs V (hT.grown hg) (h.grown hg)
  have HP : Hid (∀ V, Grown w V → PsR V v rs) := fun V hg => h.grown hg
  have HS : Hid (∀ (V : World) (r : Rl) (av kv pv rv : Value), Grown w V → RR V av kv pv rv r → Ok r → Calls Tryd.prog 24 #[.agg #[dv, lv], .agg #[.bool r.bg, av, kv, pv, .bool r.en, rv, .int .i64 r.cu]] V fun e w' => e = .returned (.bool (fitB r d l)) ∧ Grown V w') := fun V r av kv pv rv hg hr ho => fit_any r av kv pv rv dv lv d l V (hT.grown hg) hr ho (hd.grown hg) (hl.grown hg) hdn
  obtain ⟨d1, d2, d3, rfl⟩ := hd.sl
  obtain ⟨l1, l2, l3, rfl⟩ := hl.sl
  obtain ⟨ra, rc, hv, hx1, hx2⟩ := h
  subst hv
  clear hx1 hx2 hd hl hdn hT
  obtain ⟨n, hN⟩ : ∃ n, rs.length = n := ⟨_, rfl⟩
  have HN : Hid (rs.length = n) := hN
  obtain ⟨R, hR⟩ : ∃ R, fdF rs d l = R := ⟨_, rfl⟩
  have HR : Hid (fdF rs d l = R) := hR
  have HO : Hid ((allE rs).2 = 0 → rs.length ≤ 256 ∧ ∀ r ∈ rs, chk r = 0) := allE_chk
  rw [hR]
  rw [hN] at HA HP ⊢
  have hUF : fdF rs d l = if (allE rs).2 = 0 then (fdK rs d l rs.length).1 else -1 := rfl
  rw [hR, hN] at hUF
  generalize (allE rs).1 = E1 at HA
  obtain ⟨E2, hE2⟩ : ∃ E2, (allE rs).2 = E2 := ⟨_, rfl⟩
  rw [hE2] at HA HO hUF
  clear hN hR hE2
  by_cases h0 : E2 = 0
  · subst h0
    rw [if_pos rfl] at hUF
    have HUF := Hid.mk' hUF
    have hO := HO.out rfl
    rw [HN.out] at hO
    have hnI : (n : Int) ≤ 256 := by omega
    have HOk : Hid (∀ r ∈ rs, Ok r) := fun r hr => chk_ok (hO.2 r hr)
    clear hO hUF HO HR
    go_enter Tryd.func11, Tryd.ntmps11
    go_wp2_with fail
    refine (HA.out _ ((Grown.refl _).alloc _)).mono ?_
    rintro e w1 ⟨rfl, hg1⟩
    have q0 := hg1.cellv (a := ⟨w.heap.size, 0, none⟩) (v := .slice ra n rc) (cell_fst rfl)
    have HG1 : Hid (Grown w w1) := ((Grown.refl _).alloc _).trans hg1
    clear hg1 HA
    have q1 : ∀ o, (w1.alloc o).cell? ⟨w.heap.size, 0, none⟩ = some (.slice ra n rc) := fun o => cell_up q0 o
    clear q0
    go_wp2_with fail
    obtain ⟨wA, hwA⟩ : ∃ wA, wA = w1.alloc (.cells #[.slice d1 d2 d3, .slice l1 l2 l3] 53) := ⟨_, rfl⟩
    have HGA : Hid (Grown w wA) := by show Grown _ _; rw [hwA]; exact HG1.out.alloc _
    have g0 : wA.cell? ⟨w1.heap.size, 0, none⟩ = some (.slice d1 d2 d3) := by rw [hwA]; exact cell_fst rfl
    have g1 : wA.cell? ⟨w1.heap.size, 1, none⟩ = some (.slice l1 l2 l3) := by rw [hwA]; exact cell_fst rfl
    try rw [← hwA]
    clear hwA q1 HG1
    obtain ⟨B, hB⟩ : ∃ B, w1.heap.size = B := ⟨_, rfl⟩
    rw [hB] at g0 g1 ⊢
    clear hB
    go_loopw [10, 11, 27] (fun vb vm vi wr => ∃ (k : Nat) (b : Int) (m : Nat), vi = .int .i64 k ∧ vb = .int .i64 b ∧ vm = .int .i64 m ∧ k ≤ n ∧ Hid (fdK rs d l k = (b, m)) ∧ Grown wA wr) (fun _ _ vi _ => n - (intOf vi).toNat)
    case atStart => exact ⟨0, -1, 0, rfl, rfl, rfl, by omega, rfl, Grown.refl _⟩
    case round =>
      obtain ⟨k, b, m, rfl, rfl, rfl, hk, HB, hG⟩ := hrel
      have hk0 : (0 : Int) ≤ (k : Int) := by omega
      by_cases hlt : k < n
      · have hlt' : (k : Int) < (n : Int) := by omega
        have hkl : k < rs.length := by rw [HN.out]; exact hlt
        obtain ⟨a', c', e', _, hP⟩ := HP.out wr (HGA.out.trans hG)
        obtain ⟨g, o, ha', hP2⟩ := hP.resolve_left (fun e => by rw [e] at hkl; simp at hkl)
        injection e' with e1 e2 e3
        clear e2 e3
        rw [ha'] at e1
        subst e1
        obtain ⟨av, kv, pv, rv, q0, q1, q2, q3, q4, q5, q6, hR⟩ := hP2 k hkl
        have HC0 := fun (V : World) (hg : Grown wr V) => HS.out V rs[k] av kv pv rv (HGA.out.trans (hG.trans hg)) (hR.grown hg) (HOk.out _ (List.getElem_mem hkl))
        have hnx := fdK_succ d l hkl
        rw [HB.out] at hnx
        simp only at hnx
        obtain ⟨S, hS⟩ : ∃ S, fitB rs[k] d l = S := ⟨_, rfl⟩
        rw [hS] at HC0 hnx
        have HC : Hid (∀ V, Grown wr V → Calls Tryd.prog 24 #[.agg #[.slice d1 d2 d3, .slice l1 l2 l3], .agg #[.bool rs[k].bg, av, kv, pv, .bool rs[k].en, rv, .int .i64 rs[k].cu]] V fun e w' => e = .returned (.bool S) ∧ Grown V w') := HC0
        obtain ⟨ka, kc, hkv, hx1, hx2⟩ := hR.k
        clear hx1 hx2
        obtain ⟨kn, hkn⟩ : ∃ kn, rs[k].key.length = kn := ⟨_, rfl⟩
        rw [hkn] at hkv hnx
        subst hkv
        obtain ⟨a1, a2, a3, rfl⟩ := hR.a.sl
        obtain ⟨p1, p2, p3, rfl⟩ := hR.p.sl
        obtain ⟨r1, r2, r3, rfl⟩ := hR.r.sl
        generalize rs[k].bg = xb at q0 HC
        generalize rs[k].en = xe at q4 HC
        generalize rs[k].cu = xc at q6 HC
        have HNX := Hid.mk' hnx
        have gg0 : ∀ o', (wr.alloc o').cell? ⟨B, 0, none⟩ = some (.slice d1 d2 d3) := fun o' => cell_up (hG.cellv g0) o'
        have gg1 : ∀ o', (wr.alloc o').cell? ⟨B, 1, none⟩ = some (.slice l1 l2 l3) := fun o' => cell_up (hG.cellv g1) o'
        clear HC0 hR hP hP2 ha' hS hnx hkn
        by_cases hgt : m < kn
        · have hgtI : (m : Int) < (kn : Int) := by omega
          cases S with
          | false =>
            as_aux_lemma =>
              have HX : Hid (fdK rs d l (k + 1) = (b, m)) := by rw [HNX.out]; simp [Hid]
              clear HNX HB
              go_wp2_with (go_at_call 24; refine (HC.out _ ((Grown.refl _).alloc _)).mono ?_; rintro e w2 ⟨rfl, hg2⟩)
              exact ⟨⟨k + 1, b, m, by go_num, rfl, rfl, by omega, HX, (hG.alloc _).trans hg2⟩, by simp [intOf]; omega⟩
          | true =>
              have HX : Hid (fdK rs d l (k + 1) = ((k : Int), kn)) := by rw [HNX.out]; simp [Hid, hgt]
              clear HNX HB
              go_wp2_with fail
              refine (HC.out _ ((Grown.refl _).alloc _)).mono ?_
              rintro e w2 ⟨rfl, hg2⟩
              have z2 := hg2.cellv (a := ⟨wr.heap.size, 2, none⟩) (v := .slice ka kn kc) (cell_fst rfl)
              have HG2 : Hid (Grown wA w2) := (hG.alloc _).trans hg2
              have z3 := fun q os => ((Grown.refl w2).quiet q os).cellv z2
              clear hg2 hG z2
              go_wp2
              refine wp_region_quiet_grown mixed (by kernel_rfl) ?_
              repeat (go_big_quiet_step (fail))
              refine wpQuiet_nil ?_
              intro _ hw'
              obtain ⟨⟨nq, osq⟩, hw''⟩ := hw'
              subst hw''
              go_wp2
              exact ⟨⟨k + 1, k, kn, by go_num, rfl, rfl, by omega, HX, HG2.out.quiet _ _⟩, by simp [intOf]; omega⟩
        · as_aux_lemma =>
            have hgtI : ¬ (m : Int) < (kn : Int) := by omega
            have HX : Hid (fdK rs d l (k + 1) = (b, m)) := by rw [HNX.out, if_neg (by omega)]; rfl
            clear HNX HB
            go_wp2
            exact ⟨⟨k + 1, b, m, by go_num, rfl, rfl, by omega, HX, hG.alloc _⟩, by simp [intOf]; omega⟩
      · as_aux_lemma =>
          have hge : ¬ (k : Int) < (n : Int) := by omega
          have HQ : Hid (b = R) := by
            have hkn : k = n := by omega
            have := HB.out
            rw [hkn] at this
            show b = R
            rw [HUF.out, this]
          clear HB
          go_wp2
          go_ret
          exact ⟨by rw [HQ.out]; rfl, HGA.out.trans hG⟩
  · rw [if_neg h0] at hUF
    subst hUF
    have h1 : (E2 != 0) = true := by simpa using h0
    clear HO HR HP HS
    go_enter Tryd.func11, Tryd.ntmps11
    go_wp2_with (go_at_call 19; refine (HA.out _ ((Grown.refl _).alloc _)).mono ?_; rintro e w1 ⟨rfl, hg1⟩)
    go_ret
    exact ⟨rfl, ((Grown.refl _).alloc _).trans hg1⟩
end Go.Proofs
