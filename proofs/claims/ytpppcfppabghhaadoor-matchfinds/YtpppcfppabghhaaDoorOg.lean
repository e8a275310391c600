/-
  MatchFinds: its law.
-/
import Derived.RangeFuncNested
import Derived.RangeFuncBound
import Derived.RangeFuncCalls
import Derived.RangeFuncLeaves
import Derived.Shelf.Abstract
import Derived.Shelf.RegionOpen
import Derived.WalkKit
import Derived.WalkSpells
import Derived.WalkLawsBesides
import Derived.OwnWalkIn
import Derived.TacticsInMore
import Derived.LoopNIn
import Derived.LoopIn
import Derived.BigQuiet
import Derived.RegionIn
import Derived.Deep.QuietTactic
import Derived.Deep.RegionWith
import Derived.Lib.OthersKept
import Derived.Maps.AppendAt
import Derived.Lib.SmallJoins
import Derived.Shelf.SlSortCmp.QuietGrown
import Derived.Test.YtpppcfppabghhaaDoorOf
import Derived.Test.YtpppcfppabghhaaDoorOa
import Derived.Test.YtpppcfppabghhaaDoorGi
namespace Go.Proofs
open Go.RowKit Go.Shelf

set_option maxRecDepth 100000
attribute [local go_sem] Oper.semAt_some
attribute [local go_sem ↓] Go.wp_at_zero Go.wp_at_succ

theorem psr_row {w : World} {ra : Option Addr} {n rc : Nat} {rs : List Rl} (h : PsR w (.slice ra n rc) rs) (h0 : rs ≠ []) : ∃ g o, ra = some ⟨g, o, none⟩ ∧ ∀ (j : Nat) (hj : j < rs.length), RAt w g (o + j * 7) rs[j] := by
  obtain ⟨a', c', e', _, hP⟩ := h
  obtain ⟨g, o, ha', hP2⟩ := hP.resolve_left h0
  injection e' with e1 e2 e3
  exact ⟨g, o, e1.trans ha', hP2⟩
theorem psr_leng {w : World} {ra : Option Addr} {n rc : Nat} {rs : List Rl} (h : PsR w (.slice ra n rc) rs) : n = rs.length := by
  obtain ⟨a', c', e', _, hP⟩ := h
  injection e' with e1 e2 e3
theorem rc_blk {W : World} {B : Nat} {r : Rl} {a k p q : Value} (h : W.heap[B]? = some (.cells (rcA r a k p q) 28 (0, 0))) : RC W B r.bg a k p r.en q r.cu := by
  constructor <;> (simp only [World.cell?, h]; rfl)
/-- what the operations of the last row leave -/
def I18 (pv : Value) (xs : List RV) (dv lv : Value) (F : Int) (n : Nat) : Nat → Value → World → Prop
  | 0, v, _ | 5, v, _ => v = .agg #[pv]
  | 1, v, w => ∃ ov, v = .agg #[ov] ∧ LPs w n ov pv xs
  | 2, v, _ | 6, v, _ => v = dv
  | 3, v, _ | 7, v, _ => v = lv
  | 4, v, _ | 8, v, _ => v = .int .i64 F
  | 9, v, _ | 10, v, _ => v = .bool true
  | _, _, _ => True
theorem I18.ext {pv : Value} {xs : List RV} {dv lv : Value} {F : Int} {n : Nat} (i : Nat) (v : Value) (w w' : World) (h : I18 pv xs dv lv F n i v w) (he : Ext w w') : I18 pv xs dv lv F n i v w' := by
  by_cases e : i = 1
  · subst e
    obtain ⟨ov, h1, h2⟩ := h
    exact ⟨ov, h1, h2.below he (Nat.le_refl _)⟩
  · unfold I18 at h ⊢
    split at h <;> first | exact h | exact absurd rfl e | trivial
theorem g9_start {w : World} {pv : Value} {xs : List RV} {x : RI} {dv lv : Value} {d l : List Int} (hT : Tab w) (hp : PsV w pv xs) (hx : x.In w) (hd : IR w dv d) (hl : IR w lv l) : G9 w pv xs x dv lv d l ((w.alloc (.cells #[pv] 24)).alloc (.cells #[.bool x.r.bg, x.av, x.kv, x.pv, .bool x.r.en, x.rv, .int .i64 x.r.cu] 28)) := by
  have hg := ((Grown.refl w).alloc (.cells #[pv] 24)).alloc (.cells #[.bool x.r.bg, x.av, x.kv, x.pv, .bool x.r.en, x.rv, .int .i64 x.r.cu] 28)
  refine ⟨hg.below, hT.grown hg, hp.grown hg, hx.below hg.below (Nat.le_refl _), hd.grown hg, hl.grown hg, alloc_up (heap_alloc_new _ _), ?_⟩
  have := rc_new (w.alloc (.cells #[pv] 24)) x.r.bg x.av x.kv x.pv x.r.en x.rv x.r.cu
  rwa [size_up] at this
set_option maxHeartbeats 16000000 in
theorem findsLaw_any (pv : Value) (xs : List RV) (x : RI) (dv lv : Value) (d l : List Int) (w : World) (hT : Tab w) (hp : PsV w pv xs) (hx : x.In w) (hd : IR w dv d) (hl : IR w lv l) (hdo : dv = .slice none 0 0 ∨ ∃ ad n c, dv = .slice (some ad) n c) (hlo : lv = .slice none 0 0 ∨ ∃ ad n c, lv = .slice (some ad) n c) (sx : Sm x.r) (hn : xs.length ≤ 1048576) (sp : ∀ y ∈ xs, Sm y.r) (hdn : d.length ≤ 1048576) (hln : l.length ≤ 1048576) :
    Calls Tryd.prog 3 #[.agg #[pv], .agg #[.bool x.r.bg, x.av, x.kv, x.pv, .bool x.r.en, x.rv, .int .i64 x.r.cu], dv, lv] w fun e w' => e = .returned (.bool true) ∧ Below w.heap.size w w' := by
  have P0 : Hid (G9 w pv xs x dv lv d l ((w.alloc (.cells #[pv] 24)).alloc (.cells #[.bool x.r.bg, x.av, x.kv, x.pv, .bool x.r.en, x.rv, .int .i64 x.r.cu] 28))) := g9_start hT hp hx hd hl
  have HSh : Hid (∀ W, Hid (G9 w pv xs x dv lv d l W) → Calls Tryd.prog 7 #[] W fun e w' => e = .returned (.bool true) ∧ Hid (G9 w pv xs x dv lv d l w')) := fun W p => (shown_any W p.out.tab).mono fun e w' ⟨h1, h2⟩ => ⟨h1, p.out.below h2.below (Nat.le_refl _)⟩
  have SX : Hid (Sm x.r) := sx
  have SP : Hid (xs.length ≤ 1048576 ∧ ∀ y ∈ xs, Sm y.r) := ⟨hn, sp⟩
  have SD : Hid (d.length ≤ 1048576 ∧ (dv = .slice none 0 0 ∨ ∃ ad n c, dv = .slice (some ad) n c)) := ⟨hdn, hdo⟩
  have SL : Hid (l.length ≤ 1048576 ∧ (lv = .slice none 0 0 ∨ ∃ ad n c, lv = .slice (some ad) n c)) := ⟨hln, hlo⟩
  obtain ⟨pa, pn, pc, hpv⟩ : ∃ a n c, pv = .slice a n c := by obtain ⟨a, c, e, _⟩ := hp.cell; exact ⟨a, _, c, e⟩
  subst hpv
  obtain ⟨d1, d2, d3, rfl⟩ := hd.sl
  obtain ⟨l1, l2, l3, rfl⟩ := hl.sl
  clear hT hx hp sx hn sp hd hl hdo hlo hdn hln
  go_enter Tryd.func3, Tryd.ntmps3
  go_wp2_with fail
  refine (HSh.out _ P0).mono ?_
  rintro e w3 ⟨rfl, P3⟩
  clear P0 HSh
  go_wp2_with fail
  rename_i Kx hx
  refine wp_region_inv (by kernel_rfl) (by kernel_rfl) (by kernel_rfl) (by kernel_rfl) (J3 (.slice pa pn pc) xs x (.slice d1 d2 d3) (.slice l1 l2 l3) d l w3.heap.size w3) J3.start ⟨?_, ?_, ?_, ?_, ?_, ?_, ?_, ?_, ?_, ?_, ?_, ?_, ?_, ?_, trivial⟩ ?_
  · as_aux_lemma =>
      clear hx
      intro a wx p vs hJ hdep hpi hval hfr K hK
      have hE := (hJ.ext (i := 0) (by decide) hpi).1
      have d : a.tmps.getD 4 undef = .pointer (some ⟨w.heap.size, 0, none⟩) := hfr 4 (by kernel_rfl)
      have c0 : wx.cell? ⟨w.heap.size, 0, none⟩ = some (.slice pa pn pc) := by
        have := (hE.block _ (Array.getElem?_eq_some_iff.1 P3.out.cp).1).trans P3.out.cp
        rw [cell_of this]; rfl
      have hK1 := hK (.agg #[.slice pa pn pc]) wx (hJ.put 0 (by decide) hpi (Below.refl _ _) (dp_none (by decide) (by decide) (by decide)) rfl)
      simp only [Array.getD_eq_getD_getElem?] at d
      clear hval hfr hdep hE hK hJ
      go_simp
      exact hK1
  · as_aux_lemma =>
      clear hx
      intro a wx p vs hJ hdep hpi hval hfr K hK
      have hE := hJ.ext (i := 1) (by decide) hpi
      have h0 := hdep 0 (by kernel_rfl)
      have d : a.tmps.getD 16 undef = .agg #[.slice pa pn pc] := (hval 0 _ 16 h0 (by rfl) rfl).trans (hE.2 0 (by decide) h0)
      have hC := lentPass_any (.slice pa pn pc) xs wx (P3.out.ip.below hE.1 (Nat.le_refl _)) SP.out.1 SP.out.2
      simp only [Array.getD_eq_getD_getElem?] at d
      have hsz := hE.1.size
      clear hval hfr hdep
      go_simp
      refine hC.mono ?_
      rintro e w' ⟨ov, rfl, hL, hb⟩
      exact hK _ _ (hJ.put 1 (by decide) hpi hb (dp_none (by decide) (by decide) (by decide)) ⟨ov, rfl, hL.le hsz⟩)
  · as_aux_lemma =>
      clear hx
      intro a wx p vs hJ hdep hpi hval hfr K hK
      have hE := (hJ.ext (i := 2) (by decide) hpi).1
      have d : a.tmps.getD 5 undef = .pointer (some ⟨w.heap.size + 1, 0, none⟩) := hfr 5 (by kernel_rfl)
      obtain ⟨c0, c1, c2, c3, c4, c5, c6⟩ := P3.out.cx.below hE (Nat.le_refl _)
      have hK1 := hK (lval x.r x.av x.kv x.pv x.rv) wx (hJ.put 2 (by decide) hpi (Below.refl _ _) (dp_none (by decide) (by decide) (by decide)) rfl)
      unfold lval at hK1
      simp only [Array.getD_eq_getD_getElem?] at d
      clear hval hfr hdep hE hK hJ
      go_simp
      exact hK1
  · as_aux_lemma =>
      clear hx
      intro a wx p vs hJ hdep hpi hval hfr K hK
      have hE := hJ.ext (i := 3) (by decide) hpi
      have h0 := hdep 2 (by kernel_rfl)
      have d : a.tmps.getD 18 undef = lval x.r x.av x.kv x.pv x.rv := (hval 2 _ 18 h0 (by rfl) rfl).trans (hE.2 2 (by decide) h0)
      have hC := lentRule_any x.r x.av x.kv x.pv x.rv x.sa x.sk x.sp x.tv wx (P3.out.ix.below hE.1 (Nat.le_refl _)) SX.out
      unfold lval at d
      simp only [Array.getD_eq_getD_getElem?] at d
      have hsz := hE.1.size
      have g1 := hdep 1 (by kernel_rfl)
      have g2 := hdep 2 (by kernel_rfl)
      clear hval hfr hdep
      go_simp
      refine hC.mono ?_
      rintro e w' ⟨o1, o2, o3, o4, rfl, hL, hb⟩
      exact hK _ _ (hJ.put 3 (by decide) hpi hb ⟨fun e => (by cases e), fun e => (by cases e), fun _ => ⟨g1, g2⟩⟩ ⟨o1, o2, o3, o4, rfl, hL.le hsz⟩)
  · as_aux_lemma =>
      clear hx
      intro a wx p vs hJ hdep hpi hval hfr K hK
      have d : a.tmps.getD 2 undef = (.slice d1 d2 d3) := hfr 2 (by kernel_rfl)
      exact step_value (v := (.slice d1 d2 d3)) (w' := wx) rfl (fun _ _ h => by cases h) (rho [(2, (.slice d1 d2 d3))]) (rho_of (by intro q hm; simp only [List.mem_cons, List.not_mem_nil, or_false] at hm; rcases hm with rfl; exact d) (by kernel_rfl)) (by kernel_rfl) (hK _ _ (hJ.put 4 (by decide) hpi (Below.refl _ _) (dp_none (by decide) (by decide) (by decide)) rfl))
  · as_aux_lemma =>
      clear hx
      intro a wx p vs hJ hdep hpi hval hfr K hK
      have hE := hJ.ext (i := 5) (by decide) hpi
      have h0 := hdep 4 (by kernel_rfl)
      have d : a.tmps.getD 20 undef = .slice d1 d2 d3 := (hval 4 _ 20 h0 (by rfl) rfl).trans (hE.2 4 (by decide) h0)
      have g3 := hdep 3 (by kernel_rfl)
      have hC := lentInts_any (.slice d1 d2 d3) _ wx (P3.out.id.below hE.1 (Nat.le_refl _)) SD.out.2 SD.out.1
      simp only [Array.getD_eq_getD_getElem?] at d
      have hsz := hE.1.size
      clear hval hfr hdep
      go_simp
      refine hC.mono ?_
      rintro e w' ⟨ov, rfl, hL, hb⟩
      exact hK _ _ (hJ.put 5 (by decide) hpi hb ⟨fun e => (by cases e), fun _ => ⟨g3, h0⟩, fun e => (by cases e)⟩ (hL.le hsz))
  · as_aux_lemma =>
      clear hx
      intro a wx p vs hJ hdep hpi hval hfr K hK
      have d : a.tmps.getD 3 undef = (.slice l1 l2 l3) := hfr 3 (by kernel_rfl)
      exact step_value (v := (.slice l1 l2 l3)) (w' := wx) rfl (fun _ _ h => by cases h) (rho [(3, (.slice l1 l2 l3))]) (rho_of (by intro q hm; simp only [List.mem_cons, List.not_mem_nil, or_false] at hm; rcases hm with rfl; exact d) (by kernel_rfl)) (by kernel_rfl) (hK _ _ (hJ.put 6 (by decide) hpi (Below.refl _ _) (dp_none (by decide) (by decide) (by decide)) rfl))
  · as_aux_lemma =>
      clear hx
      intro a wx p vs hJ hdep hpi hval hfr K hK
      have hE := hJ.ext (i := 7) (by decide) hpi
      have h0 := hdep 6 (by kernel_rfl)
      have h5 := hdep 5 (by kernel_rfl)
      have f5 : LIn wx w3.heap.size (vs 5) (.slice d1 d2 d3) _ := hE.2 5 (by decide) h5
      have d : a.tmps.getD 22 undef = .slice l1 l2 l3 := (hval 6 _ 22 h0 (by rfl) rfl).trans (hE.2 6 (by decide) h0)
      have hC := lentInts_any (.slice l1 l2 l3) _ wx (P3.out.il.below hE.1 (Nat.le_refl _)) SL.out.2 SL.out.1
      simp only [Array.getD_eq_getD_getElem?] at d
      have hsz := hE.1.size
      clear hval hfr hdep
      go_simp
      refine hC.mono ?_
      rintro e w' ⟨ov, rfl, hL, hb⟩
      refine hK _ _ (hJ.put 7 (by decide) hpi hb ⟨fun _ => ⟨h5, h0⟩, fun e => (by cases e), fun e => (by cases e)⟩ ⟨hL.le hsz, ?_⟩)
      show ov.ownBlock = none ∨ ov.ownBlock ≠ (vs 5).ownBlock
      cases eo : ov.ownBlock with
      | none => exact .inl rfl
      | some b =>
        refine .inr (fun e => ?_)
        have k1 := (hL.blk b eo).1
        obtain ⟨_, cur, k2⟩ := f5.blk b e.symm
        have := (Array.getElem?_eq_some_iff.1 k2).1
        omega
  · as_aux_lemma =>
      clear hx
      intro a wx p vs hJ hdep hpi hval hfr K hK
      have hE := (hJ.ext (i := 8) (by decide) hpi).1
      exact step_value (v := .pointer (some ⟨wx.heap.size, 0, none⟩)) (w' := wx.alloc (.cells #[.slice none 0 0] 24)) rfl (fun _ _ h => by cases h) (rho []) (rho_of (by intro q hm; cases hm) (by kernel_rfl)) (by kernel_rfl) (hK _ _ (hJ.put 8 (by decide) hpi ((Below.refl _ wx).alloc (Nat.le_refl _) _) (dp_none (by decide) (by decide) (by decide)) ⟨wx.heap.size, rfl, hE.size, heap_alloc_new _ _⟩))
  · as_aux_lemma =>
      clear hx
      intro a wx p vs hJ hdep hpi hval hfr K hK
      have hE := (hJ.ext (i := 9) (by decide) hpi).1
      exact step_value (v := .pointer (some ⟨wx.heap.size, 0, none⟩)) (w' := wx.alloc (.cells zeroC 28)) rfl (fun _ _ h => by cases h) (rho []) (rho_of (by intro q hm; cases hm) (by kernel_rfl)) (by kernel_rfl) (hK _ _ (hJ.put 9 (by decide) hpi ((Below.refl _ wx).alloc (Nat.le_refl _) _) (dp_none (by decide) (by decide) (by decide)) ⟨wx.heap.size, rfl, hE.size, heap_alloc_new _ _⟩))
  · as_aux_lemma =>
      clear hx
      intro a wx p vs hJ hdep hpi hval hfr K hK
      obtain ⟨hall, B8, ov, e8, e1, ⟨o1, o2, o3, hov⟩, hb8, hJ'⟩ := hJ.s10 (Nat.le_refl _) (hdep 0 (by kernel_rfl)) (hdep 7 (by kernel_rfl)) (hdep 8 (by kernel_rfl)) (hdep 9 (by kernel_rfl)) hpi
      subst hov
      have d8 : a.tmps.getD 9 undef = .pointer (some ⟨B8, 0, none⟩) := (hval 8 _ 9 (hall 8 (by decide)) (by rfl) rfl).trans e8
      have d1' : a.tmps.getD 17 undef = .agg #[.slice o1 o2 o3] := (hval 1 _ 17 (hall 1 (by decide)) (by rfl) rfl).trans e1
      have hc : wx.cell? ⟨B8, 0, none⟩ = some (.slice none 0 0) := by rw [cell_of hb8]; rfl
      have hf : wx.frozen? ⟨B8, 0, none⟩ = false := by simp [World.frozen?, hb8]
      have hK1 := fun v => hK v _ (hJ' v)
      clear hval hfr hdep hJ hJ' hK e8 e1 hb8 hall
      simp only [Array.getD_eq_getD_getElem?] at d8 d1'
      go_simp
      exact hK1 undef
  · as_aux_lemma =>
      clear hx
      intro a wx p vs hJ hdep hpi hval hfr K hK
      have h10 := hdep 10 (by kernel_rfl)
      obtain ⟨B9, a', k, q, r, e9, e3, ⟨⟨a1, a2, a3, ha⟩, ⟨k1, k2, k3, hk⟩, ⟨q1, q2, q3, hq⟩, ⟨r1, r2, r3, hr⟩⟩, hb9, hJ'⟩ := hJ.s11 h10 hpi
      subst ha hk hq hr
      have d9 := (hval 9 _ 10 (hdep 9 (by kernel_rfl)) (by rfl) rfl).trans e9
      have d3' := (hval 3 _ 19 (hdep 3 (by kernel_rfl)) (by rfl) rfl).trans e3
      exact step_store7 rfl rfl 10 19 rfl B9 x.r a1 k1 q1 r1 a2 a3 k2 k3 q2 q3 r2 r3 d9 d3' hb9 (fun v => hK v _ (hJ' v))
  · as_aux_lemma =>
      clear hx
      intro a wx p vs hJ hdep hpi hval hfr K hK
      have d5 : a.tmps.getD 21 undef = vs 5 := hval 5 _ 21 (hdep 5 (by kernel_rfl)) (by rfl) rfl
      exact step_value (v := vs 5) (w' := wx) rfl (fun _ _ h => by cases h) (rho [(21, vs 5)]) (rho_of (by intro q hm; simp only [List.mem_cons, List.not_mem_nil, or_false] at hm; rcases hm with rfl; exact d5) (by kernel_rfl)) (by kernel_rfl) (hK _ _ (hJ.s12 (hdep 11 (by kernel_rfl)) hpi))
  · as_aux_lemma =>
      clear hx
      intro a wx p vs hJ hdep hpi hval hfr K hK
      have d7 : a.tmps.getD 23 undef = vs 7 := hval 7 _ 23 (hdep 7 (by kernel_rfl)) (by rfl) rfl
      exact step_value (v := vs 7) (w' := wx) rfl (fun _ _ h => by cases h) (rho [(23, vs 7)]) (rho_of (by intro q hm; simp only [List.mem_cons, List.not_mem_nil, or_false] at hm; rcases hm with rfl; exact d7) (by kernel_rfl)) (by kernel_rfl) (hK _ _ (hJ.s13 (hdep 12 (by kernel_rfl))))
  · intro vs wz hJ
    rcases hJ with ⟨h, _⟩ | ⟨_, _, ⟨B8, B9, ov, a, k, p, q, hL⟩, h12, h13⟩
    · cases h
    have e12 := (h12 (by decide)).2
    have e13 := (h13 (by decide)).2
    have PZ : Hid (G9 w (.slice pa pn pc) xs x (.slice d1 d2 d3) (.slice l1 l2 l3) d l wz) := P3.out.below hL.bl (Nat.le_refl _)
    obtain ⟨od, hod⟩ : ∃ od, vs 5 = od := ⟨_, rfl⟩
    obtain ⟨ol, hol⟩ : ∃ ol, vs 7 = ol := ⟨_, rfl⟩
    have HPS : Hid (LPs wz w3.heap.size ov (.slice pa pn pc) xs) := hL.ps
    have HRU : Hid (x.Lent wz w3.heap.size a k p q) := hL.ru
    have HID : Hid (LIn wz w3.heap.size od (.slice d1 d2 d3) d) := by rw [← hod]; exact hL.id
    have HIL : Hid (LIn wz w3.heap.size ol (.slice l1 l2 l3) l) := by rw [← hol]; exact hL.il
    have HAP : Hid (ol.ownBlock = none ∨ ol.ownBlock ≠ od.ownBlock) := by rw [← hod, ← hol]; exact hL.ap
    have K8 : Hid (wz.heap[B8]? = some (.cells #[ov] 24 (0, 0)) ∧ w3.heap.size ≤ B8) := ⟨hL.b8, hL.n8⟩
    have K9 : Hid (wz.heap[B9]? = some (.cells (rcA x.r a k p q) 28 (0, 0))) := hL.b9
    have HBZ : Hid (w3.heap.size ≤ wz.heap.size ∧ w.heap.size ≤ w3.heap.size) := ⟨hL.bl.size, P3.out.bel.size⟩
    rw [putL_eq]
    simp only [putsL, List.set_cons_zero, List.set_cons_succ, Nat.zero_add, Nat.reduceAdd]
    rw [hL.e8, hL.e9, e12, e13, hod, hol]
    have HB3 : Hid (Below w3.heap.size w3 wz) := hL.bl
    clear hL h12 h13 e12 e13 hod hol
    generalize vs 0 = x0
    generalize vs 1 = x1
    generalize vs 2 = x2
    generalize vs 3 = x3
    generalize vs 4 = x4
    generalize vs 6 = x6
    clear vs
    refine hx _ _ ?_
    clear hx
    obtain ⟨o1, o2, o3, rfl⟩ := HPS.out.sl
    obtain ⟨u1, u2, u3, rfl⟩ := HID.out.sl
    obtain ⟨v1, v2, v3, rfl⟩ := HIL.out.sl
    obtain ⟨a1, a2, a3, rfl⟩ := HRU.out.a.sl
    obtain ⟨k1, k2, k3, rfl⟩ := HRU.out.k.sl
    obtain ⟨p1, p2, p3, rfl⟩ := HRU.out.p.sl
    obtain ⟨q1, q2, q3, rfl⟩ := HRU.out.r.sl
    have hR0 := RRv.rr PZ.out.ix
    obtain ⟨xa1, xa2, xa3, y1⟩ := hR0.a.sl
    obtain ⟨xk1, xk2, xk3, y2⟩ := hR0.k.sl
    obtain ⟨xp1, xp2, xp3, y3⟩ := hR0.p.sl
    obtain ⟨xr1, xr2, xr3, y4⟩ := hR0.r.sl
    obtain ⟨rs, hrs⟩ : ∃ rs, xs.map RV.r = rs := ⟨_, rfl⟩
    have HPO : Hid (PsR wz (.slice o1 o2 o3) rs) := by rw [← hrs]; exact HPS.out.psr PZ.out.ip
    have HPP : Hid (PsR wz (.slice pa pn pc) rs) := by rw [← hrs]; exact PZ.out.ip.psr
    obtain rfl : pn = o2 := (psr_leng HPP.out).trans (psr_leng HPO.out).symm
    have HNL : Hid (pn = rs.length ∧ pn ≤ 1048576) := ⟨psr_leng HPP.out, by rw [psr_leng HPP.out, ← hrs, List.length_map]; exact SP.out.1⟩
    have hpn : (pn : Int) ≤ 1048576 := by have := HNL.out.2; omega
    have hpn0 : (0 : Int) ≤ (pn : Int) := by omega
    have HB9 : Hid (d.length ≤ 9223372036854775807 ∧ d.length ≤ 1000000000 ∧ l.length ≤ 1000000000) := by have h1 := SD.out.1; have h2 := SL.out.1; exact ⟨by omega, by omega, by omega⟩
    have HF : Hid (∀ W, Grown wz W → Calls Tryd.prog 11 #[.agg #[.slice o1 pn o3], .slice u1 u2 u3, .slice v1 v2 v3] W fun e w' => e = .returned (.int .i64 (fdF rs d l)) ∧ Grown W w') := fun W hg => find_any9 _ _ _ rs d l W (PZ.out.tab.grown hg) (HPO.out.grown hg) (HID.out.ir.grown hg) (HIL.out.ir.grown hg) HB9.out.1
    have HRF : Hid (∀ W, Grown wz W → Calls Tryd.prog 12 #[.agg #[.slice pa pn pc], .slice d1 d2 d3, .slice l1 l2 l3] W fun e w' => e = .returned (.int .i64 (fdF rs d l)) ∧ Grown W w') := fun W hg => rfind_any _ _ _ rs d l W (HPP.out.grown hg) (PZ.out.id.grown hg) (PZ.out.il.grown hg) HB9.out.2.1 SD.out.2 HB9.out.2.2
    have HSj : Hid (∀ (W : World) (r : Rl) (av kv pv rv : Value), Grown wz W → RR W av kv pv rv r → Calls Tryd.prog 13 #[.agg #[.bool r.bg, av, kv, pv, .bool r.en, rv, .int .i64 r.cu], .slice u1 u2 u3, .slice v1 v2 v3] W fun e w' => e = .returned (.bool (fitsB r d l)) ∧ Grown W w') := fun W r av kv pv rv hg hr => fits_any r av kv pv rv _ _ d l W (PZ.out.tab.grown hg) hr (HID.out.ir.grown hg) (HIL.out.ir.grown hg) HB9.out.1
    have HRSj : Hid (∀ (W : World) (r : Rl) (av kv pv rv : Value), Grown wz W → RR W av kv pv rv r → Calls Tryd.prog 14 #[.agg #[.bool r.bg, av, kv, pv, .bool r.en, rv, .int .i64 r.cu], .slice d1 d2 d3, .slice l1 l2 l3] W fun e w' => e = .returned (.bool (fitsB r d l)) ∧ Grown W w') := fun W r av kv pv rv hg hr => rfits_any r av kv pv rv _ _ d l W hr (PZ.out.id.grown hg) (PZ.out.il.grown hg) HB9.out.2.1 SD.out.2 HB9.out.2.2
    have HS : Hid (∀ W, Grown wz W → Calls Tryd.prog 13 #[.agg #[.bool x.r.bg, .slice a1 a2 a3, .slice k1 k2 k3, .slice p1 p2 p3, .bool x.r.en, .slice q1 q2 q3, .int .i64 x.r.cu], .slice u1 u2 u3, .slice v1 v2 v3] W fun e w' => e = .returned (.bool (fitsB x.r d l)) ∧ Grown W w') := fun W hg => HSj.out W x.r _ _ _ _ hg ((HRU.out.rr PZ.out.ix).grown hg)
    have HRS : Hid (∀ W, Grown wz W → Calls Tryd.prog 14 #[.agg #[.bool x.r.bg, .slice xa1 xa2 xa3, .slice xk1 xk2 xk3, .slice xp1 xp2 xp3, .bool x.r.en, .slice xr1 xr2 xr3, .int .i64 x.r.cu], .slice d1 d2 d3, .slice l1 l2 l3] W fun e w' => e = .returned (.bool (fitsB x.r d l)) ∧ Grown W w') := fun W hg => by
      rw [← y1, ← y2, ← y3, ← y4]
      exact HRSj.out W x.r _ _ _ _ hg (hR0.grown hg)
    have HSR : Hid (∀ W, Grown wz W → Calls Tryd.prog 16 #[.agg #[.bool x.r.bg, .slice a1 a2 a3, .slice k1 k2 k3, .slice p1 p2 p3, .bool x.r.en, .slice q1 q2 q3, .int .i64 x.r.cu], .agg #[.bool x.r.bg, .slice xa1 xa2 xa3, .slice xk1 xk2 xk3, .slice xp1 xp2 xp3, .bool x.r.en, .slice xr1 xr2 xr3, .int .i64 x.r.cu]] W fun e w' => e = .returned (.bool true) ∧ Grown W w') := fun W hg => by
      rw [← y1, ← y2, ← y3, ← y4]
      exact stillRule_any x.r w3.heap.size _ _ _ _ _ _ _ _ x.sa x.sk x.sp x.tv W (HRU.out.below hg.below (Nat.le_refl _)) (PZ.out.ix.below hg.below (Nat.le_refl _)) SX.out
    have HSP : Hid (∀ W, Grown wz W → Calls Tryd.prog 15 #[.agg #[.slice o1 pn o3], .agg #[.slice pa pn pc]] W fun e w' => e = .returned (.bool true) ∧ Grown W w') := fun W hg => stillPass_any _ _ w3.heap.size xs W (HPS.out.below hg.below (Nat.le_refl _)) (PZ.out.ip.grown hg) SP.out.1 SP.out.2
    have HCL : Hid (∀ W, Grown wz W → (W.cell? ⟨B8, 0, none⟩ = some (.slice o1 pn o3) ∧ W.cell? ⟨w.heap.size, 0, none⟩ = some (.slice pa pn pc)) ∧ RC W B9 x.r.bg (.slice a1 a2 a3) (.slice k1 k2 k3) (.slice p1 p2 p3) x.r.en (.slice q1 q2 q3) x.r.cu ∧ RC W (w.heap.size + 1) x.r.bg (.slice xa1 xa2 xa3) (.slice xk1 xk2 xk3) (.slice xp1 xp2 xp3) x.r.en (.slice xr1 xr2 xr3) x.r.cu) := fun W hg => by
      refine ⟨⟨hg.cellv (by rw [cell_of K8.out.1]; rfl), hg.cellv (by rw [cell_of PZ.out.cp]; rfl)⟩, (rc_blk K9.out).below hg.below (Nat.le_refl _), ?_⟩
      rw [← y1, ← y2, ← y3, ← y4]
      exact PZ.out.cx.below hg.below (Nat.le_refl _)
    have HGG : Hid (∀ W, Below w3.heap.size w3 W → G9 w (.slice pa pn pc) xs x (.slice d1 d2 d3) (.slice l1 l2 l3) d l W) := fun W hb => P3.out.below hb (Nat.le_refl _)
    have HSH : Hid (ShQ wz w3.heap.size (.slice o1 pn o3)) := HPS.out.shq PZ.out.ip SP.out.1 SP.out.2
    clear hR0 y1 y2 y3 y4 P3 HPS HRU K9
    obtain ⟨F, hF⟩ : ∃ F, fdF rs d l = F := ⟨_, rfl⟩
    obtain ⟨S, hS⟩ : ∃ S, fitsB x.r d l = S := ⟨_, rfl⟩
    have HFE : Hid (fdF rs d l = F) := hF
    rw [hF] at HF HRF
    rw [hS] at HS HRS
    have HRI : Hid (xs.map RV.r = rs) := hrs
    clear hF hS hrs
    generalize x.r.bg = xb at HS HRS HSR HCL
    generalize x.r.en = xe at HS HRS HSR HCL
    generalize x.r.cu = xc at HS HRS HSR HCL
    have e1 : (F != F) = false := by simp
    have e2 : (S != S) = false := by simp
    go_wp2_with fail
    go_loopw [24] (fun vi wr => ∃ k : Nat, vi = .int .i64 k ∧ k ≤ 2 ∧ Grown wz wr) (fun vi _ => 2 - (intOf vi).toNat)
    case atStart => exact ⟨0, rfl, by omega, Grown.refl _⟩
    case round =>
      obtain ⟨kk, rfl, hk, hG⟩ := hrel
      have hk0 : (0 : Int) ≤ (kk : Int) := by omega
      by_cases hlt : kk < 2
      · have hlt' : (kk : Int) < 2 := by omega
        have hq := fun q os => HCL.out _ (hG.quiet q os)
        have c8 := fun q os => (hq q os).1.1
        have c4 := fun q os => (hq q os).1.2
        have m0 := fun q os => (hq q os).2.1.c0
        have m1 := fun q os => (hq q os).2.1.c1
        have m2 := fun q os => (hq q os).2.1.c2
        have m3 := fun q os => (hq q os).2.1.c3
        have m4 := fun q os => (hq q os).2.1.c4
        have m5 := fun q os => (hq q os).2.1.c5
        have m6 := fun q os => (hq q os).2.1.c6
        have n0 := fun q os => (hq q os).2.2.c0
        have n1 := fun q os => (hq q os).2.2.c1
        have n2 := fun q os => (hq q os).2.2.c2
        have n3 := fun q os => (hq q os).2.2.c3
        have n4 := fun q os => (hq q os).2.2.c4
        have n5 := fun q os => (hq q os).2.2.c5
        have n6 := fun q os => (hq q os).2.2.c6
        have D1 := Hid.mk' (fun q os => HF.out _ (hG.quiet q os))
        have D2 := Hid.mk' (fun q os => HRF.out _ (hG.quiet q os))
        have D3 := Hid.mk' (fun q os => HS.out _ (hG.quiet q os))
        have D4 := Hid.mk' (fun q os => HRS.out _ (hG.quiet q os))
        clear hq
        as_aux_lemma =>
          clear HF HRF HSj HRSj HS HRS HSR HSP HCL HGG HSH HPO HPP
          go_wp2
          refine wp_region_quiet_grown mixed (by kernel_rfl) ?_
          repeat (go_big_quiet_step (first | (go_at_call 11; exact grown_of (D1.out _ _)) | (go_at_call 12; exact grown_of (D2.out _ _)) | (go_at_call 13; exact grown_of (D3.out _ _)) | (go_at_call 14; exact grown_of (D4.out _ _))))
          refine wpQuiet_nil ?_
          intro _ hw'
          obtain ⟨⟨nq, osq⟩, hw''⟩ := hw'
          subst hw''
          go_wp2
          exact ⟨⟨kk + 1, by go_num, by omega, hG.quiet _ _⟩, by simp [intOf]; omega⟩
      · have hge : ¬ (kk : Int) < 2 := by omega
        have HG1 : Hid (Grown wz wr) := hG
        have c4 := (HCL.out _ hG).1.2
        clear hG
        go_wp2_with fail
        clear c4
        go_loopw [50] (fun vi wx => ∃ j : Nat, vi = .int .i64 j ∧ j ≤ pn ∧ Grown wz wx) (fun vi _ => pn - (intOf vi).toNat)
        case atStart => exact ⟨0, rfl, by omega, HG1.out⟩
        case round =>
          obtain ⟨j, rfl, hj, hG⟩ := hrel
          have hj0 : (0 : Int) ≤ (j : Int) := by omega
          clear HG1
          by_cases hjl : j < pn
          · have hjI : (j : Int) < (pn : Int) := by omega
            have hjr : j < rs.length := by rw [← HNL.out.1]; exact hjl
            obtain ⟨g, o, ho1, hPo⟩ := psr_row HPO.out (fun e => by rw [e] at hjr; simp at hjr)
            subst ho1
            obtain ⟨g', o', hpa, hPp⟩ := psr_row HPP.out (fun e => by rw [e] at hjr; simp at hjr)
            subst hpa
            obtain ⟨av, kv, pv, rv, q0, q1', q2', q3', q4, q5, q6, hR⟩ := hPo j hjr
            obtain ⟨av', kv', pv', rv', t0, t1, t2, t3, t4, t5, t6, hR'⟩ := hPp j hjr
            have D1 := Hid.mk' (fun q os => HSj.out _ rs[j] av kv pv rv (hG.quiet q os) (hR.grown (hG.quiet q os)))
            have D2 := Hid.mk' (fun q os => HRSj.out _ rs[j] av' kv' pv' rv' (hG.quiet q os) (hR'.grown (hG.quiet q os)))
            generalize fitsB rs[j] d l = S1 at D1 D2
            have e3 : (S1 != S1) = false := by simp
            obtain ⟨_, _, _, rfl⟩ := hR.a.sl
            obtain ⟨_, _, _, rfl⟩ := hR.k.sl
            obtain ⟨_, _, _, rfl⟩ := hR.p.sl
            obtain ⟨_, _, _, rfl⟩ := hR.r.sl
            obtain ⟨_, _, _, rfl⟩ := hR'.a.sl
            obtain ⟨_, _, _, rfl⟩ := hR'.k.sl
            obtain ⟨_, _, _, rfl⟩ := hR'.p.sl
            obtain ⟨_, _, _, rfl⟩ := hR'.r.sl
            generalize rs[j].bg = zb at q0 t0 D1 D2
            generalize rs[j].en = ze at q4 t4 D1 D2
            generalize rs[j].cu = zc at q6 t6 D1 D2
            have c8 := fun q os => (HCL.out _ (hG.quiet q os)).1.1
            have c4 := fun q os => (HCL.out _ (hG.quiet q os)).1.2
            have m0 := fun q os => (hG.quiet q os).cellv q0
            have m1 := fun q os => (hG.quiet q os).cellv q1'
            have m2 := fun q os => (hG.quiet q os).cellv q2'
            have m3 := fun q os => (hG.quiet q os).cellv q3'
            have m4 := fun q os => (hG.quiet q os).cellv q4
            have m5 := fun q os => (hG.quiet q os).cellv q5
            have m6 := fun q os => (hG.quiet q os).cellv q6
            have n0 := fun q os => (hG.quiet q os).cellv t0
            have n1 := fun q os => (hG.quiet q os).cellv t1
            have n2 := fun q os => (hG.quiet q os).cellv t2
            have n3 := fun q os => (hG.quiet q os).cellv t3
            have n4 := fun q os => (hG.quiet q os).cellv t4
            have n5 := fun q os => (hG.quiet q os).cellv t5
            have n6 := fun q os => (hG.quiet q os).cellv t6
            clear hPo hPp hR hR' q0 q1' q2' q3' q4 q5 q6 t0 t1 t2 t3 t4 t5 t6
            as_aux_lemma =>
              clear HF HRF HSj HRSj HS HRS HSR HSP HCL HGG HSH HPO HPP
              go_wp2
              refine wp_region_quiet_grown mixed (by kernel_rfl) ?_
              repeat (go_big_quiet_step (first | (go_at_call 13; exact grown_of (D1.out _ _)) | (go_at_call 14; exact grown_of (D2.out _ _))))
              refine wpQuiet_nil ?_
              intro _ hw'
              obtain ⟨⟨nq, osq⟩, hw''⟩ := hw'
              subst hw''
              go_wp2
              exact ⟨⟨j + 1, by go_num, by omega, hG.quiet _ _⟩, by simp [intOf]; omega⟩
          · have hjI : ¬ (j : Int) < (pn : Int) := by omega
            clear HF HRF HSj HRSj HS HRS
            obtain ⟨⟨c8, c4⟩, _, _⟩ := HCL.out _ hG
            go_wp2_with fail
            refine (HSP.out _ hG).mono ?_
            rintro e w5 ⟨rfl, hg5⟩
            have hG5 := hG.trans hg5
            clear c8 c4 hg5 hG
            obtain ⟨_, ⟨m0, m1, m2, m3, m4, m5, m6⟩, ⟨n0, n1, n2, n3, n4, n5, n6⟩⟩ := HCL.out _ hG5
            go_wp2_with fail
            refine (HSR.out _ hG5).mono ?_
            rintro e w6 ⟨rfl, hg6⟩
            have HG6 := Hid.mk' (hG5.trans hg6)
            clear m0 m1 m2 m3 m4 m5 m6 n0 n1 n2 n3 n4 n5 n6 hg6 hG5 HSP HSR
            have H6 : Hid (Below w3.heap.size w3 w6) := HB3.out.trans (HG6.out.below.mono HBZ.out.1)
            have HD6 : Hid (LIn w6 w3.heap.size (.slice u1 u2 u3) (.slice d1 d2 d3) d) := HID.out.below HG6.out.below (Nat.le_refl _)
            have HL6 : Hid (LIn w6 w3.heap.size (.slice v1 v2 v3) (.slice l1 l2 l3) l) := HIL.out.below HG6.out.below (Nat.le_refl _)
            have HK6 : Hid (w6.heap[B8]? = some (.cells #[.slice o1 pn o3] 24 (0, 0))) := (HG6.out.below.block _ (Array.getElem?_eq_some_iff.1 K8.out.1).1).trans K8.out.1
            have HQ6 : Hid (ShQ w6 w3.heap.size (.slice o1 pn o3)) := HSH.out.ch ((Ch.refl _ _).ext HBZ.out.1 HG6.out.below)
            clear HG6 HID HIL HSH HCL HPO HPP PZ
            go_wp2_with fail
            refine (stillInts_any _ _ w3.heap.size d w6 HD6.out (HGG.out _ H6.out).id SD.out.1).mono ?_
            rintro e w7 ⟨rfl, hb7, ho7, hc7⟩
            have H7 : Hid (Below w3.heap.size w3 w7) := H6.out.trans hb7
            have HL7 : Hid (LIn w7 w3.heap.size (.slice v1 v2 v3) (.slice l1 l2 l3) l) := HL6.out.but ho7 HAP.out
            have hne7 : some B8 ≠ (Value.slice u1 u2 u3).ownBlock := fun e => by
              obtain ⟨_, cur, h⟩ := HD6.out.blk B8 e.symm
              rw [HK6.out] at h
              cases h
            have HK7 : Hid (w7.heap[B8]? = some (.cells #[.slice o1 pn o3] 24 (0, 0))) := ho7 B8 hne7 _ HK6.out
            have HQ7 : Hid (ShQ w7 w3.heap.size (.slice o1 pn o3)) := HQ6.out.ch (ints_ch hb7 hc7 ho7)
            clear hb7 ho7 hc7 hne7 HD6 HL6 HK6 HQ6 H6
            go_wp2_with fail
            refine (stillInts_any _ _ w3.heap.size l w7 HL7.out (HGG.out _ H7.out).il SL.out.1).mono ?_
            rintro e w8 ⟨rfl, hb8, ho8, hc8⟩
            have H8 : Hid (Below w3.heap.size w3 w8) := H7.out.trans hb8
            have hne8 : some B8 ≠ (Value.slice v1 v2 v3).ownBlock := fun e => by
              obtain ⟨_, cur, h⟩ := HL7.out.blk B8 e.symm
              rw [HK7.out] at h
              cases h
            have hk8 := ho8 B8 hne8 _ HK7.out
            have c8 : w8.cell? ⟨B8, 0, none⟩ = some (.slice o1 pn o3) := by rw [cell_of hk8]; rfl
            have HQ8 : Hid (ShQ w8 w3.heap.size (.slice o1 pn o3)) := HQ7.out.ch (ints_ch hb8 hc8 ho8)
            clear hb8 ho8 hc8 hne8 HL7 HK7 HQ7 H7 hk8
            go_wp2_with fail
            refine (spoilPass_any _ w3.heap.size w8 H8.out.size HQ8.out).mono ?_
            rintro e w9 ⟨⟨xx, rfl⟩, hs9⟩
            have H9 : Hid (Below w3.heap.size w3 w9) := H8.out.trans hs9.1.bl
            clear hs9 HQ8 H8 c8
            go_wp2_with fail
            rename_i Ky hy
            refine wp_region_grows (by kernel_rfl) (by kernel_rfl) (by kernel_rfl) (by kernel_rfl) (I18 (.slice pa pn pc) xs (.slice d1 d2 d3) (.slice l1 l2 l3) F w9.heap.size) (fun i v wa wb h he => I18.ext i v wa wb h he) ⟨?_, ?_, ?_, ?_, ?_, ?_, ?_, ?_, ?_, ?_, ?_, trivial⟩ ?_
            · as_aux_lemma =>
                clear hy
                intro A wx hE hdd hfr K hK
                have d : A.tmps.getD 4 undef = .pointer (some ⟨w.heap.size, 0, none⟩) := hfr 4 (by kernel_rfl)
                have c0 : wx.cell? ⟨w.heap.size, 0, none⟩ = some (.slice pa pn pc) := by rw [cell_of (HGG.out _ (H9.out.trans (hE.mono H9.out.size))).cp]; rfl
                have hK1 := hK (.agg #[.slice pa pn pc]) wx (Below.refl _ _) rfl
                simp only [Array.getD_eq_getD_getElem?] at d
                clear hfr hdd hE hK
                go_simp
                exact hK1
            · as_aux_lemma =>
                clear hy
                intro A wx hE hdd hfr K hK
                have d : A.tmps.getD 95 undef = .agg #[.slice pa pn pc] := hdd 0 (by kernel_rfl) _ 95 (by rfl) rfl
                have hC := lentPass_any (.slice pa pn pc) xs wx (HGG.out _ (H9.out.trans (hE.mono H9.out.size))).ip SP.out.1 SP.out.2
                simp only [Array.getD_eq_getD_getElem?] at d
                have hsz := hE.size
                clear hfr hdd
                go_simp
                refine hC.mono ?_
                rintro e w' ⟨ov, rfl, hL, hb⟩
                exact hK _ _ hb ⟨ov, rfl, hL.le hsz⟩
            · as_aux_lemma =>
                clear hy
                intro A wx hE hdd hfr K hK
                have d : A.tmps.getD 2 undef = .slice d1 d2 d3 := hfr 2 (by kernel_rfl)
                exact step_value (v := (.slice d1 d2 d3)) (w' := wx) rfl (fun _ _ h => by cases h) (rho [(2, (.slice d1 d2 d3))]) (rho_of (by intro q hm; simp only [List.mem_cons, List.not_mem_nil, or_false] at hm; rcases hm with rfl; exact d) (by kernel_rfl)) (by kernel_rfl) (hK _ _ (Below.refl _ _) rfl)
            · as_aux_lemma =>
                clear hy
                intro A wx hE hdd hfr K hK
                have d : A.tmps.getD 3 undef = .slice l1 l2 l3 := hfr 3 (by kernel_rfl)
                exact step_value (v := (.slice l1 l2 l3)) (w' := wx) rfl (fun _ _ h => by cases h) (rho [(3, (.slice l1 l2 l3))]) (rho_of (by intro q hm; simp only [List.mem_cons, List.not_mem_nil, or_false] at hm; rcases hm with rfl; exact d) (by kernel_rfl)) (by kernel_rfl) (hK _ _ (Below.refl _ _) rfl)
            · as_aux_lemma =>
                clear hy
                intro A wx hE hdd hfr K hK
                obtain ⟨ov, d1', hL⟩ := hdd 1 (by kernel_rfl) _ 96 (by rfl) rfl
                have d2' : A.tmps.getD 97 undef = .slice d1 d2 d3 := hdd 2 (by kernel_rfl) _ 97 (by rfl) rfl
                have d3' : A.tmps.getD 98 undef = .slice l1 l2 l3 := hdd 3 (by kernel_rfl) _ 98 (by rfl) rfl
                have hg := HGG.out _ (H9.out.trans (hE.mono H9.out.size))
                have hC := find_any9 ov (.slice d1 d2 d3) (.slice l1 l2 l3) rs _ l wx hg.tab (by have := hL.psr hg.ip; rwa [HRI.out] at this) hg.id hg.il HB9.out.1
                rw [HFE.out] at hC
                obtain ⟨w1, w2, w3', rfl⟩ := hL.sl
                simp only [Array.getD_eq_getD_getElem?] at d1' d2' d3'
                clear hfr hdd hL
                go_simp
                refine hC.mono ?_
                rintro e w' ⟨rfl, hb⟩
                exact hK _ _ hb.below rfl
            · as_aux_lemma =>
                clear hy
                intro A wx hE hdd hfr K hK
                have d : A.tmps.getD 4 undef = .pointer (some ⟨w.heap.size, 0, none⟩) := hfr 4 (by kernel_rfl)
                have c0 : wx.cell? ⟨w.heap.size, 0, none⟩ = some (.slice pa pn pc) := by rw [cell_of (HGG.out _ (H9.out.trans (hE.mono H9.out.size))).cp]; rfl
                have hK1 := hK (.agg #[.slice pa pn pc]) wx (Below.refl _ _) rfl
                simp only [Array.getD_eq_getD_getElem?] at d
                clear hfr hdd hE hK
                go_simp
                exact hK1
            · as_aux_lemma =>
                clear hy
                intro A wx hE hdd hfr K hK
                have d : A.tmps.getD 2 undef = .slice d1 d2 d3 := hfr 2 (by kernel_rfl)
                exact step_value (v := (.slice d1 d2 d3)) (w' := wx) rfl (fun _ _ h => by cases h) (rho [(2, (.slice d1 d2 d3))]) (rho_of (by intro q hm; simp only [List.mem_cons, List.not_mem_nil, or_false] at hm; rcases hm with rfl; exact d) (by kernel_rfl)) (by kernel_rfl) (hK _ _ (Below.refl _ _) rfl)
            · as_aux_lemma =>
                clear hy
                intro A wx hE hdd hfr K hK
                have d : A.tmps.getD 3 undef = .slice l1 l2 l3 := hfr 3 (by kernel_rfl)
                exact step_value (v := (.slice l1 l2 l3)) (w' := wx) rfl (fun _ _ h => by cases h) (rho [(3, (.slice l1 l2 l3))]) (rho_of (by intro q hm; simp only [List.mem_cons, List.not_mem_nil, or_false] at hm; rcases hm with rfl; exact d) (by kernel_rfl)) (by kernel_rfl) (hK _ _ (Below.refl _ _) rfl)
            · as_aux_lemma =>
                clear hy
                intro A wx hE hdd hfr K hK
                have d1' : A.tmps.getD 100 undef = .agg #[.slice pa pn pc] := hdd 5 (by kernel_rfl) _ 100 (by rfl) rfl
                have d2' : A.tmps.getD 101 undef = .slice d1 d2 d3 := hdd 6 (by kernel_rfl) _ 101 (by rfl) rfl
                have d3' : A.tmps.getD 102 undef = .slice l1 l2 l3 := hdd 7 (by kernel_rfl) _ 102 (by rfl) rfl
                have hg := HGG.out _ (H9.out.trans (hE.mono H9.out.size))
                have hC := rfind_any (.slice pa pn pc) (.slice d1 d2 d3) (.slice l1 l2 l3) rs _ l wx (by have := hg.ip.psr; rwa [HRI.out] at this) hg.id hg.il HB9.out.2.1 SD.out.2 HB9.out.2.2
                rw [HFE.out] at hC
                simp only [Array.getD_eq_getD_getElem?] at d1' d2' d3'
                clear hfr hdd
                go_simp
                refine hC.mono ?_
                rintro e w' ⟨rfl, hb⟩
                exact hK _ _ hb.below rfl
            · as_aux_lemma =>
                clear hy
                intro A wx hE hdd hfr K hK
                have d1' : A.tmps.getD 99 undef = .int .i64 F := hdd 4 (by kernel_rfl) _ 99 (by rfl) rfl
                have d2' : A.tmps.getD 103 undef = .int .i64 F := hdd 8 (by kernel_rfl) _ 103 (by rfl) rfl
                have hff : (F == F) = true := by simp
                have hK1 := hK (.bool true) wx (Below.refl _ _) rfl
                simp only [Array.getD_eq_getD_getElem?] at d1' d2'
                clear hfr hdd hK
                go_simp
                exact hK1
            · as_aux_lemma =>
                clear hy
                intro A wx hE hdd hfr K hK
                have d : A.tmps.getD 104 undef = .bool true := hdd 9 (by kernel_rfl) _ 104 (by rfl) rfl
                exact step_value (v := .bool true) (w' := wx) rfl (fun _ _ h => by cases h) (rho [(104, .bool true)]) (rho_of (by intro q hm; simp only [List.mem_cons, List.not_mem_nil, or_false] at hm; rcases hm with rfl; exact d) (by kernel_rfl)) (by kernel_rfl) (hK _ _ (Below.refl _ _) rfl)
            · intro vs wy hE hI
              have hr : vs 10 = .bool true := hI 10 (by decide)
              have HEnd : Hid (Below w.heap.size w wy) := (HGG.out _ (H9.out.trans (hE.mono H9.out.size))).bel
              rw [putL_eq]
              simp only [putsL, List.set_cons_zero, List.set_cons_succ, Nat.zero_add, Nat.reduceAdd]
              rw [hr]
              clear hr hI hE
              generalize vs 0 = x0'
              generalize vs 1 = x1'
              generalize vs 2 = x2'
              generalize vs 3 = x3'
              generalize vs 4 = x4'
              generalize vs 5 = x5'
              generalize vs 6 = x6'
              generalize vs 7 = x7'
              generalize vs 8 = x8'
              generalize vs 9 = x9'
              clear vs
              refine hy _ _ ?_
              clear hy
              go_wp2
              go_ret
              exact ⟨rfl, HEnd.out⟩
end Go.Proofs
