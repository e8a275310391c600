/-
  The book: keep.
-/
import Derived.RangeFuncNested
import Derived.RangeFuncBound
import Derived.RangeFuncCalls
import Derived.RangeFuncLeaves
import Derived.Shelf.Abstract
import Derived.Shelf.RegionOpen
import Derived.WalkKit
import Derived.WalkSpells
import Derived.WalkLawsBesides
import Derived.OwnWalkIn
import Derived.TacticsInMore
import Derived.LoopNIn
import Derived.LoopIn
import Derived.BigQuiet
import Derived.RegionIn
import Derived.Deep.QuietTactic
import Derived.Deep.RegionWith
import Derived.Lib.OthersKept
import Derived.Maps.AppendAt
import Derived.Maps.OwnIn
import Derived.Lib.SmallJoins
import Derived.Deep.DeepCutAuto
import Derived.ArgAppend
import Derived.Deep.Upon
import Derived.Deep.AppendLies
import Derived.Test.YtmgkolelcflcbaaDoorB3
namespace Go.Proofs
open Go.RowKit Go.Shelf

set_option maxRecDepth 100000
attribute [local go_sem] Oper.semAt_some
attribute [local go_sem ↓] Go.wp_at_zero Go.wp_at_succ
theorem Tch.own {hb : Nat} {ov wv : Value} {W W' : World} {base base2 f u t : Nat} {es : List BE} {v : Value} {l : List (Int × Int)} (h : Tch hb ov wv W W') (hB : Bok W base hb ov wv es f u t) (k : OwnS W base2 v l) : OwnS W' base2 v l :=
  ownS_stays k fun b cur _ _ h3 => (h.block b (Array.getElem?_eq_some_iff.1 h3).1 (typ_ne h3 hB.bk (by decide)) (fun e => by obtain ⟨_, d, h2⟩ := row_typ hB.out e; exact typ_ne h3 h2 (by decide) rfl) (fun e => by obtain ⟨_, d, h2⟩ := row_typ hB.want e; exact typ_ne h3 h2 (by decide) rfl)).trans h3
theorem K1.want {W w6 : World} {base hb f u t : Nat} {ov wv lv ov' : Value} {es : List BE} {ll : List (Int × Int)} (h : Bok W base hb ov wv es f u t) (k : K1 W base hb ov wv es f lv ll ov' w6) : w6.ownsRow base 29 1 wv es.length (es.map BE.w) := by
  refine ownR_stays h.want fun b cur h1 _ h3 => ?_
  rw [k.blk b (Array.getElem?_eq_some_iff.1 h3).1 (typ_ne h3 h.bk (by decide)) (fun e => ?_)]
  · exact h3
  · rcases h.ow with h6 | h6
    · rw [h6] at e; cases e
    · exact h6 (e.trans h1.symm)
/-- what keep leaves -/
def KpQ (w : World) (base hb : Nat) (ov wv : Value) (es : List BE) (f u : Nat) (lv : Value) (l : List (Int × Int)) (w' : World) : Prop :=
  ∃ ov' wv' mv, Bok w' base hb ov' wv' (es ++ [⟨lv, mv, l⟩]) f u (es.length + 1) ∧ Tch hb ov wv w w' ∧ Below base w w' ∧ (∀ b, mv.ownBlock = some b → w.heap.size ≤ b)
set_option maxHeartbeats 4000000 in
theorem keep_any (base hb : Nat) (ov wv : Value) (es : List BE) (f u : Nat) (lv tv : Value) (l : List (Int × Int)) (w : World) (h : Bok w base hb ov wv es f u es.length) (hl : OwnS w base lv l) (ht : OwnS w base tv l) (hap : ∀ b, lv.ownBlock = some b → b ∉ blksO es) (hn : l.length ≤ 800000) (hes : es.length ≤ 99) :
    Calls Tryd.prog 12 #[.pointer (some ⟨hb, 0, none⟩), lv, tv] w fun e w' => e = .returned (.bool true) ∧ KpQ w base hb ov wv es f u lv l w' := by
  obtain ⟨n, hnn⟩ : ∃ n, es.length = n := ⟨_, rfl⟩
  have HN : Hid (es.length = n) := hnn
  obtain ⟨oa, oc, rfl⟩ := row_nil h.out
  obtain ⟨wa, wc, rfl⟩ := row_nil h.want
  obtain ⟨la, lc, rfl⟩ := hl.form
  obtain ⟨ta, tc, rfl⟩ := ht.form
  have hbz : base ≤ w.heap.size := by have := h.hb; have := (Array.getElem?_eq_some_iff.1 h.bk).1; omega
  have HB : Hid (Bok w base hb (.slice oa n oc) (.slice wa n wc) es f u n) := by rw [hnn] at h; exact h
  have HL : Hid (OwnS w base (.slice la l.length lc) l ∧ OwnS w base (.slice ta l.length tc) l ∧ (∀ b, (Value.slice la l.length lc).ownBlock = some b → b ∉ blksO es) ∧ l.length ≤ 800000 ∧ es.length ≤ 99 ∧ base ≤ w.heap.size) := ⟨hl, ht, hap, hn, hes, hbz⟩
  have hO0 : OwnR (w.alloc (.cells #[] 38)) w.heap.size (.slice (some ⟨w.heap.size, 0, none⟩) 0 0) [] := World.ownsRow_lit (e := 38) (size := 2) w #[] 0 (Nat.le_refl _) (by unfold maxLen; omega) rfl
  have hR0 : Rs (w.alloc (.cells #[] 38)) (.slice ta l.length tc) l := ht.rs.below ((Below.refl _ w).alloc (Nat.le_refl _) _) (Nat.le_refl _)
  have hb0 : w.heap.size ≤ (w.alloc (.cells #[] 38)).heap.size := by rw [World.size_alloc]; omega
  have hnI : n ≤ 2000000 := by omega
  have hl8 : l.length ≤ 8796093022208 := by omega
  rw [show KpQ w base hb (.slice oa es.length oc) (.slice wa es.length wc) es f u (.slice la l.length lc) l = KpQ w base hb (.slice oa n oc) (.slice wa n wc) es f u (.slice la l.length lc) l by rw [hnn]]
  obtain ⟨L, hL⟩ : ∃ L, l.length = L := ⟨_, rfl⟩
  have HLL : Hid (l.length = L) := hL
  rw [hL] at HL hR0 hl8 ⊢
  clear h hl ht hap hn hes hnn hL
  go_enter Tryd.func12, Tryd.ntmps12
  go_upto_region 3 with (at_builtin; go_must (refine app_copyS rfl _ _ rfl w.heap.size w.heap.size (.slice ta L tc) l rfl rfl hO0 hR0 (by have := HLL.out; omega) hb0 ?_; intro v1 w1 hO1 hB1))
  have hb1 : Below w.heap.size w w1 := ((Below.refl _ w).alloc (Nat.le_refl _) _).trans (hB1.mono hb0)
  have hBk1 := HB.out.below hb1 (Nat.le_refl _)
  have HB1 : Hid (Bok w1 base hb (.slice oa n oc) (.slice wa n wc) es f u n) := hBk1
  obtain ⟨ma, mc, rfl⟩ := hO1.form
  have HO1 : Hid (OwnR w1 w.heap.size (.slice ma L mc) l ∧ Below w.heap.size w w1) := by rw [HLL.out] at hO1; exact ⟨hO1, hb1⟩
  have c0 := hBk1.cell.1
  have HO : Hid (∀ ob, (w1.alloc ob).ownsRow base 29 1 (.slice oa n oc) n (es.map BE.o) ∧ base ≤ (w1.alloc ob).heap.size) := fun ob => by
    have := hBk1.out
    rw [HN.out] at this
    exact ⟨World.ownsRow.alloc this ob, by have h1 : (w1.alloc ob).heap.size = w1.heap.size + 1 := Array.size_push _; have := hb1.size; omega⟩
  have HK1 : Hid (∀ (g c : Nat) (ob : Obj) (w5 : World), w5.ownsRow base 29 1 (.slice (some ⟨g, 0, none⟩) (n + 1) c) (n + 1) (es.map BE.o ++ [.slice la L lc]) → (w1.alloc ob).grownBy w5 (Value.slice oa n oc).ownBlock → ((Value.slice oa n oc).ownBlock = some g ∨ g = (w1.alloc ob).heap.size) → w5.heap[hb]? = some (.cells #[.slice oa n oc, .slice wa n wc, .int .i64 f] 27 (0, 0)) ∧ K1 w1 base hb (.slice oa n oc) (.slice wa n wc) es f (.slice la L lc) l (.slice (some ⟨g, 0, none⟩) (n + 1) c) (w5.setCell ⟨hb, 0, none⟩ (.slice (some ⟨g, 0, none⟩) (n + 1) c))) := fun g c ob w5 a b d => by
    have := k1_of (l := l) (lv := .slice la L lc) hBk1 (g := g) (c := c) (ob := ob) (w5 := w5)
    rw [HN.out] at this
    exact this a b d
  rw [HLL.out]
  clear hO0 hR0 hb0 hB1 hb1 hBk1 hO1
  go_upto_region 4 with (at_builtin; go_must (refine app_L rfl _ _ rfl base (.slice oa n oc) n (es.map BE.o) rfl (HO.out _).1 _ _ (.slice la L lc) rfl (cell_new1 _ _ _) ⟨_, _, _, rfl⟩ hnI (HO.out _).2 ?_; intro g c w5 ho5 hg5 hG5; have HX := Hid.mk2 (HK1.out g c _ w5 ho5 hg5 hG5); clear ho5 hg5 hG5; have c5 : w5.cell? ⟨hb, 0, none⟩ = some (.slice oa n oc) := (by simp [World.cell?, HX.out.1]); have f5 : w5.frozen? ⟨hb, 0, none⟩ = false := (by simp [World.frozen?, HX.out.1])))
  obtain ⟨w6, hw6⟩ : ∃ w6, w6 = w5.setCell ⟨hb, 0, none⟩ (.slice (some ⟨g, 0, none⟩) (n + 1) c) := ⟨_, rfl⟩
  rw [← hw6]
  have HK := Hid.mk2 HX.out.2
  rw [← hw6] at HK
  clear hw6 c5 f5 HX HK1 HO c0
  have hK0 := HK.out
  have c1 : w6.cell? ⟨hb, 1, none⟩ = some (.slice wa n wc) := by simp [World.cell?, hK0.bk]
  have HO : Hid (∀ ob, (w6.alloc ob).ownsRow base 29 1 (.slice wa n wc) n (es.map BE.w) ∧ base ≤ (w6.alloc ob).heap.size) := fun ob => by
    have := K1.want HB1.out hK0
    rw [HN.out] at this
    exact ⟨World.ownsRow.alloc this ob, by have h1 : (w6.alloc ob).heap.size = w6.heap.size + 1 := Array.size_push _; have h2 := hK0.bel.size; have h3 := HO1.out.2.size; have := HL.out.2.2.2.2.2; omega⟩
  have HFin : Hid (∀ (W3 : World) (g2 c2 : Nat) (ob : Obj), W3.ownsRow base 29 1 (.slice (some ⟨g2, 0, none⟩) (n + 1) c2) (n + 1) (es.map BE.w ++ [.slice ma L mc]) → (w6.alloc ob).grownBy W3 (Value.slice wa n wc).ownBlock → ((Value.slice wa n wc).ownBlock = some g2 ∨ g2 = (w6.alloc ob).heap.size) → W3.heap[hb]? = some (.cells #[.slice (some ⟨g, 0, none⟩) (n + 1) c, .slice wa n wc, .int .i64 f] 27 (0, 0)) ∧ KpQ w base hb (.slice oa n oc) (.slice wa n wc) es f u (.slice la L lc) l (W3.setCell ⟨hb, 1, none⟩ (.slice (some ⟨g2, 0, none⟩) (n + 1) c2))) := fun W3 g2 c2 ob a2 a3 a4 => by
    obtain ⟨hl, ht, hap, hn, hes, hbz⟩ := HL.out
    obtain ⟨hm1, hb1⟩ := HO1.out
    have hb6 := (Array.getElem?_eq_some_iff.1 hK0.bk).1
    have hsz : (w6.alloc ob).heap.size = w6.heap.size + 1 := Array.size_push _
    have hg' : w6.grownBy W3 (Value.slice wa n wc).ownBlock := ⟨a3.os, a3.tape, a3.output, by have := a3.size; omega, fun b hb' hne => (a3.block b (by omega) hne).trans (Below.heap_alloc w6 ob b hb')⟩
    have hB := HB1.out
    have hnw := hB.nw
    have h3b : W3.heap[hb]? = some (.cells #[.slice (some ⟨g, 0, none⟩) (n + 1) c, .slice wa n wc, .int .i64 f] 27 (0, 0)) := (hg'.block hb hb6 (fun e => hnw e.symm)).trans hK0.bk
    have hm3 : OwnR W3 w.heap.size (.slice ma L mc) l := ownR_stays hm1 fun b cur h1 _ h3 => by
      have e1 := hK0.blk b (Array.getElem?_eq_some_iff.1 h3).1 (typ_ne h3 hB.bk (by decide)) (fun e => by obtain ⟨_, d, h2⟩ := row_typ hB.out e; exact typ_ne h3 h2 (by decide) rfl)
      have h6 := e1.trans h3
      rw [hg'.block b (Array.getElem?_eq_some_iff.1 h6).1 (fun e => by obtain ⟨_, d, h2⟩ := row_typ hB.want e.symm; exact typ_ne h3 h2 (by decide) rfl)]
      exact h6
    have hmv : ∀ b, (Value.slice ma L mc).ownBlock = some b → b ∉ blksO es ∧ (Value.slice la L lc).ownBlock ≠ some b := fun b hb' => by
      have h1 := (row_typ hm3 hb').1
      refine ⟨fun h3 => ?_, fun h3 => ?_⟩
      · obtain ⟨_, h4⟩ := blks_lt HB.out h3
        have := (Array.getElem?_eq_some_iff.1 h4).1
        omega
      · have := hl.lt h3
        omega
    have hao0 := hB.ao
    rw [← HN.out] at hao0
    have hh := k2_of (g := g2) (c := c2) (mv := .slice ma L mc) (W3 := W3) (u' := u) (t' := es.length + 1) hB (hl.below hb1 (Nat.le_refl _)) (aw_snoc hB.aw hmv fun b hb' e' he' e1 => hap b hb' (blks_mem.2 ⟨e', he', .inr e1⟩)) (ao_keep hao0 fun b hb' e' he' e1 => hap b hb' (blks_mem.2 ⟨e', he', .inl e1⟩)) (by have := HLL.out; omega) hes hK0 (hm3.le hbz)
    rw [HN.out] at hh
    obtain ⟨z1, z2, z3, _, _⟩ := hh a2 hg' (a4.imp id fun e => by omega)
    refine ⟨h3b, _, _, _, by rw [HN.out]; exact z1, ⟨Nat.le_trans hb1.size z2.size, fun b hb1' hb2 hb3 hb4 => (z2.block b (Nat.lt_of_lt_of_le hb1' hb1.size) hb2 hb3 hb4).trans (hb1.block b hb1')⟩, (hb1.mono hbz).trans z3, fun b hb' => (row_typ hm3 hb').1⟩
  clear hK0 HK
  go_upto_region 5 with (at_builtin; go_must (refine app_L rfl _ _ rfl base (.slice wa n wc) n (es.map BE.w) rfl (HO.out _).1 _ _ (.slice ma L mc) rfl (cell_new1 _ _ _) ⟨_, _, _, rfl⟩ hnI (HO.out _).2 ?_; intro g2 c2 w7 ho7 hg7 hG7; have HX := Hid.mk2 (HFin.out w7 g2 c2 _ ho7 hg7 hG7); clear ho7 hg7 hG7; have c7 : w7.cell? ⟨hb, 1, none⟩ = some (.slice wa n wc) := (by simp [World.cell?, HX.out.1]); have f7 : w7.frozen? ⟨hb, 1, none⟩ = false := (by simp [World.frozen?, HX.out.1])))
  obtain ⟨w8, hw8⟩ : ∃ w8, w8 = w7.setCell ⟨hb, 1, none⟩ (.slice (some ⟨g2, 0, none⟩) (n + 1) c2) := ⟨_, rfl⟩
  rw [← hw8]
  have HF := Hid.mk2 HX.out.2
  rw [← hw8] at HF
  clear hw8 c7 f7 HX HFin HO c1
  have HCal : Hid (Calls Tryd.prog 40 #[.slice la L lc, .slice ta L tc] w8 fun e w' => e = .returned (.bool true) ∧ Grown w8 w') := by
    obtain ⟨hl, ht, _, hn, _⟩ := HL.out
    obtain ⟨_, _, _, _, hT, _⟩ := HF.out
    have := ranges_any _ _ l l w8 (hT.own HB.out hl).rs (hT.own HB.out ht).rs (by have := HLL.out; omega)
    rw [show decide (l = l) = true by simp] at this
    exact this
  go_wp2_with fail
  refine HCal.out.mono ?_
  rintro e w9 ⟨rfl, hG9⟩
  have HF9 : Hid (KpQ w base hb (.slice oa n oc) (.slice wa n wc) es f u (.slice la L lc) l w9) := by
    obtain ⟨ov', wv', mv, h1, h2, h3, h4⟩ := HF.out
    refine ⟨ov', wv', mv, h1.grown hG9, ⟨Nat.le_trans h2.size hG9.size, fun b hb1 hb2 hb3 hb4 => (hG9.below.block b (Nat.lt_of_lt_of_le hb1 h2.size)).trans (h2.block b hb1 hb2 hb3 hb4)⟩, h3.trans (hG9.below.mono (Nat.le_trans HL.out.2.2.2.2.2 h2.size)), h4⟩
  clear HF hG9 HCal
  go_wp2
  go_ret
  exact ⟨rfl, HF9.out⟩
end Go.Proofs
