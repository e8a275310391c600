/-
  Several texts in one (Ha Hb).
-/
import Derived.RangeFuncNested
import Derived.RangeFuncBound
import Derived.RangeFuncCalls
import Derived.RangeFuncLeaves
import Derived.Shelf.Abstract
import Derived.Shelf.RegionOpen
import Derived.WalkKit
import Derived.WalkSpells
import Derived.WalkLawsBesides
import Derived.OwnWalkIn
import Derived.TacticsInMore
import Derived.LoopNIn
import Derived.LoopIn
import Derived.BigQuiet
import Derived.RegionIn
import Derived.Deep.QuietTactic
import Derived.Deep.RegionWith
import Derived.Lib.OthersKept
import Derived.Maps.AppendAt
import Derived.Lib.SmallJoins
import Derived.Shelf.SlSortCmp.QuietGrown
import Derived.Test.YtkijbaofhodplaaDoorMga
import Derived.Test.YtkijbaofhodplaaDoorMge
import Derived.Test.YtkijbaofhodplaaDoorMgh
import Derived.Deep.AppendLies
import Derived.Deep.RegionLaw
namespace Go.Proofs
open Go.RowKit Go.Shelf

set_option maxRecDepth 100000
attribute [local go_sem] Oper.semAt_some
attribute [local go_sem ↓] Go.wp_at_zero Go.wp_at_succ

theorem plcF_lt (l : List Int) (u : Int) : ∀ (f lo hi : Nat), lo < hi → plcF l u f lo hi < hi
  | 0, lo, hi, h => by rw [plcF]; exact h
  | f + 1, lo, hi, h => by
    rw [plcF]
    split
    · split
      · exact plcF_lt l u f _ _ (by omega)
      · exact Nat.lt_trans (plcF_lt l u f lo _ (by omega)) (by omega)
    · exact h
theorem plc_lt {l : List Int} (u : Int) (h : 0 < l.length) : plc l u < l.length := plcF_lt l u _ _ _ h
def In64 (W : List Int) : Prop := ∀ j, 0 ≤ bAt W j ∧ bAt W j ≤ 64
theorem grK_in {L W : List Int} {hi : Int} (hW : In64 W) : ∀ (f k : Nat) (n : Int), 0 ≤ n ∧ n ≤ 64 → 0 ≤ grK L W hi f k n ∧ grK L W hi f k n ≤ 64
  | 0, _, _, h => h
  | f + 1, k, n, h => by
    rw [grK]
    split
    · refine grK_in hW f _ _ ?_
      split
      · exact hW k
      · exact h
    · exact h
theorem grt_in {L W : List Int} (hW : In64 W) (s : List (Int × Int)) : 0 ≤ grt L W s ∧ grt L W s ≤ 64 := by
  have : ∀ (s : List (Int × Int)) (n : Int), 0 ≤ n ∧ n ≤ 64 → 0 ≤ s.foldl (gr1 L W) n ∧ s.foldl (gr1 L W) n ≤ 64 := by
    intro s
    induction s with
    | nil => intro n h; exact h
    | cons x s ih => intro n h; exact ih _ (grK_in hW _ _ _ h)
  exact this s 0 ⟨by omega, by omega⟩
/-- what a piece that is put back weighs by the document's scale -/
def pcW (L W : List Int) (p : Pc) : Int := if p.k = 1 then bAt W (plc L p.u) else if p.k = 3 then grt L W p.tl else 0
theorem pcW_in {L W : List Int} (hW : In64 W) (p : Pc) : 0 ≤ pcW L W p ∧ pcW L W p ≤ 64 := by
  unfold pcW
  split
  · exact hW _
  · split
    · exact grt_in hW _
    · exact ⟨by omega, by omega⟩
def pcS (L W : List Int) : List Pc → Int
  | [] => 0
  | p :: l => pcW L W p + pcS L W l
theorem pcS_in {L W : List Int} (hW : In64 W) : ∀ l : List Pc, 0 ≤ pcS L W l ∧ pcS L W l ≤ 64 * l.length
  | [] => ⟨by simp [pcS], by simp [pcS]⟩
  | p :: l => by
    have := pcS_in (L := L) hW l
    have := pcW_in (L := L) hW p
    rw [pcS]
    simp
    omega
theorem pcS_snoc {L W : List Int} (l : List Pc) (p : Pc) : pcS L W (l ++ [p]) = pcS L W l + pcW L W p := by
  induction l with
  | nil => simp [pcS]
  | cons q l ih => simp [pcS, ih]; omega
theorem copN_snoc (l : List Pc) (p : Pc) : copN (l ++ [p]) = copN l + if p.k = 2 then 1 else 0 := by
  induction l with
  | nil => simp [copN]
  | cons q l ih => simp [copN, ih]; omega
theorem copN_in : ∀ l : List Pc, 0 ≤ copN l ∧ copN l ≤ l.length
  | [] => ⟨by simp [copN], by simp [copN]⟩
  | p :: l => by
    have := copN_in l
    rw [copN]
    split <;> simp <;> omega
theorem take_pc {l : List Pc} {k : Nat} (hk : k < l.length) : l.take (k + 1) = l.take k ++ [l[k]] := by rw [List.take_add_one, List.getElem?_eq_getElem hk]; rfl
/-- what a rule wants by the document's scale -/
def wnt (L W : List Int) (r : Rl) : Int := 1 + pcS L W (backP r) - ((r.key.length : Int) - 1 - copN (backP r))
structure SC (w : World) (lv wv : Value) (L W : List Int) : Prop where
  l : IR w lv L
  w : IR w wv W
  e : W.length = L.length
  n : L.length ≤ 4611686018427387903
  p : 0 < L.length
  b : In64 W
theorem SC.grown {w w' : World} {lv wv : Value} {L W : List Int} (h : SC w lv wv L W) (k : Grown w w') : SC w' lv wv L W := ⟨h.l.grown k, h.w.grown k, h.e, h.n, h.p, h.b⟩
theorem piece_len {r : Rl} (hO : Ok r) {p : Pc} (hp : p ∈ backP r) : p.tl.length ≤ 4611686018427387903 := by
  have h1 := pc_ok (hO.pc p (List.mem_of_mem_drop hp))
  by_cases h2 : p.k = 3
  · have := mayB_len hO hp
    rw [mayB, if_pos h2] at this
    omega
  · rcases h1 with ⟨_, _, _, h⟩ | ⟨_, _, h, _⟩ | ⟨h, _⟩
    · rw [h]; simp
    · rw [h]; simp
    · exact absurd h h2
set_option maxHeartbeats 4000000 in
theorem wants_any (lv wv : Value) (L W : List Int) (r : Rl) (av kv pv rv : Value) (w : World) (hS : SC w lv wv L W) (h : RR w av kv pv rv r) (hO : Ok r) :
    Calls Tryd.prog 50 #[.agg #[lv, wv], .agg #[.bool r.bg, av, kv, pv, .bool r.en, rv, .int .i64 r.cu]] w fun e w' => e = .returned (.int .i64 (wnt L W r)) ∧ Grown w w' := by
  have HPB : Hid (∀ wx, Calls Tryd.prog 48 #[.agg #[.bool r.bg, av, kv, pv, .bool r.en, rv, .int .i64 r.cu]] wx fun e w' => ∃ v, e = .returned v ∧ PR w v (backP r) ∧ Grown wx w') := fun wx => rback_any r av kv pv rv wx w h hO.c0 hO.c1
  have HPl : Hid (∀ (V : World) (u : Int), Grown w V → Calls Tryd.prog 31 #[lv, .int .i64 u] V fun e w' => e = .returned (.int .i64 (plc L u)) ∧ Grown V w') := fun V u hg => (place_any lv L u V (hS.l.grown hg) hS.n).mono fun _ _ ⟨h1, h2⟩ => ⟨h1, by rw [h2]; exact Grown.refl _⟩
  have HPg : Hid (∀ (V : World) (sv : Value) (s : List (Int × Int)), Grown w V → Rs V sv s → s.length ≤ 4611686018427387903 → Calls Tryd.prog 72 #[.agg #[lv, wv], sv] V fun e w' => e = .returned (.int .i64 (grt L W s)) ∧ Grown V w') := fun V sv s hg hs hn => greatest_any lv wv sv L W s V (hS.l.grown hg) (hS.w.grown hg) hS.e hs hS.n hn
  have HW : Hid (∀ V, Grown w V → IR V wv W) := fun V hg => hS.w.grown hg
  have HB : Hid (In64 W ∧ 0 < L.length ∧ W.length = L.length) := ⟨hS.b, hS.p, hS.e⟩
  have HPC : Hid (∀ p ∈ backP r, (p.k = 1 ∨ p.k = 2 ∨ p.k = 3) ∧ p.tl.length ≤ 4611686018427387903) := fun p hp => ⟨by rcases pc_ok (hO.pc p (List.mem_of_mem_drop hp)) with h | h | h <;> omega, piece_len hO hp⟩
  have HL : Hid ((backP r).length ≤ 16 ∧ 1 ≤ r.key.length ∧ r.key.length ≤ 8) := by have := hO.r16; exact ⟨by simp [backP]; omega, hO.k0, hO.k8⟩
  obtain ⟨la, ln, lc, rfl⟩ := hS.l.sl
  obtain ⟨wa, wn, wc, rfl⟩ := hS.w.sl
  obtain ⟨N, hN⟩ : ∃ N, L.length = N := ⟨_, rfl⟩
  have hwn : wn = N := by obtain ⟨_, _, e, _⟩ := hS.w; injection e with _ e2; have := hS.e; omega
  have hln : ln = N := by obtain ⟨_, _, e, _⟩ := hS.l; injection e with _ e2; omega
  have hNI : (N : Int) ≤ 4611686018427387903 := by have := hS.n; omega
  have HN : Hid (L.length = N) := hN
  subst hwn
  subst hln
  obtain ⟨a1, n1, c1, rfl⟩ := h.a.sl
  obtain ⟨ka, kc, hkv, _, _⟩ := h.k
  subst hkv
  obtain ⟨a3, n3, c3, rfl⟩ := h.p.sl
  obtain ⟨a5, n5, c5, rfl⟩ := h.r.sl
  obtain ⟨R, hR⟩ : ∃ R, wnt L W r = R := ⟨_, rfl⟩
  obtain ⟨kl, hkl⟩ : ∃ kl, r.key.length = kl := ⟨_, rfl⟩
  have HR : Hid (1 + pcS L W (backP r) - ((kl : Int) - 1 - copN (backP r)) = R) := by show _ = R; rw [← hR, wnt, hkl]
  rw [hR]
  rw [hkl] at HPB HL ⊢
  have hkl8 : (kl : Int) ≤ 8 := by have := HL.out; omega
  have hkl1 : (1 : Int) ≤ (kl : Int) := by have := HL.out; omega
  obtain ⟨xb, hxb⟩ : ∃ xb, r.bg = xb := ⟨_, rfl⟩
  obtain ⟨xe, hxe⟩ : ∃ xe, r.en = xe := ⟨_, rfl⟩
  obtain ⟨xc, hxc⟩ : ∃ xc, r.cu = xc := ⟨_, rfl⟩
  rw [hxb, hxe, hxc] at HPB ⊢
  clear hR hxb hxe hxc h hO hS hN
  obtain ⟨W0, hW0⟩ : ∃ W0, W0 = (w.alloc (.cells #[.slice la ln lc, .slice wa ln wc] 70)).alloc (.cells #[.bool xb, .slice a1 n1 c1, .slice ka kl kc, .slice a3 n3 c3, .bool xe, .slice a5 n5 c5, .int .i64 xc] 54) := ⟨_, rfl⟩
  have HG0 : Hid (Grown w W0) := by show Grown _ _; rw [hW0]; exact ((Grown.refl _).alloc _).alloc _
  have b0 : W0.heap[w.heap.size]? = some (.cells #[.slice la ln lc, .slice wa ln wc] 70 (0, 0)) := by
    have g : Grown (w.alloc (.cells #[.slice la ln lc, .slice wa ln wc] 70)) W0 := by rw [hW0]; exact (Grown.refl _).alloc _
    rw [g.below.block w.heap.size (by simp)]; exact heap_alloc_new _ _
  have b1 : W0.heap[w.heap.size + 1]? = some (.cells #[.bool xb, .slice a1 n1 c1, .slice ka kl kc, .slice a3 n3 c3, .bool xe, .slice a5 n5 c5, .int .i64 xc] 54 (0, 0)) := by
    rw [hW0]; simpa using heap_alloc_new (w.alloc (.cells #[.slice la ln lc, .slice wa ln wc] 70)) (.cells #[.bool xb, .slice a1 n1 c1, .slice ka kl kc, .slice a3 n3 c3, .bool xe, .slice a5 n5 c5, .int .i64 xc] 54)
  have d0 : W0.cell? ⟨w.heap.size, 0, none⟩ = some (.slice la ln lc) := by rw [cell_of b0]; simp
  have d1 : W0.cell? ⟨w.heap.size, 1, none⟩ = some (.slice wa ln wc) := by rw [cell_of b0]; simp
  have f2 : W0.cell? ⟨w.heap.size + 1, 2, none⟩ = some (.slice ka kl kc) := by rw [cell_of b1]; simp
  clear b0 b1
  go_enter Tryd.func50, Tryd.ntmps50
  go_wp2_with fail
  rw [← hW0]
  refine (HPB.out _).mono ?_
  rintro e w2 ⟨v, rfl, hPR, hG2⟩
  have HG2 : Hid (Grown W0 w2) := hG2
  have HPR : Hid (PR w2 v (backP r)) := hPR.grown (HG0.out.trans hG2)
  obtain ⟨pa, pc, rfl, _, _⟩ := hPR
  obtain ⟨l, hl⟩ : ∃ l, backP r = l := ⟨_, rfl⟩
  rw [hl] at HPR HL HR HPC ⊢
  obtain ⟨nb, hnb⟩ : ∃ nb, l.length = nb := ⟨_, rfl⟩
  have HNB : Hid (l.length = nb) := hnb
  rw [hnb] at HPR HL ⊢
  have hnbI : (nb : Int) ≤ 16 := by have := HL.out; omega
  have e0 := hG2.cellv d0
  have e1 := hG2.cellv d1
  have e2 := hG2.cellv f2
  clear hnb hG2 HPB hl hW0 d0 d1 f2
  obtain ⟨bx, hbx⟩ : ∃ bx, w.heap.size = bx := ⟨_, rfl⟩
  rw [hbx] at e0 e1 e2 ⊢
  clear hbx
  go_wp2
  go_loopw [6, 7, 8] (fun vn vc vi wr => ∃ (k : Nat) (n c : Int), vi = .int .i64 k ∧ vn = .int .i64 n ∧ vc = .int .i64 c ∧ k ≤ nb ∧ Hid (n = 1 + pcS L W (l.take k) ∧ c = copN (l.take k)) ∧ (0 ≤ n ∧ n ≤ 1 + 64 * k) ∧ (0 ≤ c ∧ c ≤ k) ∧ Grown w2 wr) (fun _ _ vi _ => nb - (intOf vi).toNat)
  case atStart => exact ⟨0, 1, 0, rfl, rfl, rfl, by omega, ⟨by simp [pcS], by simp [copN]⟩, ⟨by omega, by omega⟩, ⟨by omega, by omega⟩, Grown.refl _⟩
  case round =>
    obtain ⟨k, n, c, rfl, rfl, rfl, hk, HX, ⟨hn0, hn1⟩, ⟨hc0, hc1⟩, hG⟩ := hrel
    have hk0 : (0 : Int) ≤ (k : Int) := by omega
    by_cases hlt : k < nb
    · have hlt' : (k : Int) < (nb : Int) := by omega
      have hkb : k < l.length := by rw [HNB.out]; exact hlt
      obtain ⟨a', c', e', _, hPr⟩ := HPR.out
      obtain ⟨pg, po, ha', hPd⟩ := hPr.resolve_left (fun e => by rw [e] at hkb; simp at hkb)
      injection e' with e1' e2' e3'
      clear e2' e3'
      rw [ha'] at e1'
      subst e1'
      obtain ⟨tv, x0, x1, x2, x3, x4⟩ := hPd k hkb
      have y0 := hG.cellv x0
      obtain ⟨hkind, htl⟩ := HPC.out _ (List.getElem_mem hkb)
      have hS1 : Hid (pcS L W (l.take (k + 1)) = pcS L W (l.take k) + pcW L W l[k] ∧ copN (l.take (k + 1)) = copN (l.take k) + if l[k].k = 2 then 1 else 0) := ⟨by rw [take_pc hkb, pcS_snoc], by rw [take_pc hkb, copN_snoc]⟩
      have hpw := pcW_in (L := L) HB.out.1 l[k]
      obtain ⟨p, hp⟩ : ∃ p, l[k] = p := ⟨_, rfl⟩
      rw [hp] at x0 x1 x4 y0 hkind htl hS1 hpw
      clear hPr ha' hPd hp
      obtain ⟨pk, hpk⟩ : ∃ pk, p.k = pk := ⟨_, rfl⟩
      rw [hpk] at y0 hkind
      rcases hkind with h1 | h1 | h1
      · as_aux_lemma =>
          subst h1
          have hpW : pcW L W p = bAt W (plc L p.u) := by rw [pcW, if_pos hpk]
          obtain ⟨u, hu⟩ : ∃ u, p.u = u := ⟨_, rfl⟩
          rw [hu] at hpW x1
          have hpl := plc_lt u HB.out.2.1
          obtain ⟨pl, hpl'⟩ : ∃ pl, plc L u = pl := ⟨_, rfl⟩
          rw [hpl'] at hpW hpl
          rw [HN.out] at hpl
          have hplI : (pl : Int) < (ln : Int) := by omega
          have hpl0 : (0 : Int) ≤ (pl : Int) := by omega
          obtain ⟨wg, wo, hwa, cw⟩ := ir_cell (HW.out wr (HG0.out.trans (HG2.out.trans hG))) (j := pl) (by rw [HB.out.2.2, HN.out]; exact hpl)
          subst hwa
          rw [← hpW] at cw
          generalize pcW L W p = x at hpW cw hpw hS1
          have HC : Hid (∀ m os, Calls Tryd.prog 31 #[.slice la ln lc, .int .i64 u] (Go.Sort.grow (wr.drewN m) os) fun e w' => e = .returned (.int .i64 pl) ∧ Grown (Go.Sort.grow (wr.drewN m) os) w') := fun m os => by
            have := HPl.out _ u ((HG0.out.trans (HG2.out.trans hG)).quiet m os)
            rw [hpl'] at this; exact this
          have HGW : Hid (∀ m os, Grown w2 (Go.Sort.grow (wr.drewN m) os)) := fun m os => hG.quiet m os
          have HF : Hid (n + x = 1 + pcS L W (l.take (k + 1)) ∧ c = copN (l.take (k + 1))) := ⟨by rw [hS1.out.1, HX.out.1]; omega, by rw [hS1.out.2, HX.out.2, if_neg (by omega)]; omega⟩
          have k0 := fun m os => ((Grown.refl wr).quiet m os).cellv (hG.cellv e0)
          have k1 := fun m os => ((Grown.refl wr).quiet m os).cellv (hG.cellv e1)
          have k2 := fun m os => ((Grown.refl wr).quiet m os).cellv (hG.cellv x1)
          have k3 := fun m os => ((Grown.refl wr).quiet m os).cellv cw
          clear hpW hpl' hu HX hS1 x0 x1 x2 x3 x4 hG cw e0 e1 e2 hpk
          go_wp2
          refine wp_region_quiet_grown mixed (by kernel_rfl) ?_
          repeat (go_big_quiet_step ((go_at_call 31; exact grown_of (HC.out _ _))))
          refine wpQuiet_nil ?_
          intro _ hw'
          obtain ⟨⟨nq, osq⟩, hw''⟩ := hw'
          subst hw''
          go_wp2
          exact ⟨⟨k + 1, n + x, c, by go_num, by go_num, rfl, by omega, HF, ⟨by omega, by omega⟩, ⟨by omega, by omega⟩, HGW.out _ _⟩, by simp [intOf]; omega⟩
      · as_aux_lemma =>
          subst h1
          have hpW : pcW L W p = 0 := by rw [pcW, if_neg (by omega), if_neg (by omega)]
          have HF : Hid (n = 1 + pcS L W (l.take (k + 1)) ∧ c + 1 = copN (l.take (k + 1))) := ⟨by rw [hS1.out.1, HX.out.1, hpW]; omega, by rw [hS1.out.2, HX.out.2, if_pos hpk]⟩
          clear hpW HX hS1 x0 x1 x2 x3 x4 e0 e1 e2 hpk hpw
          go_wp2
          exact ⟨⟨k + 1, n, c + 1, by go_num, rfl, by go_num, by omega, HF, ⟨by omega, by omega⟩, ⟨by omega, by omega⟩, hG⟩, by simp [intOf]; omega⟩
      · as_aux_lemma =>
          subst h1
          have hpW : pcW L W p = grt L W p.tl := by rw [pcW, if_neg (by omega), if_pos hpk]
          generalize pcW L W p = x at hpW hpw hS1
          have HTL : Hid (∀ V, Grown wr V → Rs V tv p.tl) := fun V hg => x4.grown (hG.trans hg)
          obtain ⟨ta, tn, tc, rfl⟩ := x4.sl
          have HC : Hid (∀ m os, Calls Tryd.prog 72 #[.agg #[.slice la ln lc, .slice wa ln wc], .slice ta tn tc] (Go.Sort.grow (wr.drewN m) os) fun e w' => e = .returned (.int .i64 x) ∧ Grown (Go.Sort.grow (wr.drewN m) os) w') := fun m os => by
            have := HPg.out _ _ p.tl ((HG0.out.trans (HG2.out.trans hG)).quiet m os) (HTL.out _ ((Grown.refl wr).quiet m os)) htl
            rw [← hpW] at this; exact this
          have HGW : Hid (∀ m os, Grown w2 (Go.Sort.grow (wr.drewN m) os)) := fun m os => hG.quiet m os
          have HF : Hid (n + x = 1 + pcS L W (l.take (k + 1)) ∧ c = copN (l.take (k + 1))) := ⟨by rw [hS1.out.1, HX.out.1]; omega, by rw [hS1.out.2, HX.out.2, if_neg (by omega)]; omega⟩
          have k0 := fun m os => ((Grown.refl wr).quiet m os).cellv (hG.cellv e0)
          have k1 := fun m os => ((Grown.refl wr).quiet m os).cellv (hG.cellv e1)
          have k2 := fun m os => ((Grown.refl wr).quiet m os).cellv (hG.cellv x3)
          clear hpW HX hS1 x0 x1 x2 x3 x4 hG e0 e1 e2 hpk htl
          go_wp2
          refine wp_region_quiet_grown mixed (by kernel_rfl) ?_
          repeat (go_big_quiet_step ((go_at_call 72; exact grown_of (HC.out _ _))))
          refine wpQuiet_nil ?_
          intro _ hw'
          obtain ⟨⟨nq, osq⟩, hw''⟩ := hw'
          subst hw''
          go_wp2
          exact ⟨⟨k + 1, n + x, c, by go_num, by go_num, rfl, by omega, HF, ⟨by omega, by omega⟩, ⟨by omega, by omega⟩, HGW.out _ _⟩, by simp [intOf]; omega⟩
    · as_aux_lemma =>
        have hge : ¬ (k : Int) < (nb : Int) := by omega
        have hkn : k ≤ 16 := by omega
        have HQ : Hid (n - ((kl : Int) - 1 - c) = R) := by
          show _ = R
          rw [← HR.out]
          have := HX.out
          rw [List.take_of_length_le (by rw [HNB.out]; omega)] at this
          rw [this.1, this.2]
        have g2 := hG.cellv e2
        clear HX HR e0 e1 e2
        go_wp2
        go_ret
        exact ⟨by rw [HQ.out]; rfl, HG0.out.trans (HG2.out.trans hG)⟩

theorem Hid.mk' {p : Prop} (h : p) : Hid p := h

theorem step_push2 {ops : Array Oper} {o : Oper} {a : Act} {K : Act → World → Prop} {Q : Exit → Act → World → Prop} {E : Prop} {w : World} (hgd : o.guard = none) (s x : Operand) (t : TypeId)
    (ho : o.op = .call { callee := .builtin .append, args := #[s, x], argTypes := #[t, t] }) (ht : Tryd.prog.underlying t = some (.slice 3))
    (base : Nat) (v : Value) (l : List Int) (hs : a.eval s = v) (hown : OwnI w base v l) (g c : Nat) (p q : Int) (hx : a.eval x = .slice (some ⟨g, 0, none⟩) 2 c)
    (hp : w.cell? ⟨g, 0, none⟩ = some (.int .i64 p)) (hq : w.cell? ⟨g, 1, none⟩ = some (.int .i64 q)) (hl : l.length + 2 ≤ 8796093022208) (hbase : base ≤ w.heap.size)
    (h : ∀ v' w', OwnI w' base v' (l ++ [p, q]) → Below base w w' → K (a.put o.dst v') w') : if Region.wanted o (yielded ops a.tmps) = true then Oper.wp Tryd.prog o a w K Q else E := by
  obtain ⟨i0, hi, hz0, hz1, hz2⟩ := info_parts iinfo3
  refine step_append_lies w hgd s x t ho base 3 i0 (.int .i64 0) 1 8 ht hi hz0 hz1 hz2 rfl (by decide) v l.length (ints l) hs hown ⟨g, 0, none⟩ 2 c (ints [p, q]) hx rfl ?_ (fun u hu => by simp [ints] at hu; rcases hu with rfl | rfl <;> rfl) (by omega) (by unfold maxLen; omega) (by omega) hbase _ rfl (fun g' cap w' h2 h3 _ _ => h _ w' ?_ ((Below.refl _ w).grown h3 hbase (fun k hk => (World.ownsRow.lt hown k hk).1)))
  · intro j u hj
    match j, hj with
    | 0, hj => simp [ints] at hj; subst hj; exact hp
    | 1, hj => simp [ints] at hj; subst hj; exact hq
  · unfold OwnI
    rw [ints_append, List.length_append]
    exact h2
def endsL (s : List (Int × Int)) : List Int := s.flatMap fun x => [x.1, x.2 + 1]
theorem endsL_succ {s : List (Int × Int)} {k : Nat} (hk : k < s.length) : endsL (s.take (k + 1)) = endsL (s.take k) ++ [(rg s k).1, (rg s k).2 + 1] := by
  rw [List.take_add_one, List.getElem?_eq_getElem hk, rg_lt hk]
  unfold endsL
  rw [List.flatMap_append]
  simp
theorem endsL_len (s : List (Int × Int)) : (endsL s).length = 2 * s.length := by
  induction s with
  | nil => rfl
  | cons x s ih => simp [endsL] at ih ⊢; omega
theorem OwnI.sl {w : World} {base : Nat} {v : Value} {l : List Int} (h : OwnI w base v l) : ∃ a c, v = .slice a l.length c := by
  obtain ⟨a, c, e, _⟩ := h.ir
  exact ⟨a, c, e⟩
set_option maxHeartbeats 4000000 in
theorem ends_any (v sv : Value) (l : List Int) (s : List (Int × Int)) (w w0 : World) (hS : Rs w0 sv s) (hB : Below w0.heap.size w0 w) (hO : OwnI w w0.heap.size v l) (hb : ∀ x ∈ s, -9000000000000000000 ≤ x.2 ∧ x.2 ≤ 9000000000000000000) (hl : l.length + 2 * s.length ≤ 8796093022208) :
    Calls Tryd.prog 70 #[v, sv] w fun e w' => ∃ v', e = .returned v' ∧ OwnI w' w0.heap.size v' (l ++ endsL s) ∧ Below w0.heap.size w w' := by
  have HS : Hid (∀ V, Below w0.heap.size w V → Rs V sv s) := fun V hv => hS.below (hB.trans hv) (Nat.le_refl _)
  have HB : Hid (∀ x ∈ s, -9000000000000000000 ≤ x.2 ∧ x.2 ≤ 9000000000000000000) := hb
  have HL : Hid (l.length + 2 * s.length ≤ 8796093022208) := hl
  have HO : Hid (OwnI w w0.heap.size v l) := hO
  obtain ⟨sa, sc, hsv, _, _⟩ := hS
  subst hsv
  obtain ⟨n, hn⟩ : ∃ n, s.length = n := ⟨_, rfl⟩
  have HN : Hid (s.length = n) := hn
  rw [hn] at HS ⊢
  have hnI : (n : Int) ≤ 8796093022208 := by omega
  obtain ⟨b0, hb0⟩ : ∃ b0, w0.heap.size = b0 := ⟨_, rfl⟩
  have HZ : Hid (b0 ≤ w.heap.size) := by have := hB.size; show _ ≤ _; omega
  rw [hb0] at HS HO ⊢
  obtain ⟨va, vc, rfl⟩ := hO.sl
  generalize l.length = vn at HO ⊢
  clear hn hb hl hO hB hb0
  go_enter Tryd.func70, Tryd.ntmps70
  go_wp2
  go_loopw [0, 5] (fun vv vi wr => ∃ k : Nat, vi = .int .i64 k ∧ k ≤ n ∧ Hid (OwnI wr b0 vv (l ++ endsL (s.take k)) ∧ Below b0 w wr)) (fun _ vi _ => n - (intOf vi).toNat)
  case atStart => exact ⟨0, rfl, by omega, by simpa [endsL] using HO.out, Below.refl _ _⟩
  case round =>
    obtain ⟨k, rfl, hk, HX⟩ := hrel
    clear HO
    have hk0 : (0 : Int) ≤ (k : Int) := by omega
    by_cases hlt : k < n
    · have hlt' : (k : Int) < (n : Int) := by omega
      have hks : k < s.length := by rw [HN.out]; exact hlt
      obtain ⟨a', c', e', _, hrr⟩ := HS.out wr HX.out.2
      obtain ⟨sg, so, ha', hrd⟩ := hrr.resolve_left (fun e => by rw [e] at hks; simp at hks)
      injection e' with e1 e2 e3
      clear e2 e3
      rw [ha'] at e1
      subst e1
      obtain ⟨q1, q2⟩ := hrd k hks
      have hbd := HB.out (rg s k) (by rw [rg_lt hks]; exact List.getElem_mem hks)
      have HE : Hid (endsL (s.take (k + 1)) = endsL (s.take k) ++ [(rg s k).1, (rg s k).2 + 1]) := endsL_succ hks
      obtain ⟨x, hx⟩ : ∃ x, (rg s k).1 = x := ⟨_, rfl⟩
      obtain ⟨y, hy⟩ : ∃ y, (rg s k).2 = y := ⟨_, rfl⟩
      rw [hx] at q1 HE
      rw [hy] at q2 HE hbd
      obtain ⟨y0, y1⟩ := hbd
      have HY : Hid (IntKind.i64.wrap (y + 1) = y + 1) := IntWalk.i64_in _ ⟨by omega, by omega⟩
      obtain ⟨va', vc', rfl⟩ := HX.out.1.sl
      have HW : Hid (∀ W, Grown wr W → OwnI W b0 (.slice va' (l ++ endsL (s.take k)).length vc') (l ++ endsL (s.take k)) ∧ b0 ≤ W.heap.size) := fun W hg => ⟨HX.out.1.below hg.below (Nat.le_refl _), by have := HX.out.2.size; have := HZ.out; have := hg.size; omega⟩
      have HLN : Hid ((l ++ endsL (s.take k)).length + 2 ≤ 8796093022208) := by
        show _ ≤ _
        have := HL.out
        rw [List.length_append, endsL_len, List.length_take]
        omega
      have HF : Hid (∀ v' W w', Grown wr W → OwnI w' b0 v' ((l ++ endsL (s.take k)) ++ [x, y + 1]) → Below b0 W w' → OwnI w' b0 v' (l ++ endsL (s.take (k + 1))) ∧ Below b0 w w') := fun v' W w' hg h1 h2 => ⟨by rw [HE.out, ← List.append_assoc]; exact h1, (HX.out.2.trans (hg.below.mono (by have := HX.out.2.size; have := HZ.out; omega))).trans h2⟩
      generalize (l ++ endsL (s.take k)).length = vn at HW ⊢
      clear hrr hrd hx hy ha' HX
      go_wp2
      go_region_law (refine step_push2 rfl (.tmp 12) (.tmp 24) 40 rfl Tryd.underlying40 b0 (.slice va' vn vc') (l ++ endsL (s.take k)) rfl (HW.out _ (by (repeat (first | exact Grown.refl _ | refine Grown.alloc ?_ _ | refine Grown.drew ?_ | refine Grown.drewN ?_ _ | refine Grown.quiet ?_ _ _)))).1 _ _ x (y + 1) rfl (by simp) (by first | (simp; done) | (simp; exact HY.out)) HLN.out (HW.out _ (by (repeat (first | exact Grown.refl _ | refine Grown.alloc ?_ _ | refine Grown.drew ?_ | refine Grown.drewN ?_ _ | refine Grown.quiet ?_ _ _)))).2 ?_; intro v2 w2 hO2 hB2; have HO2 : Hid (OwnI w2 b0 v2 (l ++ endsL (s.take (k + 1))) ∧ Below b0 w w2) := HF.out _ _ _ (by (repeat (first | exact Grown.refl _ | refine Grown.alloc ?_ _ | refine Grown.drew ?_ | refine Grown.drewN ?_ _ | refine Grown.quiet ?_ _ _))) hO2 hB2; clear hO2 hB2)
      all_goals (go_wp2; exact ⟨⟨k + 1, by go_num, by omega, HO2⟩, by simp [intOf]; omega⟩)
    · as_aux_lemma =>
        have hge : ¬ (k : Int) < (n : Int) := by omega
        obtain ⟨hX1, hX2⟩ := HX.out
        rw [List.take_of_length_le (by rw [HN.out]; omega)] at hX1
        have HQ := Hid.mk' (And.intro hX1 hX2)
        clear hX1 hX2
        clear HX
        go_wp2
        go_ret
        exact ⟨_, rfl, HQ.out⟩
end Go.Proofs
