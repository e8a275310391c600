/-
  The book is written into: spoil.
-/
import Derived.RangeFuncNested
import Derived.RangeFuncBound
import Derived.RangeFuncCalls
import Derived.RangeFuncLeaves
import Derived.Shelf.Abstract
import Derived.Shelf.RegionOpen
import Derived.WalkKit
import Derived.WalkSpells
import Derived.WalkLawsBesides
import Derived.OwnWalkIn
import Derived.TacticsInMore
import Derived.LoopNIn
import Derived.LoopIn
import Derived.BigQuiet
import Derived.RegionIn
import Derived.Deep.QuietTactic
import Derived.Deep.RegionWith
import Derived.Lib.OthersKept
import Derived.Maps.AppendAt
import Derived.Maps.OwnIn
import Derived.Lib.SmallJoins
import Derived.Deep.DeepCutAuto
import Derived.ArgAppend
import Derived.Deep.Upon
import Derived.Deep.AppendLies
import Derived.Test.YtmgkolelcflcbaaDoorB7
import Derived.Test.YtmgkolelcflcbaaDoorB4
namespace Go.Proofs
open Go.RowKit Go.Shelf

set_option maxRecDepth 100000
attribute [local go_sem] Oper.semAt_some
attribute [local go_sem ↓] Go.wp_at_zero Go.wp_at_succ
theorem W1.bz {w : World} {base hb : Nat} {ov wv : Value} {es : List BE} {f n : Nat} {W : World} (h : W1 w base hb ov wv es f n W) : base ≤ W.heap.size := by
  obtain ⟨es', h1, _⟩ := h.bk
  exact h1.bz
set_option maxHeartbeats 8000000 in
theorem spoil_any (base hb : Nat) (ov wv : Value) (es : List BE) (f N : Nat) (w : World) (h : Bok w base hb ov wv es f f es.length) (hes : es.length ≤ 40) (hN : N ≤ 800000) (hsm : ∀ e ∈ es, e.l.length ≤ N) :
    Calls Tryd.prog 22 #[.pointer (some ⟨hb, 0, none⟩)] w fun e w' => e = .returned (.bool true) ∧ Below base w w' := by
  obtain ⟨n, hnn⟩ : ∃ n, es.length = n := ⟨_, rfl⟩
  have HN : Hid (es.length = n) := hnn
  obtain ⟨oa, oc, rfl⟩ := row_nil h.out
  obtain ⟨wa, wc, rfl⟩ := row_nil h.want
  have HH : Hid (∀ W ov wv es f u t, Bok W base hb ov wv es f u t → Calls Tryd.prog 52 #[.pointer (some ⟨hb, 0, none⟩)] W fun e w' => e = .returned (.bool true) ∧ Grown W w') := fun W ov wv es f u t k => holds_any base hb ov wv es f u t W k
  have HB : Hid (Bok w base hb (.slice oa n oc) (.slice wa n wc) es f f n) := by rw [hnn] at h; exact h
  have HSM : Hid (∀ e ∈ es, e.l.length ≤ N) := hsm
  have HF : Hid (f ≤ n) := by have := h.fr; rw [hnn] at this; exact this
  have hnI : (n : Int) ≤ 40 := by omega
  have hfI : (f : Int) ≤ (n : Int) := by have := HF.out; omega
  clear h hsm hnn
  go_enter Tryd.func22, Tryd.ntmps22
  go_wp2_with fail
  refine (HH.out w _ _ _ _ _ _ HB.out).mono ?_
  rintro e w3 ⟨rfl, hg3⟩
  have HB3 : Hid (W1 w base hb (.slice oa n oc) (.slice wa n wc) es f n w3) := W1.grown ⟨⟨es, HB.out, Alike.refl _⟩, Below.refl _ _⟩ hg3
  have c0 : w3.cell? ⟨hb, 0, none⟩ = some (.slice oa n oc) := (HB.out.grown hg3).cell.1
  have c2 : w3.cell? ⟨hb, 2, none⟩ = some (.int .i64 f) := (HB.out.grown hg3).cell.2.2
  clear hg3
  go_wp2
  go_loopw [6] (fun vi wr => ∃ i : Nat, vi = .int .i64 i ∧ f ≤ i ∧ i ≤ n ∧ Hid (W1 w base hb (.slice oa n oc) (.slice wa n wc) es f n wr)) (fun vi _ => n - (intOf vi).toNat)
  case atStart => exact ⟨f, rfl, Nat.le_refl _, HF.out, HB3⟩
  case round =>
    obtain ⟨i, rfl, hfi, hin, HW⟩ := hrel
    clear c0 c2 HB3
    have hpos : (0 : Int) ≤ (i : Int) := by omega
    have hiI : (i : Int) ≤ 40 := by omega
    by_cases hlt : i < n
    · as_aux_lemma =>
        have hlt' : (i : Int) < (n : Int) := by omega
        obtain ⟨es', hB', hA'⟩ := HW.out.bk
        have hlen : es'.length = n := hA'.len.trans HN.out
        have hn0 : es'.length ≠ 0 := by omega
        obtain ⟨g0, rfl, _, hoc, hoe⟩ := row_same hB'.out hn0
        obtain ⟨g1, rfl, _, hwc, hwe⟩ := row_same hB'.want hn0
        rw [hlen] at hoc hwc
        have hil : i < es'.length := by omega
        obtain ⟨ei, hei⟩ : ∃ e, es'[i]? = some e := ⟨es'[i], by simp [hil]⟩
        have hmi := List.mem_of_getElem? hei
        obtain ⟨ea, ec, heo⟩ := (hB'.ro ei hmi).form
        obtain ⟨fa, fc, hew⟩ := (hB'.rw ei hmi).form
        have hLs := hB'.sm ei hmi
        have HB2 : Hid (W1 w base hb (.slice (some ⟨g0, 0, none⟩) n oc) (.slice (some ⟨g1, 0, none⟩) n wc) es' f n wr) := ⟨⟨es', hB', Alike.refl _⟩, HW.out.bel⟩
        have HA : Hid (Alike es es') := hA'
        have HFI : Hid (f ≤ i ∧ i < n) := ⟨hfi, hlt⟩
        obtain ⟨L, hL⟩ : ∃ L, ei.l.length = L := ⟨_, rfl⟩
        rw [hL] at hLs heo hew
        have HL : Hid (ei.l.length = L ∧ ei.o = .slice ea L ec ∧ ei.w = .slice fa L fc ∧ es'[i]? = some ei) := ⟨hL, heo, hew, hei⟩
        have hLI : (L : Int) ≤ 2000000 := by omega
        clear hB' hA' hlen hn0 hoe hwe hil hei hmi heo hew hL HW
        go_wp2
        go_loopw [7] (fun vk wr2 => ∃ k : Nat, vk = .int .i64 k ∧ k ≤ L ∧ Hid (W1 w base hb (.slice (some ⟨g0, 0, none⟩) n oc) (.slice (some ⟨g1, 0, none⟩) n wc) es' f n wr2)) (fun vk _ => L - (intOf vk).toNat)
        case atStart => exact ⟨0, rfl, Nat.zero_le _, HB2⟩
        case round =>
          obtain ⟨k, rfl, hk, HW⟩ := hrel
          clear HB2
          have hkp : (0 : Int) ≤ (k : Int) := by omega
          obtain ⟨es2, hB2, hA2⟩ := HW.out.bk
          obtain ⟨hL, heo, hew, hei⟩ := HL.out
          obtain ⟨e2, he2, eo, ew, el⟩ := hA2.at hei
          have hm2 := List.mem_of_getElem? he2
          have hL2 : e2.l.length = L := el.trans hL
          have c0 := hB2.cell.1
          have ho2 : es2.length ≠ 0 := by have := (List.getElem?_eq_some_iff.1 he2).1; omega
          have ci : wr.cell? ⟨g0, i, none⟩ = some (.slice ea L ec) := by
            obtain ⟨g, e, _, _, hoe⟩ := row_same hB2.out ho2
            injection e with e
            injection e with e
            subst e
            rw [hoe i e2.o (by simp [he2]), eo, heo]
          by_cases hkl : k < L
          · as_aux_lemma =>
              have hkl' : (k : Int) < (L : Int) := by omega
              have h1 := hB2.ro e2 hm2
              rw [eo, heo] at h1
              have h2 := hB2.rw e2 hm2
              rw [ew, hew] at h2
              obtain ⟨ga, oo, rfl, _, hca⟩ := h1.some (by omega)
              obtain ⟨gw, rfl, _, hcw⟩ := row_sameK h2 (by omega)
              rw [hL2] at hca hcw
              obtain ⟨cur1, q1, q2⟩ := h1.two (k := k) (by omega)
              have hT1 := two_of q1 q2 (-9 - (i : Int))
              have di : wr.cell? ⟨g1, i, none⟩ = some (.slice (some ⟨gw, 0, none⟩) L fc) := by
                obtain ⟨g, e, _, _, hoe⟩ := row_same hB2.want ho2
                injection e with e
                injection e with e
                subst e
                rw [hoe i e2.w (by simp [he2]), ew, hew]
              have HSec : Hid ((set2 wr ga (oo + k * 2) (-9 - (i : Int), 0)).cell? ⟨hb, 1, none⟩ = some (.slice (some ⟨g1, 0, none⟩) n wc) ∧ (set2 wr ga (oo + k * 2) (-9 - (i : Int), 0)).cell? ⟨g1, i, none⟩ = some (.slice (some ⟨gw, 0, none⟩) L fc) ∧ Two (set2 wr ga (oo + k * 2) (-9 - (i : Int), 0)) gw (k * 2) (-9 - (i : Int))) := by
                obtain ⟨a1, a2, a3⟩ := second hB2 he2 (k := k) (-9 - (i : Int), 0) (eo.trans heo) (ew.trans hew) (by omega) (-9 - (i : Int))
                exact ⟨a1, (a2 g1 rfl i).trans di, a3⟩
              have HMk : Hid (W1 w base hb (.slice (some ⟨g0, 0, none⟩) n oc) (.slice (some ⟨g1, 0, none⟩) n wc) es' f n (set2 (set2 wr ga (oo + k * 2) (-9 - (i : Int), 0)) gw (k * 2) (-9 - (i : Int), 0))) := W1.mark hB2 hA2 HW.out.bel he2 HFI.out.1 HFI.out.2 _ (eo.trans heo) (ew.trans hew)
              obtain ⟨⟨y0, u0⟩, v0, ⟨y1, u1⟩, v1⟩ := hT1
              clear q1 q2 hB2 hA2 hL heo hew hei he2 eo ew el hm2 hL2 h1 h2 ho2 di HW HL HA
              go_upto_region 11 with fail
              obtain ⟨w5, hw5⟩ : ∃ w5, w5 = set2 wr ga (oo + k * 2) (-9 - (i : Int), 0) := ⟨_, rfl⟩
              have hw5' : w5 = (wr.setCell ⟨ga, oo + k * 2, none⟩ (.int .i64 (-9 - (i : Int)))).setCell ⟨ga, oo + k * 2 + 1, none⟩ (.int .i64 0) := hw5
              rw [← hw5] at HSec HMk
              rw [← hw5']
              clear hw5 hw5' u0 v0 u1 v1 y0 y1 c0 ci
              obtain ⟨d1, d2, ⟨z0, u0⟩, v0, ⟨z1, u1⟩, v1⟩ := HSec.out
              clear HSec
              go_wp2
              exact ⟨⟨k + 1, by go_num, by omega, HMk⟩, by simp [intOf]; omega⟩
          · as_aux_lemma =>
              have hge : ¬ (k : Int) < (L : Int) := by omega
              have HX : Hid (W1 w base hb (.slice (some ⟨g0, 0, none⟩) n oc) (.slice (some ⟨g1, 0, none⟩) n wc) es f n wr) := by
                obtain ⟨es2, h1, h2⟩ := HW.out.bk
                exact ⟨⟨es2, h1, HA.out.trans h2⟩, HW.out.bel⟩
              clear HW HL HA hB2 hA2 hL heo hew hei he2 eo ew el hm2 hL2 ho2
              go_wp2
              exact ⟨⟨i + 1, by go_num, by omega, by omega, HX⟩, by simp [intOf]; omega⟩
    · obtain rfl : i = n := by omega
      have hge : ¬ (i : Int) < (i : Int) := by omega
      have HCl : Hid (Calls Tryd.prog 52 #[.pointer (some ⟨hb, 0, none⟩)] wr fun e w' => e = .returned (.bool true) ∧ Grown wr w') := by
        obtain ⟨es2, h1, _⟩ := HW.out.bk
        exact HH.out wr _ _ _ _ _ _ h1
      clear hfi hin hpos hlt HB
      go_wp2_with fail
      refine HCl.out.mono ?_
      rintro e w4 ⟨rfl, hg4⟩
      have HX : Hid (W2 w base hb f i N f w4) := (HW.out.grown hg4).w2 HN.out HSM.out
      clear HW HSM hg4 HCl
      obtain ⟨n, hnn⟩ : ∃ n, n = i := ⟨_, rfl⟩
      go_wp2
      subst hnn
      go_loopw [8] (fun vi wr => ∃ i : Nat, vi = .int .i64 i ∧ f ≤ i ∧ i ≤ n ∧ Hid (W2 w base hb f n N i wr)) (fun vi _ => n - (intOf vi).toNat)
      case atStart => exact ⟨f, rfl, Nat.le_refl _, HF.out, HX⟩
      case round =>
        obtain ⟨i, rfl, hfi, hin, HW⟩ := hrel
        clear HX hge
        have hpos : (0 : Int) ≤ (i : Int) := by omega
        have hiJ : (i : Int) ≤ 40 := by omega
        by_cases hlt : i < n
        · as_aux_lemma =>
            have hlt' : (i : Int) < (n : Int) := by omega
            obtain ⟨ov2, wv2, es2, hB2, hl2, hs2, ht2, hb2⟩ := HW.out
            have hil : i < es2.length := by omega
            have hm0 : es2.length ≠ 0 := by omega
            obtain ⟨ei, hei⟩ : ∃ e, es2[i]? = some e := ⟨es2[i], by simp [hil]⟩
            have hmi := List.mem_of_getElem? hei
            obtain ⟨oa2, oc2, rfl⟩ := row_nil hB2.out
            obtain ⟨wa2, wc2, rfl⟩ := row_nil hB2.want
            obtain ⟨g0, rfl, _, hoc, hoe⟩ := row_same hB2.out hm0
            obtain ⟨g1, rfl, _, hwc, hwe⟩ := row_same hB2.want hm0
            obtain ⟨ea, ec, heo⟩ := (hB2.ro ei hmi).form
            obtain ⟨fa, fc, hew⟩ := (hB2.rw ei hmi).form
            have hLN := hs2 i ei hlt hei
            have ci : wr.cell? ⟨g0, i, none⟩ = some ei.o := hoe i _ (by simp [hei])
            have di : wr.cell? ⟨g1, i, none⟩ = some ei.w := hwe i _ (by simp [hei])
            have hiw := (hB2.rw ei hmi).rs
            have hoo := hB2.ro ei hmi
            rw [heo] at ci hoo
            rw [hew] at di hiw
            obtain ⟨L, hL⟩ : ∃ L, ei.l.length = L := ⟨_, rfl⟩
            obtain ⟨m, hm⟩ : ∃ m, es2.length = m := ⟨_, rfl⟩
            have c0 := hB2.cell.1
            have c1 := hB2.cell.2.1
            have hz := hB2.bz
            rw [hL] at ci di hoo hiw hLN
            rw [hm] at c0 c1 hB2 hoc hwc
            have HM : Hid (es2.length = m ∧ m = n + (i - f) ∧ ei.l.length = L ∧ L ≤ N) := ⟨hm, by omega, hL, hLN⟩
            have him : (i : Int) < (m : Int) := by omega
            have hmI : (m : Int) ≤ 80 := by have := HN.out; omega
            have hmN : m ≤ 2000000 := by omega
            have HB2 : Hid (Bok wr base hb (.slice (some ⟨g0, 0, none⟩) m oc2) (.slice (some ⟨g1, 0, none⟩) m wc2) es2 f i n ∧ (es2[i]? = some ei ∧ ei.o = .slice ea L ec) ∧ OwnS wr base (.slice ea L ec) ei.l ∧ (∀ (j : Nat) (e : BE), j < n → es2[j]? = some e → e.l.length ≤ N) ∧ (∀ e ∈ es2, e.l.length ≤ N + 20) ∧ Below base w wr) := ⟨hB2, ⟨hei, by rw [heo, hL]⟩, hoo, hs2, ht2, hb2⟩
            have hO0 : OwnR (wr.alloc (.cells #[] 38)) wr.heap.size (.slice (some ⟨wr.heap.size, 0, none⟩) 0 0) [] := World.ownsRow_lit (e := 38) (size := 2) wr #[] 0 (Nat.le_refl _) (by unfold maxLen; omega) rfl
            have hR0 : Rs (wr.alloc (.cells #[] 38)) (.slice fa L fc) ei.l := hiw.below ((Below.refl _ wr).alloc (Nat.le_refl _) _) (Nat.le_refl _)
            have hb0 : wr.heap.size ≤ (wr.alloc (.cells #[] 38)).heap.size := by rw [World.size_alloc]; omega
            have e0 := cell_up c1 (.cells #[] 38)
            have e1 := cell_up di (.cells #[] 38)
            clear hB2 hl2 hs2 ht2 hb2 hil hm0 hoe hwe hei hmi heo hew hL hm hiw hoo HW
            go_upto_region 19 with (at_builtin; go_must (refine app_copyS rfl _ _ rfl wr.heap.size wr.heap.size (.slice fa L fc) ei.l rfl rfl hO0 hR0 (by have := HM.out; omega) hb0 ?_; intro v1 w5 hO5 hB5))
            have hE : Below wr.heap.size wr w5 := ((Below.refl _ wr).alloc (Nat.le_refl _) _).trans (hB5.mono hb0)
            obtain ⟨ma, mc, hmv⟩ := hO5.form
            rw [HM.out.2.2.1] at hmv
            have HT : Hid (T30 w base hb (.slice (some ⟨g0, 0, none⟩) m oc2) (.slice (some ⟨g1, 0, none⟩) m wc2) es2 f n i L (.slice ea L ec) (.slice ma L mc) 0 w5) := by
              obtain ⟨b1, b2, b3, _, _, b6⟩ := HB2.out
              rw [hmv] at hO5
              refine ⟨ei.l, ⟨b1.below hE (Nat.le_refl _), b3.below hE (Nat.le_refl _), hO5.le b1.bz, ?_, fun b hb' => ?_, Nat.le_refl _, hlt⟩, HM.out.2.2.1, b6.trans (hE.mono b1.bz)⟩
              · rcases b3 with ⟨e, _⟩ | ⟨g, o, cap, cur, e, _⟩
                · exact .inl fun b hb' => by rw [e] at hb'; cases hb'
                · exact .inr ⟨ei, g, o, _, _, cap, b2.1, b2.2.trans e, e, Nat.le_refl _⟩
              have h1 := (row_typ hO5 hb').1
              exact ⟨blks_size b1 h1, fun e => by have := b3.lt e; omega⟩
            have HS2 : Hid ((∀ (j : Nat) (e : BE), j < n → es2[j]? = some e → e.l.length ≤ N) ∧ ∀ e ∈ es2, e.l.length ≤ N + 20) := ⟨HB2.out.2.2.2.1, HB2.out.2.2.2.2.1⟩
            rw [hmv]
            clear hmv hE HB2 hO0 hR0 hb0 e0 e1 c0 c1 ci di hO5 hB5
            go_wp2
            go_loopw [9, 10, 11] (fun sl sm vk wr => ∃ (lv mv : Value) (k : Nat), lv = sl ∧ mv = sm ∧ vk = .int .i64 k ∧ k ≤ 20 ∧ Hid (T30 w base hb (.slice (some ⟨g0, 0, none⟩) m oc2) (.slice (some ⟨g1, 0, none⟩) m wc2) es2 f n i L lv mv k wr)) (fun _ _ vk _ => 20 - (intOf vk).toNat)
            case atStart => exact ⟨_, _, 0, rfl, rfl, rfl, by omega, HT⟩
            case round =>
              obtain ⟨lv, mv, k, rfl, rfl, rfl, hk, HW⟩ := hrel
              clear HT
              have hkp : (0 : Int) ≤ (k : Int) := by omega
              by_cases hk20 : k < 20
              · as_aux_lemma =>
                  have hkI : (k : Int) < 20 := by omega
                  obtain ⟨ll, hR, hll, hbl⟩ := HW.out
                  obtain ⟨la, lc, rfl⟩ := hR.lo.form
                  obtain ⟨mma, mmc, rfl⟩ := hR.mo.form
                  have HR := Hid.mk2 hR
                  have HLL : Hid (ll.length = L + k ∧ Below base w wr ∧ base ≤ wr.heap.size) := ⟨hll, hbl, hR.bk.bz⟩
                  have hl3 : ll.length ≤ 3000000 := by have := HM.out; omega
                  clear hR hll hbl HW
                  generalize (ll.length) = q at HR ⊢
                  go_upto_region 23 with (at_builtin; go_must (refine push_L30 rfl _ _ rfl rfl (HR.out.grown ((Grown.refl _).alloc _)) _ _ (-1000 - (i : Int), 0) rfl (cells2 rfl _ _) hl3 ?_; intro v1 w1 hR1 hB1 hs1; have HR1 := Hid.mk2 hR1; have HB1 := Hid.mk2 (((Below.refl _ wr).alloc HLL.out.2.2 _).trans hB1); obtain ⟨t1, t2, t3, ht1⟩ := hs1; subst ht1; clear hR1 hB1))
                  have hz1 : base ≤ w1.heap.size := HR1.out.bk.bz
                  clear HR
                  go_upto_region 21 with (at_builtin; go_must (refine push_M30 rfl _ _ rfl rfl (HR1.out.grown ((Grown.refl _).alloc _)) _ _ (-1000 - (i : Int), 0) rfl (cells2 rfl _ _) hl3 ?_; intro v2 w2 hR2 hB2 hs2; have HR2 := Hid.mk2 hR2; have HB2 := Hid.mk2 (((Below.refl _ w1).alloc hz1 _).trans hB2); obtain ⟨u1, u2, u3, ht2⟩ := hs2; subst ht2; clear hR2 hB2))
                  have HF : Hid (T30 w base hb (.slice (some ⟨g0, 0, none⟩) m oc2) (.slice (some ⟨g1, 0, none⟩) m wc2) es2 f n i L (.slice t1 t2 t3) (.slice u1 u2 u3) (k + 1) w2) := by
                    refine ⟨ll ++ [(-1000 - (i : Int), 0)], ?_, ?_, HLL.out.2.1.trans (HB1.out.trans HB2.out)⟩
                    · have := HR2.out
                      simpa using this
                    · have := HLL.out.1
                      simp
                      omega
                  clear HR1 HR2 HB1 HB2 HLL
                  go_wp2
                  exact ⟨⟨_, _, k + 1, rfl, rfl, by go_num, by omega, HF⟩, by simp [intOf]; omega⟩
              · as_aux_lemma =>
                  obtain rfl : k = 20 := by omega
                  obtain ⟨ll, hR, hll, hbl⟩ := HW.out
                  obtain ⟨la, lc, rfl⟩ := hR.lo.form
                  obtain ⟨mma, mmc, rfl⟩ := hR.mo.form
                  obtain ⟨q, hq⟩ : ∃ q, ll.length = q := ⟨_, rfl⟩
                  have hqL : q = L + 20 := by omega
                  have hlq : ll.length ≤ N + 20 := by have := HM.out; omega
                  rw [hq] at hR
                  have hR' : R30 wr base hb (.slice (some ⟨g0, 0, none⟩) m oc2) (.slice (some ⟨g1, 0, none⟩) m wc2) es2 f i n i (.slice la q lc) ll (.slice mma q mmc) ll := hR
                  have hB0 := hR'.bk
                  have c0 := hB0.cell.1
                  have HO : Hid (∀ ob, (wr.alloc ob).ownsRow base 29 1 (.slice (some ⟨g0, 0, none⟩) m oc2) m (es2.map BE.o) ∧ base ≤ (wr.alloc ob).heap.size) := fun ob => by
                    have := hB0.out
                    rw [HM.out.1] at this
                    exact ⟨World.ownsRow.alloc this ob, by have h1 : (wr.alloc ob).heap.size = wr.heap.size + 1 := Array.size_push _; have h2 := hB0.bz; omega⟩
                  have HK1 : Hid (∀ (g c : Nat) (ob : Obj) (w5 : World), w5.ownsRow base 29 1 (.slice (some ⟨g, 0, none⟩) (m + 1) c) (m + 1) (es2.map BE.o ++ [(.slice la q lc)]) → (wr.alloc ob).grownBy w5 (Value.ownBlock (.slice (some ⟨g0, 0, none⟩) m oc2)) → (Value.ownBlock (.slice (some ⟨g0, 0, none⟩) m oc2) = some g ∨ g = (wr.alloc ob).heap.size) → w5.heap[hb]? = some (.cells #[(.slice (some ⟨g0, 0, none⟩) m oc2), (.slice (some ⟨g1, 0, none⟩) m wc2), .int .i64 f] 27 (0, 0)) ∧ K1 wr base hb (.slice (some ⟨g0, 0, none⟩) m oc2) (.slice (some ⟨g1, 0, none⟩) m wc2) es2 f (.slice la q lc) ll (.slice (some ⟨g, 0, none⟩) (m + 1) c) (w5.setCell ⟨hb, 0, none⟩ (.slice (some ⟨g, 0, none⟩) (m + 1) c))) := fun g c ob w5 a b d => by
                    have := k1_of (l := ll) (lv := (.slice la q lc)) hB0 (g := g) (c := c) (ob := ob) (w5 := w5)
                    rw [HM.out.1] at this
                    exact this a b d
                  have HDn : Hid (∀ (ov' : Value) (w6 : World) (g c : Nat) (ob : Obj) (W3 : World), K1 wr base hb (.slice (some ⟨g0, 0, none⟩) m oc2) (.slice (some ⟨g1, 0, none⟩) m wc2) es2 f (.slice la q lc) ll ov' w6 → W3.ownsRow base 29 1 (.slice (some ⟨g, 0, none⟩) (m + 1) c) (m + 1) (es2.map BE.w ++ [(.slice mma q mmc)]) → (w6.alloc ob).grownBy W3 (Value.ownBlock (.slice (some ⟨g1, 0, none⟩) m wc2)) → (Value.ownBlock (.slice (some ⟨g1, 0, none⟩) m wc2) = some g ∨ g = (w6.alloc ob).heap.size) → W3.heap[hb]? = some (.cells #[ov', (.slice (some ⟨g1, 0, none⟩) m wc2), .int .i64 f] 27 (0, 0)) ∧ W2 w base hb f n N (i + 1) (W3.setCell ⟨hb, 1, none⟩ (.slice (some ⟨g, 0, none⟩) (m + 1) c))) := fun ov' w6 g c ob W3 k1 a b d => by
                    have hm := HM.out
                    have hd := R30.done (ob := ob) (g := g) (c := c) (W3 := W3) hR' (by omega) (by omega) (by omega) k1
                    rw [hm.1] at hd
                    obtain ⟨z1, z2, z3⟩ := hd a b d
                    refine ⟨z1, _, _, _, z2, by simp; omega, fun j e hj he => ?_, fun e he => ?_, hbl.trans z3⟩
                    · rw [List.getElem?_append_left (by omega)] at he
                      exact HS2.out.1 j e hj he
                    · rcases List.mem_append.1 he with he | he
                      · exact HS2.out.2 e he
                      · obtain rfl := List.mem_singleton.1 he
                        exact hlq
                  have HWt : Hid (∀ (ov' : Value) (w6 : World), K1 wr base hb (.slice (some ⟨g0, 0, none⟩) m oc2) (.slice (some ⟨g1, 0, none⟩) m wc2) es2 f (.slice la q lc) ll ov' w6 → w6.cell? ⟨hb, 1, none⟩ = some (.slice (some ⟨g1, 0, none⟩) m wc2) ∧ ∀ ob, (w6.alloc ob).ownsRow base 29 1 (.slice (some ⟨g1, 0, none⟩) m wc2) m (es2.map BE.w) ∧ base ≤ (w6.alloc ob).heap.size) := fun ov' w6 k1 => by
                    refine ⟨by simp [World.cell?, k1.bk], fun ob => ?_⟩
                    have := K1.want hB0 k1
                    rw [HM.out.1] at this
                    exact ⟨World.ownsRow.alloc this ob, by have h1 : (w6.alloc ob).heap.size = w6.heap.size + 1 := Array.size_push _; have h2 := hB0.bz; have h3 := k1.bel.size; omega⟩
                  rw [hq]
                  clear hR hR' hB0 hll hbl hq hqL hlq HW HS2
                  go_upto_region 25 with (at_builtin; go_must (refine app_L rfl _ _ rfl base (.slice (some ⟨g0, 0, none⟩) m oc2) m (es2.map BE.o) rfl (HO.out _).1 _ _ (.slice la q lc) rfl (cell_new1 _ _ _) ⟨_, _, _, rfl⟩ hmN (HO.out _).2 ?_; intro g c w5 ho5 hg5 hG5; have HX := Hid.mk2 (HK1.out g c _ w5 ho5 hg5 hG5); clear ho5 hg5 hG5; have c5 : w5.cell? ⟨hb, 0, none⟩ = some (.slice (some ⟨g0, 0, none⟩) m oc2) := (by simp [World.cell?, HX.out.1]); have f5 : w5.frozen? ⟨hb, 0, none⟩ = false := (by simp [World.frozen?, HX.out.1])))
                  obtain ⟨w6, hw6⟩ : ∃ w6, w6 = w5.setCell ⟨hb, 0, none⟩ (.slice (some ⟨g, 0, none⟩) (m + 1) c) := ⟨_, rfl⟩
                  rw [← hw6]
                  have HK := Hid.mk2 HX.out.2
                  rw [← hw6] at HK
                  clear hw6 c5 f5 HX HK1 HO c0
                  have c1 := (HWt.out _ _ HK.out).1
                  have HO := Hid.mk2 (HWt.out _ _ HK.out).2
                  have HD2 : Hid (∀ (g2 c2 : Nat) (ob : Obj) (W3 : World), W3.ownsRow base 29 1 (.slice (some ⟨g2, 0, none⟩) (m + 1) c2) (m + 1) (es2.map BE.w ++ [(.slice mma q mmc)]) → (w6.alloc ob).grownBy W3 (Value.ownBlock (.slice (some ⟨g1, 0, none⟩) m wc2)) → (Value.ownBlock (.slice (some ⟨g1, 0, none⟩) m wc2) = some g2 ∨ g2 = (w6.alloc ob).heap.size) → W3.heap[hb]? = some (.cells #[.slice (some ⟨g, 0, none⟩) (m + 1) c, (.slice (some ⟨g1, 0, none⟩) m wc2), .int .i64 f] 27 (0, 0)) ∧ W2 w base hb f n N (i + 1) (W3.setCell ⟨hb, 1, none⟩ (.slice (some ⟨g2, 0, none⟩) (m + 1) c2))) := fun g2 c2 ob W3 a b d => HDn.out _ w6 g2 c2 ob W3 HK.out a b d
                  clear HDn HWt HK
                  go_upto_region 15 with (at_builtin; go_must (refine app_L rfl _ _ rfl base (.slice (some ⟨g1, 0, none⟩) m wc2) m (es2.map BE.w) rfl (HO.out _).1 _ _ (.slice mma q mmc) rfl (cell_new1 _ _ _) ⟨_, _, _, rfl⟩ hmN (HO.out _).2 ?_; intro g2 c2 w7 ho7 hg7 hG7; have HX := Hid.mk2 (HD2.out g2 c2 _ w7 ho7 hg7 hG7); clear ho7 hg7 hG7; have c7 : w7.cell? ⟨hb, 1, none⟩ = some (.slice (some ⟨g1, 0, none⟩) m wc2) := (by simp [World.cell?, HX.out.1]); have f7 : w7.frozen? ⟨hb, 1, none⟩ = false := (by simp [World.frozen?, HX.out.1])))
                  have HF := Hid.mk2 HX.out.2
                  obtain ⟨w8, hw8⟩ : ∃ w8, w8 = w7.setCell ⟨hb, 1, none⟩ (.slice (some ⟨g2, 0, none⟩) (m + 1) c2) := ⟨_, rfl⟩
                  rw [← hw8] at HF ⊢
                  clear hw8 c7 f7 HX HD2 HO c1
                  go_wp2
                  exact ⟨⟨i + 1, by go_num, by omega, by omega, HF⟩, by simp [intOf]; omega⟩
        · as_aux_lemma =>
            have hge : ¬ (i : Int) < (n : Int) := by omega
            obtain rfl : i = n := by omega
            obtain ⟨ov2, wv2, es2, hB2, hl2, hs2, ht2, hb2⟩ := HW.out
            obtain ⟨oa2, oc2, rfl⟩ := row_nil hB2.out
            have c0 := hB2.cell.1
            have c2 := hB2.cell.2.2
            have f2 : wr.frozen? ⟨hb, 2, none⟩ = false := by simp [World.frozen?, hB2.bk]
            have HFr := Hid.mk2 hB2.fresh
            have HS : Hid (Below base w (wr.setCell ⟨hb, 2, none⟩ (.int .i64 es2.length))) := hb2.setCell (p := ⟨hb, 2, none⟩) hB2.hb _
            clear hB2 hl2 hs2 ht2 hb2 HW
            obtain ⟨m, hm⟩ : ∃ m, es2.length = m := ⟨_, rfl⟩
            rw [hm] at c0 HFr HS
            clear hm
            go_upto_region 27 with fail
            obtain ⟨w5, hw5⟩ : ∃ w5, w5 = wr.setCell ⟨hb, 2, none⟩ (.int .i64 (m : Int)) := ⟨_, rfl⟩
            rw [← hw5] at HFr HS ⊢
            clear hw5 c0 c2 f2
            go_wp2_with fail
            refine (HH.out _ _ _ _ _ _ _ HFr.out).mono ?_
            rintro e w7 ⟨rfl, hg7⟩
            go_wp2
            go_ret
            exact ⟨rfl, HS.out.trans (hg7.below.mono HFr.out.bz)⟩
end Go.Proofs
