/-
  WeighFair, walked.
-/
import Derived.RangeFuncNested
import Derived.RangeFuncBound
import Derived.RangeFuncCalls
import Derived.RangeFuncLeaves
import Derived.Shelf.Abstract
import Derived.Shelf.RegionOpen
import Derived.WalkKit
import Derived.WalkSpells
import Derived.WalkLawsBesides
import Derived.OwnWalkIn
import Derived.TacticsInMore
import Derived.LoopNIn
import Derived.LoopIn
import Derived.BigQuiet
import Derived.RegionIn
import Derived.Deep.QuietTactic
import Derived.Deep.RegionWith
import Derived.Lib.OthersKept
import Derived.Maps.AppendAt
import Derived.Lib.SmallJoins
import Derived.Shelf.SlSortCmp.QuietGrown
import Derived.Deep.DeepCutAuto
import Derived.Test.YtkijbaofhodplaaDoorMgp
import Derived.Test.YtkijbaofhodplaaDoorRb
import Derived.Test.YtkijbaofhodplaaDoorMgq
namespace Go.Proofs
open Go.RowKit Go.Shelf

set_option maxRecDepth 100000
attribute [local go_sem] Oper.semAt_some
attribute [local go_sem ↓] Go.wp_at_zero Go.wp_at_succ
theorem PsR.take {w : World} {a : Option Addr} {n c : Nat} {rs : List Rl} (h : PsR w (.slice a n c) rs) {m : Nat} (hm : m ≤ n) : PsR w (.slice a m c) (rs.take m) := by
  obtain ⟨a', c', e, h1, h2⟩ := h
  injection e with e1 e2 e3
  subst e1 e2 e3
  have hl : (rs.take m).length = m := by simp; omega
  refine ⟨a, c, by rw [hl], by omega, ?_⟩
  by_cases hz : rs.take m = []
  · exact .inl hz
  · obtain ⟨g, o, h3, h4⟩ := h2.resolve_left (fun e => hz (by rw [e]; simp))
    refine .inr ⟨g, o, h3, fun j hj => ?_⟩
    rw [List.getElem_take]
    exact h4 j (by simp at hj; omega)
theorem wgh_zero {rs : List Rl} (h : (chkW rs).2 = 0) : ∃ st, wgh rs = (some st, 0, 0) := by
  obtain ⟨o, c, ho⟩ : ∃ o c, wgh rs = (o, c) := ⟨_, _, rfl⟩
  unfold chkW at h
  rw [ho] at h
  cases o with
  | none => exact absurd h (wgh_none ho)
  | some st =>
    refine ⟨st, ?_⟩
    rw [ho]
    unfold wgh at ho
    split at ho
    · injection ho with h1; cases h1
    · split at ho
      · injection ho with h1; cases h1
      · split at ho
        · injection ho with h1; cases h1
        · injection ho with _ h2; rw [← h2]
/-- what is known at the loop over units -/
structure FK (w W : World) (rs : List Rl) (qs : List Int) (st : St) (a : Option Addr) (n c : Nat) (fv av : Value) (b0 b7 : Nat) : Prop where
  t : Tab W
  bl : Below w.heap.size w W
  p : PsR W (.slice a n c) rs
  f : PsR W fv (rs.take (n - 1))
  q : IR W av qs
  wg : wgh rs = (some st, 0, 0)
  c0 : W.cell? ⟨b0, 0, none⟩ = some (.slice a n c)
  c7 : W.cell? ⟨b7, 0, none⟩ = some fv
  ln : rs.length = n
theorem FK.next {w W W' : World} {rs : List Rl} {qs : List Int} {st : St} {a : Option Addr} {n c : Nat} {fv av : Value} {b0 b7 : Nat} (h : FK w W rs qs st a n c fv av b0 b7) (hb : Below W.heap.size W W') : FK w W' rs qs st a n c fv av b0 b7 :=
  ⟨h.t.below hb h.t.pos, h.bl.trans (hb.mono h.bl.size), h.p.below hb (Nat.le_refl _), h.f.below hb (Nat.le_refl _), h.q.below hb (Nat.le_refl _), h.wg, cell_below h.c0 hb (Nat.le_refl _), cell_below h.c7 hb (Nat.le_refl _), h.ln⟩
/-- whether a unit is in one of the first k first sets -/
def anyK (rs : List Rl) (u : Int) (k : Nat) : Bool := (List.range k).any fun i => hasB (fstS rs i) u
theorem anyK_succ (rs : List Rl) (u : Int) (k : Nat) : anyK rs u (k + 1) = (anyK rs u k || hasB (fstS rs k) u) := by
  unfold anyK
  rw [List.range_succ, List.any_append]
  simp
theorem anyK_no {rs : List Rl} {ws : List Int} {u : Int} {n : Nat} (h : anyK rs u n = false) : wgtK rs ws u n = 1 := by
  rcases wgtK_is (rs := rs) (ws := ws) (u := u) n with e | ⟨i, hi, h1, _⟩
  · exact e
  · exfalso
    unfold anyK at h
    rw [List.any_eq_false] at h
    exact h i (by simpa using hi) h1
set_option maxHeartbeats 8000000 in
theorem fair_any (v av : Value) (rs : List Rl) (qs : List Int) (w : World) (hT : Tab w) (hP : PsR w v rs) (hI : IR w av qs) (hl : rs.length ≤ maxLen) (hz : ∀ r ∈ rs, Go.Proofs.YtkijbaofhodplaaDoor.Lz r) :
    Calls Tryd.prog 5 #[.agg #[v], av] w fun e w' => e = .returned (.bool true) ∧ Below w.heap.size w w' := by
  have HT : Hid (Tab w) := hT
  have HP : Hid (PsR w v rs) := hP
  have HI : Hid (IR w av qs) := hI
  have HB : Hid (∀ W, Grown w W → Calls Tryd.prog 7 #[.agg #[v]] W (BeyQ W)) := fun W hg => beyond_any v rs W (hP.grown hg) hl hz
  have HSh : Hid (∀ W, Below w.heap.size w W → Calls Tryd.prog 8 #[] W fun e w' => e = .returned (.bool true) ∧ Below W.heap.size W w') := fun W hb => shown_any W (hT.below hb hT.pos)
  have HC : Hid (∀ W, Below w.heap.size w W → Calls Tryd.prog 13 #[.agg #[v]] W fun e w' => e = .returned (.tuple #[.int .i64 (chkW rs).1, .int .i64 (chkW rs).2]) ∧ Below W.heap.size W w') := fun W hb => wcheck_any v rs W (hT.below hb hT.pos) (hP.below hb (Nat.le_refl _))
  obtain ⟨va, vc, hv, _, _⟩ := hP
  obtain ⟨n, hn⟩ : ∃ n, rs.length = n := ⟨_, rfl⟩
  have HN : Hid (rs.length = n) := hn
  rw [hn] at hv
  subst hv
  obtain ⟨aa, an, ac, rfl⟩ := hI.sl
  obtain ⟨c1, hc1⟩ : ∃ c1, (chkW rs).1 = c1 := ⟨_, rfl⟩
  obtain ⟨c2, hc2⟩ : ∃ c2, (chkW rs).2 = c2 := ⟨_, rfl⟩
  have HCK : Hid ((chkW rs).2 = c2) := hc2
  rw [hc1, hc2] at HC
  clear hT hI hn hc1 hc2 hl hz
  obtain ⟨W0, hW0⟩ : ∃ W0, W0 = w.alloc (.cells #[.slice va n vc] 24) := ⟨_, rfl⟩
  have HG0 : Hid (Grown w W0) := by show Grown _ _; rw [hW0]; exact (Grown.refl _).alloc _
  have d0 : W0.cell? ⟨w.heap.size, 0, none⟩ = some (.slice va n vc) := by rw [hW0]; simp
  go_enter Tryd.func5, Tryd.ntmps5
  go_wp2_with fail
  rw [← hW0]
  clear hW0
  refine (HB.out W0 HG0.out).mono ?_
  rintro e W1 ⟨bb, rfl, hg1⟩
  have HB1 : Hid (Below w.heap.size w W1 ∧ Below W0.heap.size W0 W1) := ⟨(HG0.out.trans hg1).below, hg1.below⟩
  clear hg1 HB
  cases bb with
  | true =>
    as_aux_lemma =>
      go_wp2
      go_ret
      exact ⟨rfl, HB1.out.1⟩
  | false =>
    go_wp2_with fail
    refine (HSh.out W1 HB1.out.1).mono ?_
    rintro e W2 ⟨rfl, hb2⟩
    have HB2 : Hid (Below w.heap.size w W2 ∧ Below W0.heap.size W0 W2) := ⟨HB1.out.1.trans (hb2.mono HB1.out.1.size), HB1.out.2.trans (hb2.mono HB1.out.2.size)⟩
    have d2 := cell_below d0 HB2.out.2 (Nat.le_refl _)
    clear hb2 HB1 HSh
    go_wp2_with fail
    refine (HC.out W2 HB2.out.1).mono ?_
    rintro e W3 ⟨rfl, hb3⟩
    have HB3 : Hid (Below w.heap.size w W3 ∧ Below W0.heap.size W0 W3) := ⟨HB2.out.1.trans (hb3.mono HB2.out.1.size), HB2.out.2.trans (hb3.mono HB2.out.2.size)⟩
    have d3 := cell_below d0 HB3.out.2 (Nat.le_refl _)
    clear hb3 HB2 HC d2 d0
    by_cases hc : c2 = 0
    · subst hc
      obtain ⟨st, hst⟩ := wgh_zero HCK.out
      have HST : Hid (wgh rs = (some st, 0, 0)) := hst
      have hfin := wgh_fin hst
      have HFin : Hid (Fin rs st) := hfin
      have hn256 : (n : Int) ≤ 256 := by have := hfin.n; have := HN.out; omega
      clear hst hfin
      by_cases h40 : 40 < n
      · as_aux_lemma =>
          have h40' : (40 : Int) < (n : Int) := by omega
          go_wp2
          go_ret
          exact ⟨rfl, HB3.out.1⟩
      · have h40' : ¬ (40 : Int) < (n : Int) := by omega
        have hn0 : (0 : Int) ≤ (n : Int) := by omega
        have hd40 : decide ((40 : Int) < (n : Int)) = false := by simp; omega
        have hcapn : n ≤ vc := by have := HN.out; omega
        obtain ⟨b7, hb7⟩ : ∃ b7, W3.heap.size = b7 := ⟨_, rfl⟩
        have HB7 : Hid (W3.heap.size = b7) := hb7
        have HK0 : Hid (∀ (W : World) (fv : Value), Below W3.heap.size W3 W → W.cell? ⟨b7, 0, none⟩ = some fv → PsR W fv (rs.take (n - 1)) → FK w W rs qs st va n vc fv (.slice aa an ac) w.heap.size b7) := fun W fv hb hc hf => by
          have hbl := HB3.out.1.trans (hb.mono HB3.out.1.size)
          exact ⟨HT.out.below hbl HT.out.pos, hbl, HP.out.below hbl (Nat.le_refl _), hf, HI.out.below hbl (Nat.le_refl _), HST.out, cell_below d3 hb (Nat.le_refl _), hc, HN.out⟩
        have d3' := fun ob => cell_up d3 ob
        have HFE : Hid (chkW (rs.take (n - 1)) = (0, 0)) := (HFin.out.few_le HST.out (m := n - 1) (by have := HN.out; omega) 0).1
        by_cases hn1 : n = 0
        · as_aux_lemma =>
            have hnn : ¬ (0 : Int) < (n : Int) := by omega
            have hdn : decide ((0 : Int) < (n : Int)) = false := by simp; omega
            have HKW : Hid (FK w (W3.alloc (.cells #[.slice none 0 0] 24)) rs qs st va n vc (.slice none 0 0) (.slice aa an ac) w.heap.size b7) := by
              have hg : Grown W3 (W3.alloc (.cells #[.slice none 0 0] 24)) := (Grown.refl _).alloc _
              refine HK0.out _ _ hg.below ?_ ?_
              · rw [← HB7.out, cell_of (heap_alloc_new _ _)]; rfl
              · have : rs.take (n - 1) = [] := by rw [hn1]; simp
                rw [this]
                exact ⟨none, 0, rfl, Nat.le_refl _, .inl rfl⟩
            have HCF : Hid (∀ W, Below w.heap.size w W → Tab W → PsR W (.slice none 0 0) (rs.take (n - 1)) → Calls Tryd.prog 13 #[.agg #[.slice none 0 0]] W fun e w' => e = .returned (.tuple #[.int .i64 0, .int .i64 0]) ∧ Below W.heap.size W w') := fun W _ ht hp => by
              have := wcheck_any _ _ W ht hp
              rw [HFE.out] at this
              exact this
            clear HK0 HB3 hn1
            go_wp2_with fail
            refine (HCF.out _ HKW.out.bl HKW.out.t HKW.out.f).mono ?_
            rintro e W5 ⟨rfl, hb5⟩
            have HK5 : Hid (FK w W5 rs qs st va n vc (.slice none 0 0) (.slice aa an ac) w.heap.size b7) := HKW.out.next hb5
            clear hb5 HKW HCF
            go_wp2
            go_loopw [10] (fun vi wr => ∃ i : Nat, vi = .int .i64 i ∧ i ≤ an ∧ i ≤ 60 ∧ Hid (FK w wr rs qs st va n vc (.slice none 0 0) (.slice aa an ac) w.heap.size b7)) (fun vi _ => 60 - (intOf vi).toNat)
            case atStart => exact ⟨0, rfl, by omega, by omega, HK5⟩
            case round =>
              obtain ⟨i, rfl, hi, hi6, HK⟩ := hrel
              clear HK5
              have hi0 : (0 : Int) ≤ (i : Int) := by omega
              have hi60 : (i : Int) ≤ 60 := by omega
              by_cases hia : i < an
              · have hia' : (i : Int) < (an : Int) := by omega
                by_cases hib : i < 60
                · have hib' : (i : Int) < 60 := by omega
                  have hk := HK.out
                  obtain ⟨qa, qc, hq, _, hqr⟩ := hk.q
                  have hql : qs.length = an := by injection hq with _ h2; exact h2.symm
                  have hqa : aa = qa := by injection hq
                  subst hqa
                  have hiq : i < qs.length := by omega
                  obtain ⟨qg, qo, rfl, hqd⟩ := hqr.resolve_left (fun e => by rw [e] at hiq; simp at hiq)
                  have cq := hqd i hiq
                  obtain ⟨u, hu⟩ : ∃ u, qs[i] = u := ⟨_, rfl⟩
                  rw [hu] at cq
                  have HWp : Hid (Calls Tryd.prog 14 #[.agg #[.slice va n vc], .int .i64 u] wr fun e w' => e = .returned (.int .i64 (wgtP rs u)) ∧ Below wr.heap.size wr w') := wweight_any _ rs u wr hk.t hk.p
                  have k0 := hk.c0
                  have HU : Hid (wgtP rs u = if wd u = 0 then 0 else wgtK rs st.ws u rs.length) := wgtP_eq HST.out u
                  have hbnd := wgtP_bnd rs u
                  obtain ⟨x, hx⟩ : ∃ x, wgtP rs u = x := ⟨_, rfl⟩
                  have HX : Hid (wgtP rs u = x) := hx
                  rw [hx] at HWp HU hbnd
                  clear hk hq hqr hqd hql hiq hu hx
                  go_wp2_with fail
                  refine HWp.out.mono ?_
                  rintro e W6 ⟨rfl, hb6⟩
                  have HK6 : Hid (FK w W6 rs qs st va n vc (.slice none 0 0) (.slice (some ⟨qg, qo, none⟩) an ac) w.heap.size b7) := HK.out.next hb6
                  clear hb6 HWp HK cq k0
                  go_wp2_with fail
                  refine (rwidth_any u W6).mono ?_
                  rintro e w' ⟨rfl, hw⟩
                  obtain rfl := hw.symm
                  obtain ⟨d, hd⟩ : ∃ d, wd u = d := ⟨_, rfl⟩
                  have HD : Hid (wd u = d) := hd
                  rw [hd] at HU ⊢
                  clear hd
                  by_cases hd0 : d = 0
                  · as_aux_lemma =>
                      subst hd0
                      have hx0 : x = 0 := by have := HU.out; simpa using this
                      subst hx0
                      clear HU HX
                      go_wp2
                      exact ⟨⟨i + 1, by go_num, by omega, by omega, HK6⟩, by simp [intOf]; omega⟩
                  · have hd1 : (d == 0) = false := by simpa using hd0
                    have hx1 : 1 ≤ x := by
                      have := HU.out
                      rw [if_neg hd0] at this
                      rw [this]; exact wgtK_one _
                    have hxn1 : ¬ x < 1 := by omega
                    have hxn2 : ¬ 64 < x := by omega
                    have hxd1 : decide (x < 1) = false := by simp; omega
                    have hxd2 : decide (64 < x) = false := by simp; omega
                    have HWf : Hid (∃ y, y ≤ x ∧ Calls Tryd.prog 14 #[.agg #[.slice none 0 0], .int .i64 u] W6 fun e w' => e = .returned (.int .i64 y) ∧ Below W6.heap.size W6 w') := by
                      have hk := HK6.out
                      refine ⟨_, ?_, wweight_any _ _ u W6 hk.t hk.f⟩
                      rw [← HX.out]
                      exact (HFin.out.few_le HST.out (m := n - 1) (by have := HN.out; omega) u).2
                    obtain ⟨y, hyx, HWf⟩ := HWf.out
                    have HWF : Hid (Calls Tryd.prog 14 #[.agg #[.slice none 0 0], .int .i64 u] W6 fun e w' => e = .returned (.int .i64 y) ∧ Below W6.heap.size W6 w') := HWf
                    have hyd : decide (x < y) = false := by simp; omega
                    have hyn : ¬ x < y := by omega
                    have k7 := HK6.out.c7
                    clear HWf
                    go_wp2_with fail
                    refine HWF.out.mono ?_
                    rintro e W7 ⟨rfl, hb7'⟩
                    have HK7 : Hid (FK w W7 rs qs st va n vc (.slice none 0 0) (.slice (some ⟨qg, qo, none⟩) an ac) w.heap.size b7) := HK6.out.next hb7'
                    clear hb7' HWF HK6 k7
                    go_wp2
                    go_loopw [13, 14] (fun vf vk wx => ∃ (k : Nat) (b : Bool), vk = .int .i64 k ∧ vf = .bool b ∧ k ≤ n ∧ Hid (b = anyK rs u k) ∧ Hid (FK w wx rs qs st va n vc (.slice none 0 0) (.slice (some ⟨qg, qo, none⟩) an ac) w.heap.size b7)) (fun _ vk _ => n - (intOf vk).toNat)
                    case atStart => exact ⟨0, false, rfl, rfl, by omega, by show _ = _; simp [anyK], HK7⟩
                    case round =>
                      obtain ⟨k, b, rfl, rfl, hk, HA, HKk⟩ := hrel
                      clear HK7
                      have hk0 : (0 : Int) ≤ (k : Int) := by omega
                      have j0 := HKk.out.c0
                      by_cases hkn : k < n
                      · exfalso; omega
                      · have hge : ¬ (k : Int) < (n : Int) := by omega
                        have hkn2 : k = n := by omega
                        cases b with
                        | true =>
                          as_aux_lemma =>
                            go_wp2
                            exact ⟨⟨i + 1, by go_num, by omega, by omega, HKk⟩, by simp [intOf]; omega⟩
                        | false =>
                          as_aux_lemma =>
                            have hx2 : x = 1 := by
                              have h1 := HA.out
                              have h2 := HU.out
                              rw [if_neg hd0, HN.out] at h2
                              rw [hkn2] at h1
                              rw [h2]
                              exact anyK_no h1.symm
                            subst hx2
                            clear HU HX
                            go_wp2
                            exact ⟨⟨i + 1, by go_num, by omega, by omega, HKk⟩, by simp [intOf]; omega⟩
                · as_aux_lemma =>
                    have hge : ¬ (i : Int) < 60 := by omega
                    have HBL : Hid (Below w.heap.size w wr) := HK.out.bl
                    go_wp2
                    go_ret
                    exact ⟨rfl, HBL.out⟩
              · as_aux_lemma =>
                  have hge : ¬ (i : Int) < (an : Int) := by omega
                  have HBL : Hid (Below w.heap.size w wr) := HK.out.bl
                  go_wp2
                  go_ret
                  exact ⟨rfl, HBL.out⟩
        · as_aux_lemma =>
            obtain ⟨m, rfl⟩ : ∃ m, n = m + 1 := ⟨n - 1, by omega⟩
            have hm : (m : Int) + 1 ≤ 40 := by omega
            have hm0 : (0 : Int) ≤ (m : Int) := by omega
            have hmv : (m : Int) ≤ (vc : Int) := by omega
            have hmv' : (m : Int) + 1 ≤ (vc : Int) := by omega
            have hnn : (0 : Int) < (m : Int) + 1 := by omega
            have hdn : decide ((0 : Int) < (m : Int) + 1) = true := by simp
            have hdm : decide ((40 : Int) < (m : Int) + 1) = false := by simp; omega
            have hn4 : ¬ (40 : Int) < (m : Int) + 1 := by omega
            have hrl : rs ≠ [] := fun e => by have := HN.out; rw [e] at this; simp at this
            obtain ⟨va', vc', hv', _, hvr⟩ := HP.out
            obtain ⟨vg, vo, hva, _⟩ := hvr.resolve_left hrl
            have hvv : va = va' := by injection hv'
            subst hvv
            subst hva
            have HKW : Hid (FK w (W3.alloc (.cells #[.slice (some ⟨vg, vo, none⟩) m vc] 24)) rs qs st (some ⟨vg, vo, none⟩) (m + 1) vc (.slice (some ⟨vg, vo, none⟩) m vc) (.slice aa an ac) w.heap.size b7) := by
              have hg : Grown W3 (W3.alloc (.cells #[.slice (some ⟨vg, vo, none⟩) m vc] 24)) := (Grown.refl _).alloc _
              refine HK0.out _ _ hg.below ?_ ?_
              · rw [← HB7.out, cell_of (heap_alloc_new _ _)]; rfl
              · exact (HP.out.below (HB3.out.1.trans (hg.below.mono HB3.out.1.size)) (Nat.le_refl _)).take (by omega)
            have HCF : Hid (∀ W, Below w.heap.size w W → Tab W → PsR W (.slice (some ⟨vg, vo, none⟩) m vc) (rs.take (m + 1 - 1)) → Calls Tryd.prog 13 #[.agg #[.slice (some ⟨vg, vo, none⟩) m vc]] W fun e w' => e = .returned (.tuple #[.int .i64 0, .int .i64 0]) ∧ Below W.heap.size W w') := fun W _ ht hp => by
              have := wcheck_any _ _ W ht hp
              rw [HFE.out] at this
              exact this
            clear hv' hvr hd40 hn1 HK0 HB3
            go_wp2_with fail
            refine (HCF.out _ HKW.out.bl HKW.out.t HKW.out.f).mono ?_
            rintro e W5 ⟨rfl, hb5⟩
            have HK5 : Hid (FK w W5 rs qs st (some ⟨vg, vo, none⟩) (m + 1) vc (.slice (some ⟨vg, vo, none⟩) m vc) (.slice aa an ac) w.heap.size b7) := HKW.out.next hb5
            clear hb5 HKW HCF
            go_wp2
            go_loopw [10] (fun vi wr => ∃ i : Nat, vi = .int .i64 i ∧ i ≤ an ∧ i ≤ 60 ∧ Hid (FK w wr rs qs st (some ⟨vg, vo, none⟩) (m + 1) vc (.slice (some ⟨vg, vo, none⟩) m vc) (.slice aa an ac) w.heap.size b7)) (fun vi _ => 60 - (intOf vi).toNat)
            case atStart => exact ⟨0, rfl, by omega, by omega, HK5⟩
            case round =>
              obtain ⟨i, rfl, hi, hi6, HK⟩ := hrel
              clear HK5
              have hi0 : (0 : Int) ≤ (i : Int) := by omega
              have hi60 : (i : Int) ≤ 60 := by omega
              by_cases hia : i < an
              · have hia' : (i : Int) < (an : Int) := by omega
                by_cases hib : i < 60
                · have hib' : (i : Int) < 60 := by omega
                  have hk := HK.out
                  obtain ⟨qa, qc, hq, _, hqr⟩ := hk.q
                  have hql : qs.length = an := by injection hq with _ h2; exact h2.symm
                  have hqa : aa = qa := by injection hq
                  subst hqa
                  have hiq : i < qs.length := by omega
                  obtain ⟨qg, qo, rfl, hqd⟩ := hqr.resolve_left (fun e => by rw [e] at hiq; simp at hiq)
                  have cq := hqd i hiq
                  obtain ⟨u, hu⟩ : ∃ u, qs[i] = u := ⟨_, rfl⟩
                  rw [hu] at cq
                  have HWp : Hid (Calls Tryd.prog 14 #[.agg #[.slice (some ⟨vg, vo, none⟩) (m + 1) vc], .int .i64 u] wr fun e w' => e = .returned (.int .i64 (wgtP rs u)) ∧ Below wr.heap.size wr w') := wweight_any _ rs u wr hk.t hk.p
                  have k0 := hk.c0
                  have HU : Hid (wgtP rs u = if wd u = 0 then 0 else wgtK rs st.ws u rs.length) := wgtP_eq HST.out u
                  have hbnd := wgtP_bnd rs u
                  obtain ⟨x, hx⟩ : ∃ x, wgtP rs u = x := ⟨_, rfl⟩
                  have HX : Hid (wgtP rs u = x) := hx
                  rw [hx] at HWp HU hbnd
                  clear hk hq hqr hqd hql hiq hu hx
                  go_wp2_with fail
                  refine HWp.out.mono ?_
                  rintro e W6 ⟨rfl, hb6⟩
                  have HK6 : Hid (FK w W6 rs qs st (some ⟨vg, vo, none⟩) (m + 1) vc (.slice (some ⟨vg, vo, none⟩) m vc) (.slice (some ⟨qg, qo, none⟩) an ac) w.heap.size b7) := HK.out.next hb6
                  clear hb6 HWp HK cq k0
                  go_wp2_with fail
                  refine (rwidth_any u W6).mono ?_
                  rintro e w' ⟨rfl, hw⟩
                  obtain rfl := hw.symm
                  obtain ⟨d, hd⟩ : ∃ d, wd u = d := ⟨_, rfl⟩
                  have HD : Hid (wd u = d) := hd
                  rw [hd] at HU ⊢
                  clear hd
                  by_cases hd0 : d = 0
                  · as_aux_lemma =>
                      subst hd0
                      have hx0 : x = 0 := by have := HU.out; simpa using this
                      subst hx0
                      clear HU HX
                      go_wp2
                      exact ⟨⟨i + 1, by go_num, by omega, by omega, HK6⟩, by simp [intOf]; omega⟩
                  · have hd1 : (d == 0) = false := by simpa using hd0
                    have hx1 : 1 ≤ x := by
                      have := HU.out
                      rw [if_neg hd0] at this
                      rw [this]; exact wgtK_one _
                    have hxn1 : ¬ x < 1 := by omega
                    have hxn2 : ¬ 64 < x := by omega
                    have hxd1 : decide (x < 1) = false := by simp; omega
                    have hxd2 : decide (64 < x) = false := by simp; omega
                    have HWf : Hid (∃ y, y ≤ x ∧ Calls Tryd.prog 14 #[.agg #[.slice (some ⟨vg, vo, none⟩) m vc], .int .i64 u] W6 fun e w' => e = .returned (.int .i64 y) ∧ Below W6.heap.size W6 w') := by
                      have hk := HK6.out
                      refine ⟨_, ?_, wweight_any _ _ u W6 hk.t hk.f⟩
                      rw [← HX.out]
                      exact (HFin.out.few_le HST.out (m := m) (by have := HN.out; omega) u).2
                    obtain ⟨y, hyx, HWf⟩ := HWf.out
                    have HWF : Hid (Calls Tryd.prog 14 #[.agg #[.slice (some ⟨vg, vo, none⟩) m vc], .int .i64 u] W6 fun e w' => e = .returned (.int .i64 y) ∧ Below W6.heap.size W6 w') := HWf
                    have hyd : decide (x < y) = false := by simp; omega
                    have hyn : ¬ x < y := by omega
                    have k7 := HK6.out.c7
                    clear HWf
                    go_wp2_with fail
                    refine HWF.out.mono ?_
                    rintro e W7 ⟨rfl, hb7'⟩
                    have HK7 : Hid (FK w W7 rs qs st (some ⟨vg, vo, none⟩) (m + 1) vc (.slice (some ⟨vg, vo, none⟩) m vc) (.slice (some ⟨qg, qo, none⟩) an ac) w.heap.size b7) := HK6.out.next hb7'
                    clear hb7' HWF HK6 k7
                    go_wp2
                    go_loopw [13, 14] (fun vf vk wx => ∃ (k : Nat) (b : Bool), vk = .int .i64 k ∧ vf = .bool b ∧ k ≤ m + 1 ∧ Hid (b = anyK rs u k) ∧ Hid (FK w wx rs qs st (some ⟨vg, vo, none⟩) (m + 1) vc (.slice (some ⟨vg, vo, none⟩) m vc) (.slice (some ⟨qg, qo, none⟩) an ac) w.heap.size b7)) (fun _ vk _ => m + 1 - (intOf vk).toNat)
                    case atStart => exact ⟨0, false, rfl, rfl, by omega, by show _ = _; simp [anyK], HK7⟩
                    case round =>
                      obtain ⟨k, b, rfl, rfl, hk, HA, HKk⟩ := hrel
                      clear HK7
                      have hk0 : (0 : Int) ≤ (k : Int) := by omega
                      have j0 := HKk.out.c0
                      by_cases hkn : k < m + 1
                      · have hkn' : (k : Int) < ((m : Int) + 1) := by omega
                        have hkl : k < rs.length := by rw [HN.out]; exact hkn
                        have hK := HKk.out
                        obtain ⟨a', c', e', _, hPr⟩ := hK.p
                        obtain ⟨g, o, ha', hRA⟩ := hPr.resolve_left (fun e => by rw [e] at hkl; simp at hkl)
                        injection e' with z1 z2 z3
                        clear z2 z3
                        rw [ha'] at z1
                        injection z1 with z1
                        injection z1 with z1 z2
                        subst z1 z2
                        obtain ⟨rav, rkv, rpv, rrv, r0, r1, r2, r3, r4, r5, r6, hRR⟩ := hRA k hkl
                        have hOk := HFin.out.ok _ (List.getElem_mem hkl)
                        have hfair := fun h1 => HFin.out.fair HST.out hkl (u := u) h1 (by rw [HD.out]; exact hd0)
                        have hkk0 := hOk.k0
                        obtain ⟨ka, kc, hkv, _, hkk⟩ := hRR.k
                        obtain ⟨kg, ko, hka, hkd⟩ := hkk.resolve_left (fun e => by rw [e] at hkk0; simp at hkk0)
                        subst hka
                        obtain ⟨sv, hs0, hsr⟩ := hkd 0 hkk0
                        rw [Nat.add_zero] at hs0
                        subst hkv
                        have hfs : fstS rs k = rs[k].key[0] := by rw [fstS_at hkl]; simp [keyAt, hkk0]
                        have HRk : Hid (∀ W, Below wr.heap.size wr W → RR W rav (.slice (some ⟨kg, ko, none⟩) rs[k].key.length kc) rpv rrv rs[k]) := fun W hb => hRR.below hb (Nat.le_refl _)
                        have HH : Hid (∀ ob, Calls Tryd.prog 22 #[sv, .int .i64 u] (wr.alloc ob) fun e w' => e = .returned (.bool (hasB (fstS rs k) u)) ∧ Grown (wr.alloc ob) w') := fun ob => by
                          rw [hfs]
                          exact rhas_any sv _ u (wr.alloc ob) (hsr.grown ((Grown.refl _).alloc ob))
                        have HBK : Hid (∀ W, Below wr.heap.size wr W → Calls Tryd.prog 23 #[.agg #[.slice (some ⟨vg, vo, none⟩) (m + 1) vc], .agg #[.bool rs[k].bg, rav, .slice (some ⟨kg, ko, none⟩) rs[k].key.length kc, rpv, .bool rs[k].en, rrv, .int .i64 rs[k].cu]] W fun e w' => e = .returned (.int .i64 (bkS rs (backP rs[k]))) ∧ Below W.heap.size W w') := fun W hb => by
                          have hK' := HKk.out.next hb
                          exact backs_any _ rs rs[k] _ _ _ _ W hK'.t hK'.p (HRk.out W hb) hOk
                        have HGO : Hid (∀ W, Below wr.heap.size wr W → Calls Tryd.prog 24 #[.agg #[.bool rs[k].bg, rav, .slice (some ⟨kg, ko, none⟩) rs[k].key.length kc, rpv, .bool rs[k].en, rrv, .int .i64 rs[k].cu]] W fun e w' => e = .returned (.int .i64 ((rs[k].key.length : Int) - 1 - copN (backP rs[k]))) ∧ Below W.heap.size W w') := fun W hb =>
                          (goners_any rs[k] _ _ _ _ W (HRk.out W hb) hOk).mono fun _ _ ⟨h1, h2⟩ => ⟨h1, h2.below⟩
                        have hbb := bkS_bnd rs (backP rs[k])
                        have hbl16 : (backP rs[k]).length ≤ 16 := by have := hOk.r16; simp [backP]; omega
                        have hcb := copN_bound (backP rs[k])
                        have hk8 := hOk.k8
                        obtain ⟨a1, n1, d1, rfl⟩ := hRR.a.sl
                        obtain ⟨a3, n3, d3x, rfl⟩ := hRR.p.sl
                        obtain ⟨a5, n5, d5, rfl⟩ := hRR.r.sl
                        obtain ⟨s1, s2, s3, rfl⟩ := hsr.sl
                        have HAS : Hid (anyK rs u (k + 1) = (anyK rs u k || hasB (fstS rs k) u)) := anyK_succ _ _ _
                        rw [← HA.out] at HAS
                        obtain ⟨B, hB⟩ : ∃ B, bkS rs (backP rs[k]) = B := ⟨_, rfl⟩
                        obtain ⟨G, hG⟩ : ∃ G, (rs[k].key.length : Int) - 1 - copN (backP rs[k]) = G := ⟨_, rfl⟩
                        have hGb : -20 ≤ G ∧ G ≤ 20 := by rw [← hG]; omega
                        have hBb : 0 ≤ B ∧ B ≤ 2000 := by rw [← hB]; omega
                        rw [hB, hG, HX.out] at hfair
                        rw [hB] at HBK
                        rw [hG] at HGO
                        have hkn0 : (0 : Int) < (rs[k].key.length : Int) := by omega
                        clear hRA hPr ha' hkk hkd hsr hfs hRR hOk hK hkk0 hB hG hbb hbl16 hcb hk8 HRk HA
                        generalize rs[k].key.length = kn at *
                        generalize rs[k].bg = xb at *
                        generalize rs[k].en = xe at *
                        generalize rs[k].cu = xc at *
                        generalize hasB (fstS rs k) u = hb at *
                        have hs0' := fun ob => cell_up hs0 ob
                        cases hb with
                        | false =>
                          as_aux_lemma =>
                            have HAF : Hid (b = anyK rs u (k + 1)) := by have := HAS.out; simp only [Bool.or_false] at this; exact this.symm
                            have HKN : Hid (∀ W, Below wr.heap.size wr W → FK w W rs qs st (some ⟨vg, vo, none⟩) (m + 1) vc (.slice (some ⟨vg, vo, none⟩) m vc) (.slice (some ⟨qg, qo, none⟩) an ac) w.heap.size b7) := fun W hb => HKk.out.next hb
                            clear HAS hfair HBK HGO HKk
                            go_wp2_with (go_at_call 22; refine (HH.out _).mono ?_; rintro e w' ⟨rfl, hg⟩)
                            exact ⟨⟨k + 1, b, by go_num, rfl, by omega, HAF, HKN.out _ (((Grown.refl wr).alloc _).trans hg).below⟩, by simp [intOf]; omega⟩
                        | true =>
                          as_aux_lemma =>
                            have hfr := hfair rfl
                            have HAF : Hid (true = anyK rs u (k + 1)) := by have := HAS.out; simp only [Bool.or_true] at this; exact this.symm
                            have HKN : Hid (∀ W, Below wr.heap.size wr W → FK w W rs qs st (some ⟨vg, vo, none⟩) (m + 1) vc (.slice (some ⟨vg, vo, none⟩) m vc) (.slice (some ⟨qg, qo, none⟩) an ac) w.heap.size b7) := fun W hb => HKk.out.next hb
                            have hcmp : ¬ x < 1 + B - G := by omega
                            have hcd : decide (x < 1 + B - G) = false := by simp; omega
                            obtain ⟨W8, hW8⟩ : ∃ W8, W8 = wr.alloc (.cells #[.bool xb, .slice a1 n1 d1, .slice (some ⟨kg, ko, none⟩) kn kc, .slice a3 n3 d3x, .bool xe, .slice a5 n5 d5, .int .i64 xc] 54) := ⟨_, rfl⟩
                            have b8 : W8.heap[wr.heap.size]? = some (.cells #[.bool xb, .slice a1 n1 d1, .slice (some ⟨kg, ko, none⟩) kn kc, .slice a3 n3 d3x, .bool xe, .slice a5 n5 d5, .int .i64 xc] 54 (0, 0)) := by rw [hW8]; exact heap_alloc_new _ _
                            have hg8 : Grown wr W8 := by rw [hW8]; exact (Grown.refl _).alloc _
                            have HH8 : Hid (Calls Tryd.prog 22 #[.slice s1 s2 s3, .int .i64 u] W8 fun e w' => e = .returned (.bool true) ∧ Grown W8 w') := by show Calls _ _ _ _ _; rw [hW8]; exact HH.out _
                            have j0' : W8.cell? ⟨w.heap.size, 0, none⟩ = some (.slice (some ⟨vg, vo, none⟩) (m + 1) vc) := hg8.cellv j0
                            have HWR : Hid (wr.heap.size < W8.heap.size) := (Array.getElem?_eq_some_iff.1 b8).1
                            obtain ⟨Bk, hBk⟩ : ∃ Bk, wr.heap.size = Bk := ⟨_, rfl⟩
                            rw [hBk] at b8
                            have HG8 : Hid (Grown wr W8) := hg8
                            clear HAS hfair HKk HH hg8
                            go_wp2_with fail
                            rw [← hW8]
                            clear hW8 r0 r1 r2 r3 r4 r5 r6 hs0 hs0'
                            refine HH8.out.mono ?_
                            rintro e W9 ⟨rfl, hg9⟩
                            have h9 : Below wr.heap.size wr W9 := (HG8.out.trans hg9).below
                            have H9 : Hid (Below wr.heap.size wr W9) := h9
                            have b9 : W9.heap[Bk]? = some (.cells #[.bool xb, .slice a1 n1 d1, .slice (some ⟨kg, ko, none⟩) kn kc, .slice a3 n3 d3x, .bool xe, .slice a5 n5 d5, .int .i64 xc] 54 (0, 0)) := (hg9.below.block Bk (Array.getElem?_eq_some_iff.1 b8).1).trans b8
                            have i0 := hg9.cellv j0'
                            have m0 := fun q : BelowOf W9 => cell_below i0 q.below (Nat.le_refl _)
                            have hcl : ∀ (j : Nat) (q : BelowOf W9), q.world.cell? ⟨Bk, j, none⟩ = (#[.bool xb, .slice a1 n1 d1, .slice (some ⟨kg, ko, none⟩) kn kc, .slice a3 n3 d3x, .bool xe, .slice a5 n5 d5, .int .i64 xc] : Array Value)[j]? := fun j q => cell_of ((q.below.block Bk (Array.getElem?_eq_some_iff.1 b9).1).trans b9)
                            have m10 : ∀ q : BelowOf W9, q.world.cell? ⟨Bk, 0, none⟩ = some (.bool xb) := fun q => hcl 0 q
                            have m11 : ∀ q : BelowOf W9, q.world.cell? ⟨Bk, 1, none⟩ = some (.slice a1 n1 d1) := fun q => hcl 1 q
                            have m12 : ∀ q : BelowOf W9, q.world.cell? ⟨Bk, 2, none⟩ = some (.slice (some ⟨kg, ko, none⟩) kn kc) := fun q => hcl 2 q
                            have m13 : ∀ q : BelowOf W9, q.world.cell? ⟨Bk, 3, none⟩ = some (.slice a3 n3 d3x) := fun q => hcl 3 q
                            have m14 : ∀ q : BelowOf W9, q.world.cell? ⟨Bk, 4, none⟩ = some (.bool xe) := fun q => hcl 4 q
                            have m15 : ∀ q : BelowOf W9, q.world.cell? ⟨Bk, 5, none⟩ = some (.slice a5 n5 d5) := fun q => hcl 5 q
                            have m16 : ∀ q : BelowOf W9, q.world.cell? ⟨Bk, 6, none⟩ = some (.int .i64 xc) := fun q => hcl 6 q
                            have HB9 : Hid (∀ W, Below W9.heap.size W9 W → Below wr.heap.size wr W) := fun W hb => H9.out.trans (hb.mono H9.out.size)
                            clear hg9 h9 b9 hcl b8 HH8 j0'
                            go_wp2
                            refine wp_region_quiet_below mixed (by kernel_rfl) ?_
                            repeat (go_big_quiet_step ((first | (go_at_call 23; exact below_of (HBK.out _ (HB9.out _ (BelowOf.below _)))) | (go_at_call 24; exact below_of (HGO.out _ (HB9.out _ (BelowOf.below _)))))))
                            refine wpQuiet_nil ?_
                            intro W10 hw'
                            have hb10 : Below W9.heap.size W9 W10 := by obtain ⟨⟨W', h⟩, e⟩ := hw'; rw [e]; exact h
                            have HK10 := HKN.out W10 (HB9.out W10 hb10)
                            have HK11 : Hid (FK w W10 rs qs st (some ⟨vg, vo, none⟩) (m + 1) vc (.slice (some ⟨vg, vo, none⟩) m vc) (.slice (some ⟨qg, qo, none⟩) an ac) w.heap.size b7) := HK10
                            clear hw' hb10 m0 m10 m11 m12 m13 m14 m15 m16 HK10 HKN HB9 HBK HGO
                            go_wp2
                            exact ⟨⟨k + 1, true, by go_num, rfl, by omega, HAF, HK11⟩, by simp [intOf]; omega⟩
                      · have hge : ¬ (k : Int) < ((m : Int) + 1) := by omega
                        have hkn2 : k = m + 1 := by omega
                        cases b with
                        | true =>
                          as_aux_lemma =>
                            go_wp2
                            exact ⟨⟨i + 1, by go_num, by omega, by omega, HKk⟩, by simp [intOf]; omega⟩
                        | false =>
                          as_aux_lemma =>
                            have hx2 : x = 1 := by
                              have h1 := HA.out
                              have h2 := HU.out
                              rw [if_neg hd0, HN.out] at h2
                              rw [hkn2] at h1
                              rw [h2]
                              exact anyK_no h1.symm
                            subst hx2
                            clear HU HX
                            go_wp2
                            exact ⟨⟨i + 1, by go_num, by omega, by omega, HKk⟩, by simp [intOf]; omega⟩
                · as_aux_lemma =>
                    have hge : ¬ (i : Int) < 60 := by omega
                    have HBL : Hid (Below w.heap.size w wr) := HK.out.bl
                    go_wp2
                    go_ret
                    exact ⟨rfl, HBL.out⟩
              · as_aux_lemma =>
                  have hge : ¬ (i : Int) < (an : Int) := by omega
                  have HBL : Hid (Below w.heap.size w wr) := HK.out.bl
                  go_wp2
                  go_ret
                  exact ⟨rfl, HBL.out⟩
    · as_aux_lemma =>
        have hc' : (c2 != 0) = true := by simpa using hc
        go_wp2
        go_ret
        exact ⟨rfl, HB3.out.1⟩
end Go.Proofs
