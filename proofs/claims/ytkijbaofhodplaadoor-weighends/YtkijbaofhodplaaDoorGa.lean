/-
  The document's: what is put back; whether a rule puts back too many copies.
-/
import Derived.RangeFuncNested
import Derived.RangeFuncBound
import Derived.RangeFuncCalls
import Derived.RangeFuncLeaves
import Derived.Shelf.Abstract
import Derived.Shelf.RegionOpen
import Derived.WalkKit
import Derived.WalkSpells
import Derived.WalkLawsBesides
import Derived.OwnWalkIn
import Derived.TacticsInMore
import Derived.LoopNIn
import Derived.LoopIn
import Derived.BigQuiet
import Derived.RegionIn
import Derived.Deep.QuietTactic
import Derived.Deep.RegionWith
import Derived.Lib.OthersKept
import Derived.Maps.AppendAt
import Derived.Lib.SmallJoins
import Derived.Shelf.SlSortCmp.QuietGrown
import Derived.Test.YtkijbaofhodplaaDoorEk
namespace Go.Proofs
open Go.RowKit Go.Shelf

set_option maxRecDepth 100000
attribute [local go_sem] Oper.semAt_some
attribute [local go_sem ↓] Go.wp_at_zero Go.wp_at_succ
set_option maxHeartbeats 1000000 in
theorem rback_some (bg en : Bool) (a1 a2 a3 : Option Addr) (n1 c1 n2 c2 n3 c3 g o n c : Nat) (cu : Nat) (w : World) (hcu : cu ≤ n) (hn : n ≤ c) : Calls Tryd.prog 48 #[.agg #[.bool bg, .slice a1 n1 c1, .slice a2 n2 c2, .slice a3 n3 c3, .bool en, .slice (some ⟨g, o, none⟩) n c, .int .i64 cu]] w fun e w' => ∃ a', e = .returned (.slice a' (n - cu) (c - cu)) ∧ (n - cu = 0 ∨ a' = some ⟨g, o + cu * 4, none⟩) ∧ Grown w w' := by
  have h0 : (0 : Int) ≤ (cu : Int) := by omega
  have h1 : (cu : Int) ≤ (n : Int) := by omega
  have h2 : (n : Int) ≤ (c : Int) := by omega
  go_enter Tryd.func48, Tryd.ntmps48
  go_wp2
  · exact bodyPost_ret (v := .slice (some ⟨g, o, none⟩) (n - cu) 0) (by simp [results, Tryd.f48, go_sem]) rfl ⟨_, rfl, .inl (by omega), (Grown.refl _).alloc _⟩
  · exact bodyPost_ret (v := .slice (some ⟨g, o + cu * 4, none⟩) (n - cu) (c - cu)) (by simp [results, Tryd.f48, go_sem]) rfl ⟨_, rfl, .inr rfl, (Grown.refl _).alloc _⟩
set_option maxHeartbeats 1000000 in
theorem rback_nil (bg en : Bool) (a1 a2 a3 : Option Addr) (n1 c1 n2 c2 n3 c3 c : Nat) (a : Option Addr) (w : World) : Calls Tryd.prog 48 #[.agg #[.bool bg, .slice a1 n1 c1, .slice a2 n2 c2, .slice a3 n3 c3, .bool en, .slice a 0 c, .int .i64 0]] w fun e w' => ∃ a' c', e = .returned (.slice a' 0 c') ∧ Grown w w' := by
  go_enter Tryd.func48, Tryd.ntmps48
  go_wp2
  exact bodyPost_ret (v := .slice a 0 c) (by simp [results, Tryd.f48, go_sem]) rfl ⟨_, _, rfl, (Grown.refl _).alloc _⟩
theorem rback_any (r : Rl) (av kv pv rv : Value) (w w0 : World) (h : RR w0 av kv pv rv r) (hc : 0 ≤ r.cu) (hc2 : r.cu ≤ r.res.length) : Calls Tryd.prog 48 #[.agg #[.bool r.bg, av, kv, pv, .bool r.en, rv, .int .i64 r.cu]] w fun e w' => ∃ v, e = .returned v ∧ PR w0 v (backP r) ∧ Grown w w' := by
  obtain ⟨a1, n1, c1, rfl⟩ := h.a.sl
  obtain ⟨a2, n2, c2, rfl⟩ := h.k.sl
  obtain ⟨a3, n3, c3, rfl⟩ := h.p.sl
  obtain ⟨a, c, rfl, hcap, hr⟩ := h.r
  obtain ⟨cu, hcu⟩ : ∃ cu : Nat, r.cu = cu := ⟨r.cu.toNat, by omega⟩
  have hB : backP r = r.res.drop cu := by unfold backP; rw [hcu]; simp
  rw [hcu] at hc2 ⊢
  rw [hB]
  by_cases hn : r.res = []
  · rw [hn] at hc2 ⊢
    have : cu = 0 := by simp at hc2; omega
    subst this
    refine (rback_nil _ _ _ _ _ _ _ _ _ _ _ _ _ w).mono ?_
    rintro e w' ⟨a', c', rfl, hg⟩
    exact ⟨_, rfl, ⟨a', c', by simp, by simp, .inl (by simp)⟩, hg⟩
  · obtain ⟨g, o, rfl, hd⟩ := hr.resolve_left hn
    refine (rback_some _ _ _ _ _ _ _ _ _ _ _ g o _ c cu w (by omega) hcap).mono ?_
    rintro e w' ⟨a', rfl, ha, hg⟩
    refine ⟨_, rfl, ⟨a', c - cu, by simp, by simp; omega, ?_⟩, hg⟩
    by_cases hz : r.res.length - cu = 0
    · exact .inl (List.drop_eq_nil_of_le (by omega))
    · refine .inr ⟨g, o + cu * 4, ha.resolve_left hz, fun j hj => ?_⟩
      have hj' : cu + j < r.res.length := by simp at hj; omega
      have := hd (cu + j) hj'
      rw [List.getElem_drop, show o + cu * 4 + j * 4 = o + (cu + j) * 4 by omega]
      exact this
/-- the document's own look at copies -/
def wrg : List Pc → List Pc → Bool
  | _, [] => false
  | seen, p :: l => if p.k ≠ 2 then wrg (seen ++ [p]) l else if p.y = 0 ∨ (seen.any fun q => decide (q.k = 2) && decide (q.y = p.y)) = true then true else wrg (seen ++ [p]) l
theorem wrg_cp : ∀ (l seen : List Pc) (c : List Bool), c.length = 8 → (∀ p ∈ l, p.k = 2 → 0 ≤ p.y ∧ p.y < 8) → (∀ y : Nat, y < 8 → ((c[y]?).getD false = true ↔ y = 0 ∨ (seen.any fun q => decide (q.k = 2) && decide (q.y = (y : Int))) = true)) → wrg seen l = cpW c l
  | [], _, _, _, _, _ => rfl
  | p :: l, seen, c, hc, hy, hinv => by
    have hl : ∀ q ∈ l, q.k = 2 → 0 ≤ q.y ∧ q.y < 8 := fun q hq => hy q (List.mem_cons_of_mem _ hq)
    by_cases h2 : p.k = 2
    · rw [wrg, cpW, if_neg (not_not_intro h2), if_neg (not_not_intro h2)]
      obtain ⟨y0, y8⟩ := hy p List.mem_cons_self h2
      obtain ⟨y, hyy⟩ : ∃ y : Nat, p.y = y := ⟨p.y.toNat, by omega⟩
      have hi := hinv y (by omega)
      rw [hyy, show ((y : Nat) : Int).toNat = y by omega]
      by_cases hcy : (c[y]?).getD false = true
      · have hor : (y : Int) = 0 ∨ (seen.any fun q => decide (q.k = 2) && decide (q.y = (y : Int))) = true := (hi.1 hcy).imp (fun h => by omega) id
        rw [if_pos hcy, if_pos hor]
      · have hor : ¬ ((y : Int) = 0 ∨ (seen.any fun q => decide (q.k = 2) && decide (q.y = (y : Int))) = true) := fun h => hcy (hi.2 (h.imp (fun h => by omega) id))
        rw [if_neg hcy, if_neg hor]
        · refine wrg_cp l _ _ (by simpa using hc) hl fun z hz => ?_
          rw [List.getElem?_set]
          by_cases e : y = z
          · subst e
            rw [if_pos rfl, if_pos (by omega)]
            simp [h2, hyy]
          · have e' : ¬ (y : Int) = (z : Int) := by omega
            rw [if_neg e, hinv z hz]
            simp [h2, hyy, e']
    · rw [wrg, cpW, if_pos h2, if_pos h2]
      refine wrg_cp l _ _ hc hl fun z hz => ?_
      rw [hinv z hz]
      simp [h2]
theorem wrg_copB {r : Rl} (hO : Ok r) : wrg [] (backP r) = copB r := by
  unfold copB
  refine wrg_cp _ _ _ (by simp) (fun p hp hk => ?_) fun y hy => ?_
  · have h1 := pc_ok (hO.pc p (List.mem_of_mem_drop hp))
    have h2 := hO.k8
    rcases h1 with ⟨h1, _⟩ | ⟨_, _, _, h3, h4⟩ | ⟨h1, _⟩ <;> omega
  · cases y with
    | zero => simp
    | succ y =>
      have : (List.replicate 7 false)[y]?.getD false = false := by
        rw [List.getElem?_replicate]
        split <;> rfl
      have h0 : ¬ ((y + 1 : Nat) = 0) := by omega
      simp only [List.getElem?_cons_succ, this, List.any_nil]
      simp
theorem wrg_step {l : List Pc} {k : Nat} (hk : k < l.length) : wrg (l.take k) (l.drop k) = if l[k].k ≠ 2 then wrg (l.take (k + 1)) (l.drop (k + 1)) else if l[k].y = 0 ∨ ((l.take k).any fun q => decide (q.k = 2) && decide (q.y = l[k].y)) = true then true else wrg (l.take (k + 1)) (l.drop (k + 1)) := by
  have h1 : l.take (k + 1) = l.take k ++ [l[k]] := by rw [List.take_add_one, List.getElem?_eq_getElem hk]; rfl
  rw [List.drop_eq_getElem_cons hk, wrg, h1]
theorem any_take {l : List Pc} {k : Nat} (hk : k < l.length) (y : Int) : ((l.take (k + 1)).any fun q => decide (q.k = 2) && decide (q.y = y)) = (((l.take k).any fun q => decide (q.k = 2) && decide (q.y = y)) || (decide (l[k].k = 2) && decide (l[k].y = y))) := by
  rw [List.take_add_one, List.getElem?_eq_getElem hk, List.any_append]
  simp
set_option maxHeartbeats 4000000 in
theorem wrong_any (r : Rl) (av kv pv rv : Value) (w : World) (h : RR w av kv pv rv r) (hO : Ok r) : Calls Tryd.prog 29 #[.agg #[.bool r.bg, av, kv, pv, .bool r.en, rv, .int .i64 r.cu]] w fun e w' => e = .returned (.bool (copB r)) ∧ Grown w w' := by
  have HPB : Hid (∀ wx, Calls Tryd.prog 48 #[.agg #[.bool r.bg, av, kv, pv, .bool r.en, rv, .int .i64 r.cu]] wx fun e w' => ∃ v, e = .returned v ∧ PR w v (backP r) ∧ Grown wx w') := fun wx => rback_any r av kv pv rv wx w h hO.c0 hO.c1
  have HL : Hid ((backP r).length ≤ 16) := by show (backP r).length ≤ 16; have := hO.r16; simp [backP]; omega
  obtain ⟨a1, n1, c1, rfl⟩ := h.a.sl
  obtain ⟨a2, n2, c2, rfl⟩ := h.k.sl
  obtain ⟨a3, n3, c3, rfl⟩ := h.p.sl
  obtain ⟨a5, n5, c5, rfl⟩ := h.r.sl
  obtain ⟨R, hR⟩ : ∃ R, copB r = R := ⟨_, rfl⟩
  have HR : Hid (wrg ((backP r).take 0) ((backP r).drop 0) = R) := by show wrg [] (backP r) = R; rw [wrg_copB hO, hR]
  rw [hR]
  obtain ⟨xb, hxb⟩ : ∃ xb, r.bg = xb := ⟨_, rfl⟩
  obtain ⟨xe, hxe⟩ : ∃ xe, r.en = xe := ⟨_, rfl⟩
  obtain ⟨xc, hxc⟩ : ∃ xc, r.cu = xc := ⟨_, rfl⟩
  rw [hxb, hxe, hxc] at HPB ⊢
  clear hR hxb hxe hxc h hO
  go_enter Tryd.func29, Tryd.ntmps29
  go_wp2_with fail
  refine (HPB.out _).mono ?_
  rintro e w2 ⟨v, rfl, hPR, hG2⟩
  have HG2 : Hid (Grown w w2) := ((Grown.refl w).alloc _).trans hG2
  have HPR : Hid (PR w2 v (backP r)) := hPR.grown HG2.out
  obtain ⟨pa, pc, rfl, _, _⟩ := hPR
  obtain ⟨l, hl⟩ : ∃ l, backP r = l := ⟨_, rfl⟩
  rw [hl] at HPR HL HR ⊢
  obtain ⟨nb, hnb⟩ : ∃ nb, l.length = nb := ⟨_, rfl⟩
  have HNB : Hid (l.length = nb) := hnb
  rw [hnb] at HPR HL ⊢
  have hnbI : (nb : Int) ≤ 16 := by have := HL.out; omega
  clear hnb hG2 HPB hl
  go_wp2
  go_loopw [4] (fun vi wr => ∃ (k : Nat), vi = .int .i64 k ∧ k ≤ nb ∧ Hid (wrg (l.take k) (l.drop k) = R) ∧ Grown w2 wr) (fun vi _ => nb - (intOf vi).toNat)
  case atStart => exact ⟨0, rfl, by omega, HR, Grown.refl _⟩
  case round =>
    obtain ⟨k, rfl, hk, HW, hG⟩ := hrel
    clear HR
    have hk0 : (0 : Int) ≤ (k : Int) := by omega
    by_cases hlt : k < nb
    · have hlt' : (k : Int) < (nb : Int) := by omega
      have hkb : k < l.length := by rw [HNB.out]; exact hlt
      obtain ⟨a', c', e', _, hPr⟩ := HPR.out
      obtain ⟨pg, po, ha', hPd⟩ := hPr.resolve_left (fun e => by rw [e] at hkb; simp at hkb)
      injection e' with e1 e2 e3
      clear e2 e3
      rw [ha'] at e1
      subst e1
      obtain ⟨tv, x0, x1, x2, x3, _⟩ := hPd k hkb
      have HPD : Hid (∀ (j : Nat) (hj : j < l.length) (W : World), Grown w2 W → W.cell? ⟨pg, po + j * 4, none⟩ = some (.int .i64 l[j].k) ∧ W.cell? ⟨pg, po + j * 4 + 2, none⟩ = some (.int .i64 l[j].y)) := fun j hj W hW => by
        obtain ⟨tv, q0, _, q2, _, _⟩ := hPd j hj
        exact ⟨hW.cellv q0, hW.cellv q2⟩
      have y0 := hG.cellv x0
      have y2 := hG.cellv x2
      have hst := wrg_step hkb
      rw [HW.out] at hst
      obtain ⟨pk, hpk⟩ : ∃ pk, l[k].k = pk := ⟨_, rfl⟩
      obtain ⟨py, hpy⟩ : ∃ py, l[k].y = py := ⟨_, rfl⟩
      rw [hpk] at y0 hst
      rw [hpy] at y2 hst
      have HPY : Hid (l[k].k = pk ∧ l[k].y = py) := ⟨hpk, hpy⟩
      clear hPr ha' hPd x0 x1 x2 x3 HW hpk hpy
      by_cases h2 : pk = 2
      · subst h2
        rw [if_neg (by simp)] at hst
        by_cases hy0 : py = 0
        · as_aux_lemma =>
            subst hy0
            have HF : Hid (R = true) := by show R = true; simpa using hst
            clear hst
            go_wp2
            go_ret
            have hrt := HF.out
            exact ⟨by first | rfl | (rw [hrt]; rfl), HG2.out.trans hG⟩
        · have hy0' : (py == 0) = false := by simpa using hy0
          have HST : Hid (R = if py = 0 ∨ ((l.take k).any fun q => decide (q.k = 2) && decide (q.y = py)) = true then true else wrg (l.take (k + 1)) (l.drop (k + 1))) := hst
          clear hst
          obtain ⟨wo, rfl⟩ : ∃ wo, wo = wr := ⟨_, rfl⟩
          have HGo : Hid (Grown w2 wo) := hG
          clear hG
          go_wp2
          go_loopw [5] (fun vj wx => ∃ j : Nat, vj = .int .i64 j ∧ j ≤ k ∧ Hid (((l.take j).any fun q => decide (q.k = 2) && decide (q.y = py)) = false) ∧ Grown w2 wx) (fun vj _ => k - (intOf vj).toNat)
          case atStart => exact ⟨0, rfl, by omega, by show _ = false; simp, HGo.out⟩
          case round =>
            obtain ⟨j, rfl, hj, HA, hGx⟩ := hrel
            have hj0 : (0 : Int) ≤ (j : Int) := by omega
            by_cases hjk : j < k
            · have hjk' : (j : Int) < (k : Int) := by omega
              have hjl : j < l.length := by omega
              have hjn : (j : Int) < (nb : Int) := by omega
              obtain ⟨z0, z2⟩ := HPD.out j hjl wr hGx
              obtain ⟨_, k2⟩ := HPD.out k hkb wr hGx
              rw [HPY.out.2] at k2
              have han := any_take hjl py
              rw [HA.out, Bool.false_or] at han
              obtain ⟨qk, hqk⟩ : ∃ qk, l[j].k = qk := ⟨_, rfl⟩
              obtain ⟨qy, hqy⟩ : ∃ qy, l[j].y = qy := ⟨_, rfl⟩
              rw [hqk] at z0 han
              rw [hqy] at z2 han
              clear hqk hqy HA y0 y2
              by_cases h1 : qk = 2
              · subst h1
                by_cases h3 : qy = py
                · as_aux_lemma =>
                    subst h3
                    have HF : Hid (R = true) := by
                      show R = true
                      rw [HST.out, if_pos]
                      refine .inr ?_
                      rw [List.any_eq_true]
                      have : ((l.take (j + 1)).any fun q => decide (q.k = 2) && decide (q.y = qy)) = true := by rw [han]; simp
                      rw [List.any_eq_true] at this
                      obtain ⟨q, hq, hq2⟩ := this
                      exact ⟨q, List.take_subset_take_left l (by omega) hq, hq2⟩
                    clear han HST HPD HPY
                    go_wp2
                    go_quiet (fail)
                    go_wp2
                    go_ret
                    have hrt := HF.out
                    exact ⟨by first | rfl | (rw [hrt]; rfl), HG2.out.trans (hGx.drewN _)⟩
                · as_aux_lemma =>
                    have h3' : (qy == py) = false := by simpa using h3
                    have HF : Hid (((l.take (j + 1)).any fun q => decide (q.k = 2) && decide (q.y = py)) = false) := by show _ = false; rw [han]; simp [h3]
                    clear han HST HPD HPY
                    go_wp2
                    go_quiet (fail)
                    go_wp2
                    exact ⟨⟨j + 1, by go_num, by omega, HF, hGx.drewN _⟩, by simp [intOf]; omega⟩
              · as_aux_lemma =>
                  have h1' : (qk == 2) = false := by simpa using h1
                  have HF : Hid (((l.take (j + 1)).any fun q => decide (q.k = 2) && decide (q.y = py)) = false) := by show _ = false; rw [han]; simp [h1]
                  clear han HST HPD HPY
                  go_wp2
                  go_quiet (fail)
                  go_wp2
                  exact ⟨⟨j + 1, by go_num, by omega, HF, hGx.drewN _⟩, by simp [intOf]; omega⟩
            · as_aux_lemma =>
                have hge : ¬ (j : Int) < (k : Int) := by omega
                have hjk2 : j = k := by omega
                have HF : Hid (wrg (l.take (k + 1)) (l.drop (k + 1)) = R) := by
                  have h1 := HST.out
                  have h3 := HA.out
                  rw [hjk2] at h3
                  rw [if_neg (by rw [h3]; simp [hy0])] at h1
                  exact h1.symm
                clear HST HA
                go_wp2
                exact ⟨⟨k + 1, by go_num, by omega, HF, hGx⟩, by simp [intOf]; omega⟩
      · as_aux_lemma =>
          have h2' : (pk != 2) = true := by simpa using h2
          have HF : Hid (wrg (l.take (k + 1)) (l.drop (k + 1)) = R) := by rw [if_pos h2] at hst; exact hst.symm
          clear hst
          go_wp2
          exact ⟨⟨k + 1, by go_num, by omega, HF, hG⟩, by simp [intOf]; omega⟩
    · as_aux_lemma =>
        have hge : ¬ (k : Int) < (nb : Int) := by omega
        have HF : Hid (R = false) := by
          have := HW.out
          rw [List.drop_eq_nil_of_le (by rw [HNB.out]; omega), wrg] at this
          exact this.symm
        clear HW
        go_wp2
        go_ret
        have hrt := HF.out
        exact ⟨by first | rfl | (rw [hrt]; rfl), HG2.out.trans hG⟩
end Go.Proofs
