/-
  Several texts in one (Ga Ei).
-/
import Derived.RangeFuncNested
import Derived.RangeFuncBound
import Derived.RangeFuncCalls
import Derived.RangeFuncLeaves
import Derived.Shelf.Abstract
import Derived.Shelf.RegionOpen
import Derived.WalkKit
import Derived.WalkSpells
import Derived.WalkLawsBesides
import Derived.OwnWalkIn
import Derived.TacticsInMore
import Derived.LoopNIn
import Derived.LoopIn
import Derived.BigQuiet
import Derived.RegionIn
import Derived.Deep.QuietTactic
import Derived.Deep.RegionWith
import Derived.Lib.OthersKept
import Derived.Maps.AppendAt
import Derived.Lib.SmallJoins
import Derived.Shelf.SlSortCmp.QuietGrown
import Derived.Test.YtkijbaofhodplaaDoorMgd
import Derived.Deep.AppendLies
import Derived.Test.YtkijbaofhodplaaDoorMgc
namespace Go.Proofs
open Go.RowKit Go.Shelf

set_option maxRecDepth 100000
attribute [local go_sem] Oper.semAt_some
attribute [local go_sem ↓] Go.wp_at_zero Go.wp_at_succ
set_option maxHeartbeats 1000000 in
theorem rback_some (bg en : Bool) (a1 a2 a3 : Option Addr) (n1 c1 n2 c2 n3 c3 g o n c : Nat) (cu : Nat) (w : World) (hcu : cu ≤ n) (hn : n ≤ c) : Calls Tryd.prog 48 #[.agg #[.bool bg, .slice a1 n1 c1, .slice a2 n2 c2, .slice a3 n3 c3, .bool en, .slice (some ⟨g, o, none⟩) n c, .int .i64 cu]] w fun e w' => ∃ a', e = .returned (.slice a' (n - cu) (c - cu)) ∧ (n - cu = 0 ∨ a' = some ⟨g, o + cu * 4, none⟩) ∧ Grown w w' := by
  have h0 : (0 : Int) ≤ (cu : Int) := by omega
  have h1 : (cu : Int) ≤ (n : Int) := by omega
  have h2 : (n : Int) ≤ (c : Int) := by omega
  go_enter Tryd.func48, Tryd.ntmps48
  go_wp2
  · exact bodyPost_ret (v := .slice (some ⟨g, o, none⟩) (n - cu) 0) (by simp [results, Tryd.f48, go_sem]) rfl ⟨_, rfl, .inl (by omega), (Grown.refl _).alloc _⟩
  · exact bodyPost_ret (v := .slice (some ⟨g, o + cu * 4, none⟩) (n - cu) (c - cu)) (by simp [results, Tryd.f48, go_sem]) rfl ⟨_, rfl, .inr rfl, (Grown.refl _).alloc _⟩
set_option maxHeartbeats 1000000 in
theorem rback_nil (bg en : Bool) (a1 a2 a3 : Option Addr) (n1 c1 n2 c2 n3 c3 c : Nat) (a : Option Addr) (w : World) : Calls Tryd.prog 48 #[.agg #[.bool bg, .slice a1 n1 c1, .slice a2 n2 c2, .slice a3 n3 c3, .bool en, .slice a 0 c, .int .i64 0]] w fun e w' => ∃ a' c', e = .returned (.slice a' 0 c') ∧ Grown w w' := by
  go_enter Tryd.func48, Tryd.ntmps48
  go_wp2
  exact bodyPost_ret (v := .slice a 0 c) (by simp [results, Tryd.f48, go_sem]) rfl ⟨_, _, rfl, (Grown.refl _).alloc _⟩
theorem rback_any (r : Rl) (av kv pv rv : Value) (w w0 : World) (h : RR w0 av kv pv rv r) (hc : 0 ≤ r.cu) (hc2 : r.cu ≤ r.res.length) : Calls Tryd.prog 48 #[.agg #[.bool r.bg, av, kv, pv, .bool r.en, rv, .int .i64 r.cu]] w fun e w' => ∃ v, e = .returned v ∧ PR w0 v (backP r) ∧ Grown w w' := by
  obtain ⟨a1, n1, c1, rfl⟩ := h.a.sl
  obtain ⟨a2, n2, c2, rfl⟩ := h.k.sl
  obtain ⟨a3, n3, c3, rfl⟩ := h.p.sl
  obtain ⟨a, c, rfl, hcap, hr⟩ := h.r
  obtain ⟨cu, hcu⟩ : ∃ cu : Nat, r.cu = cu := ⟨r.cu.toNat, by omega⟩
  have hB : backP r = r.res.drop cu := by unfold backP; rw [hcu]; simp
  rw [hcu] at hc2 ⊢
  rw [hB]
  by_cases hn : r.res = []
  · rw [hn] at hc2 ⊢
    have : cu = 0 := by simp at hc2; omega
    subst this
    refine (rback_nil _ _ _ _ _ _ _ _ _ _ _ _ _ w).mono ?_
    rintro e w' ⟨a', c', rfl, hg⟩
    exact ⟨_, rfl, ⟨a', c', by simp, by simp, .inl (by simp)⟩, hg⟩
  · obtain ⟨g, o, rfl, hd⟩ := hr.resolve_left hn
    refine (rback_some _ _ _ _ _ _ _ _ _ _ _ g o _ c cu w (by omega) hcap).mono ?_
    rintro e w' ⟨a', rfl, ha, hg⟩
    refine ⟨_, rfl, ⟨a', c - cu, by simp, by simp; omega, ?_⟩, hg⟩
    by_cases hz : r.res.length - cu = 0
    · exact .inl (List.drop_eq_nil_of_le (by omega))
    · refine .inr ⟨g, o + cu * 4, ha.resolve_left hz, fun j hj => ?_⟩
      have hj' : cu + j < r.res.length := by simp at hj; omega
      have := hd (cu + j) hj'
      rw [List.getElem_drop, show o + cu * 4 + j * 4 = o + (cu + j) * 4 by omega]
      exact this
/-- the document's own look at copies -/
def wrg : List Pc → List Pc → Bool
  | _, [] => false
  | seen, p :: l => if p.k ≠ 2 then wrg (seen ++ [p]) l else if p.y = 0 ∨ (seen.any fun q => decide (q.k = 2) && decide (q.y = p.y)) = true then true else wrg (seen ++ [p]) l
theorem wrg_cp : ∀ (l seen : List Pc) (c : List Bool), c.length = 8 → (∀ p ∈ l, p.k = 2 → 0 ≤ p.y ∧ p.y < 8) → (∀ y : Nat, y < 8 → ((c[y]?).getD false = true ↔ y = 0 ∨ (seen.any fun q => decide (q.k = 2) && decide (q.y = (y : Int))) = true)) → wrg seen l = cpW c l
  | [], _, _, _, _, _ => rfl
  | p :: l, seen, c, hc, hy, hinv => by
    have hl : ∀ q ∈ l, q.k = 2 → 0 ≤ q.y ∧ q.y < 8 := fun q hq => hy q (List.mem_cons_of_mem _ hq)
    by_cases h2 : p.k = 2
    · rw [wrg, cpW, if_neg (not_not_intro h2), if_neg (not_not_intro h2)]
      obtain ⟨y0, y8⟩ := hy p List.mem_cons_self h2
      obtain ⟨y, hyy⟩ : ∃ y : Nat, p.y = y := ⟨p.y.toNat, by omega⟩
      have hi := hinv y (by omega)
      rw [hyy, show ((y : Nat) : Int).toNat = y by omega]
      by_cases hcy : (c[y]?).getD false = true
      · have hor : (y : Int) = 0 ∨ (seen.any fun q => decide (q.k = 2) && decide (q.y = (y : Int))) = true := (hi.1 hcy).imp (fun h => by omega) id
        rw [if_pos hcy, if_pos hor]
      · have hor : ¬ ((y : Int) = 0 ∨ (seen.any fun q => decide (q.k = 2) && decide (q.y = (y : Int))) = true) := fun h => hcy (hi.2 (h.imp (fun h => by omega) id))
        rw [if_neg hcy, if_neg hor]
        · refine wrg_cp l _ _ (by simpa using hc) hl fun z hz => ?_
          rw [List.getElem?_set]
          by_cases e : y = z
          · subst e
            rw [if_pos rfl, if_pos (by omega)]
            simp [h2, hyy]
          · have e' : ¬ (y : Int) = (z : Int) := by omega
            rw [if_neg e, hinv z hz]
            simp [h2, hyy, e']
    · rw [wrg, cpW, if_pos h2, if_pos h2]
      refine wrg_cp l _ _ hc hl fun z hz => ?_
      rw [hinv z hz]
      simp [h2]
theorem wrg_copB {r : Rl} (hO : Ok r) : wrg [] (backP r) = copB r := by
  unfold copB
  refine wrg_cp _ _ _ (by simp) (fun p hp hk => ?_) fun y hy => ?_
  · have h1 := pc_ok (hO.pc p (List.mem_of_mem_drop hp))
    have h2 := hO.k8
    rcases h1 with ⟨h1, _⟩ | ⟨_, _, _, h3, h4⟩ | ⟨h1, _⟩ <;> omega
  · cases y with
    | zero => simp
    | succ y =>
      have : (List.replicate 7 false)[y]?.getD false = false := by
        rw [List.getElem?_replicate]
        split <;> rfl
      have h0 : ¬ ((y + 1 : Nat) = 0) := by omega
      simp only [List.getElem?_cons_succ, this, List.any_nil]
      simp
theorem wrg_step {l : List Pc} {k : Nat} (hk : k < l.length) : wrg (l.take k) (l.drop k) = if l[k].k ≠ 2 then wrg (l.take (k + 1)) (l.drop (k + 1)) else if l[k].y = 0 ∨ ((l.take k).any fun q => decide (q.k = 2) && decide (q.y = l[k].y)) = true then true else wrg (l.take (k + 1)) (l.drop (k + 1)) := by
  have h1 : l.take (k + 1) = l.take k ++ [l[k]] := by rw [List.take_add_one, List.getElem?_eq_getElem hk]; rfl
  rw [List.drop_eq_getElem_cons hk, wrg, h1]
theorem any_take {l : List Pc} {k : Nat} (hk : k < l.length) (y : Int) : ((l.take (k + 1)).any fun q => decide (q.k = 2) && decide (q.y = y)) = (((l.take k).any fun q => decide (q.k = 2) && decide (q.y = y)) || (decide (l[k].k = 2) && decide (l[k].y = y))) := by
  rw [List.take_add_one, List.getElem?_eq_getElem hk, List.any_append]
  simp
set_option maxHeartbeats 4000000 in
theorem wrong_any (r : Rl) (av kv pv rv : Value) (w : World) (h : RR w av kv pv rv r) (hO : Ok r) : Calls Tryd.prog 29 #[.agg #[.bool r.bg, av, kv, pv, .bool r.en, rv, .int .i64 r.cu]] w fun e w' => e = .returned (.bool (copB r)) ∧ Grown w w' := by
  have HPB : Hid (∀ wx, Calls Tryd.prog 48 #[.agg #[.bool r.bg, av, kv, pv, .bool r.en, rv, .int .i64 r.cu]] wx fun e w' => ∃ v, e = .returned v ∧ PR w v (backP r) ∧ Grown wx w') := fun wx => rback_any r av kv pv rv wx w h hO.c0 hO.c1
  have HL : Hid ((backP r).length ≤ 16) := by show (backP r).length ≤ 16; have := hO.r16; simp [backP]; omega
  obtain ⟨a1, n1, c1, rfl⟩ := h.a.sl
  obtain ⟨a2, n2, c2, rfl⟩ := h.k.sl
  obtain ⟨a3, n3, c3, rfl⟩ := h.p.sl
  obtain ⟨a5, n5, c5, rfl⟩ := h.r.sl
  obtain ⟨R, hR⟩ : ∃ R, copB r = R := ⟨_, rfl⟩
  have HR : Hid (wrg ((backP r).take 0) ((backP r).drop 0) = R) := by show wrg [] (backP r) = R; rw [wrg_copB hO, hR]
  rw [hR]
  obtain ⟨xb, hxb⟩ : ∃ xb, r.bg = xb := ⟨_, rfl⟩
  obtain ⟨xe, hxe⟩ : ∃ xe, r.en = xe := ⟨_, rfl⟩
  obtain ⟨xc, hxc⟩ : ∃ xc, r.cu = xc := ⟨_, rfl⟩
  rw [hxb, hxe, hxc] at HPB ⊢
  clear hR hxb hxe hxc h hO
  go_enter Tryd.func29, Tryd.ntmps29
  go_wp2_with fail
  refine (HPB.out _).mono ?_
  rintro e w2 ⟨v, rfl, hPR, hG2⟩
  have HG2 : Hid (Grown w w2) := ((Grown.refl w).alloc _).trans hG2
  have HPR : Hid (PR w2 v (backP r)) := hPR.grown HG2.out
  obtain ⟨pa, pc, rfl, _, _⟩ := hPR
  obtain ⟨l, hl⟩ : ∃ l, backP r = l := ⟨_, rfl⟩
  rw [hl] at HPR HL HR ⊢
  obtain ⟨nb, hnb⟩ : ∃ nb, l.length = nb := ⟨_, rfl⟩
  have HNB : Hid (l.length = nb) := hnb
  rw [hnb] at HPR HL ⊢
  have hnbI : (nb : Int) ≤ 16 := by have := HL.out; omega
  clear hnb hG2 HPB hl
  go_wp2
  go_loopw [4] (fun vi wr => ∃ (k : Nat), vi = .int .i64 k ∧ k ≤ nb ∧ Hid (wrg (l.take k) (l.drop k) = R) ∧ Grown w2 wr) (fun vi _ => nb - (intOf vi).toNat)
  case atStart => exact ⟨0, rfl, by omega, HR, Grown.refl _⟩
  case round =>
    obtain ⟨k, rfl, hk, HW, hG⟩ := hrel
    clear HR
    have hk0 : (0 : Int) ≤ (k : Int) := by omega
    by_cases hlt : k < nb
    · have hlt' : (k : Int) < (nb : Int) := by omega
      have hkb : k < l.length := by rw [HNB.out]; exact hlt
      obtain ⟨a', c', e', _, hPr⟩ := HPR.out
      obtain ⟨pg, po, ha', hPd⟩ := hPr.resolve_left (fun e => by rw [e] at hkb; simp at hkb)
      injection e' with e1 e2 e3
      clear e2 e3
      rw [ha'] at e1
      subst e1
      obtain ⟨tv, x0, x1, x2, x3, _⟩ := hPd k hkb
      have HPD : Hid (∀ (j : Nat) (hj : j < l.length) (W : World), Grown w2 W → W.cell? ⟨pg, po + j * 4, none⟩ = some (.int .i64 l[j].k) ∧ W.cell? ⟨pg, po + j * 4 + 2, none⟩ = some (.int .i64 l[j].y)) := fun j hj W hW => by
        obtain ⟨tv, q0, _, q2, _, _⟩ := hPd j hj
        exact ⟨hW.cellv q0, hW.cellv q2⟩
      have y0 := hG.cellv x0
      have y2 := hG.cellv x2
      have hst := wrg_step hkb
      rw [HW.out] at hst
      obtain ⟨pk, hpk⟩ : ∃ pk, l[k].k = pk := ⟨_, rfl⟩
      obtain ⟨py, hpy⟩ : ∃ py, l[k].y = py := ⟨_, rfl⟩
      rw [hpk] at y0 hst
      rw [hpy] at y2 hst
      have HPY : Hid (l[k].k = pk ∧ l[k].y = py) := ⟨hpk, hpy⟩
      clear hPr ha' hPd x0 x1 x2 x3 HW hpk hpy
      by_cases h2 : pk = 2
      · subst h2
        rw [if_neg (by simp)] at hst
        by_cases hy0 : py = 0
        · as_aux_lemma =>
            subst hy0
            have HF : Hid (R = true) := by show R = true; simpa using hst
            clear hst
            go_wp2
            go_ret
            have hrt := HF.out
            exact ⟨by first | rfl | (rw [hrt]; rfl), HG2.out.trans hG⟩
        · have hy0' : (py == 0) = false := by simpa using hy0
          have HST : Hid (R = if py = 0 ∨ ((l.take k).any fun q => decide (q.k = 2) && decide (q.y = py)) = true then true else wrg (l.take (k + 1)) (l.drop (k + 1))) := hst
          clear hst
          obtain ⟨wo, rfl⟩ : ∃ wo, wo = wr := ⟨_, rfl⟩
          have HGo : Hid (Grown w2 wo) := hG
          clear hG
          go_wp2
          go_loopw [5] (fun vj wx => ∃ j : Nat, vj = .int .i64 j ∧ j ≤ k ∧ Hid (((l.take j).any fun q => decide (q.k = 2) && decide (q.y = py)) = false) ∧ Grown w2 wx) (fun vj _ => k - (intOf vj).toNat)
          case atStart => exact ⟨0, rfl, by omega, by show _ = false; simp, HGo.out⟩
          case round =>
            obtain ⟨j, rfl, hj, HA, hGx⟩ := hrel
            have hj0 : (0 : Int) ≤ (j : Int) := by omega
            by_cases hjk : j < k
            · have hjk' : (j : Int) < (k : Int) := by omega
              have hjl : j < l.length := by omega
              have hjn : (j : Int) < (nb : Int) := by omega
              obtain ⟨z0, z2⟩ := HPD.out j hjl wr hGx
              obtain ⟨_, k2⟩ := HPD.out k hkb wr hGx
              rw [HPY.out.2] at k2
              have han := any_take hjl py
              rw [HA.out, Bool.false_or] at han
              obtain ⟨qk, hqk⟩ : ∃ qk, l[j].k = qk := ⟨_, rfl⟩
              obtain ⟨qy, hqy⟩ : ∃ qy, l[j].y = qy := ⟨_, rfl⟩
              rw [hqk] at z0 han
              rw [hqy] at z2 han
              clear hqk hqy HA y0 y2
              by_cases h1 : qk = 2
              · subst h1
                by_cases h3 : qy = py
                · as_aux_lemma =>
                    subst h3
                    have HF : Hid (R = true) := by
                      show R = true
                      rw [HST.out, if_pos]
                      refine .inr ?_
                      rw [List.any_eq_true]
                      have : ((l.take (j + 1)).any fun q => decide (q.k = 2) && decide (q.y = qy)) = true := by rw [han]; simp
                      rw [List.any_eq_true] at this
                      obtain ⟨q, hq, hq2⟩ := this
                      exact ⟨q, List.take_subset_take_left l (by omega) hq, hq2⟩
                    clear han HST HPD HPY
                    go_wp2
                    go_quiet (fail)
                    go_wp2
                    go_ret
                    have hrt := HF.out
                    exact ⟨by first | rfl | (rw [hrt]; rfl), HG2.out.trans (hGx.drewN _)⟩
                · as_aux_lemma =>
                    have h3' : (qy == py) = false := by simpa using h3
                    have HF : Hid (((l.take (j + 1)).any fun q => decide (q.k = 2) && decide (q.y = py)) = false) := by show _ = false; rw [han]; simp [h3]
                    clear han HST HPD HPY
                    go_wp2
                    go_quiet (fail)
                    go_wp2
                    exact ⟨⟨j + 1, by go_num, by omega, HF, hGx.drewN _⟩, by simp [intOf]; omega⟩
              · as_aux_lemma =>
                  have h1' : (qk == 2) = false := by simpa using h1
                  have HF : Hid (((l.take (j + 1)).any fun q => decide (q.k = 2) && decide (q.y = py)) = false) := by show _ = false; rw [han]; simp [h1]
                  clear han HST HPD HPY
                  go_wp2
                  go_quiet (fail)
                  go_wp2
                  exact ⟨⟨j + 1, by go_num, by omega, HF, hGx.drewN _⟩, by simp [intOf]; omega⟩
            · as_aux_lemma =>
                have hge : ¬ (j : Int) < (k : Int) := by omega
                have hjk2 : j = k := by omega
                have HF : Hid (wrg (l.take (k + 1)) (l.drop (k + 1)) = R) := by
                  have h1 := HST.out
                  have h3 := HA.out
                  rw [hjk2] at h3
                  rw [if_neg (by rw [h3]; simp [hy0])] at h1
                  exact h1.symm
                clear HST HA
                go_wp2
                exact ⟨⟨k + 1, by go_num, by omega, HF, hGx⟩, by simp [intOf]; omega⟩
      · as_aux_lemma =>
          have h2' : (pk != 2) = true := by simpa using h2
          have HF : Hid (wrg (l.take (k + 1)) (l.drop (k + 1)) = R) := by rw [if_pos h2] at hst; exact hst.symm
          clear hst
          go_wp2
          exact ⟨⟨k + 1, by go_num, by omega, HF, hG⟩, by simp [intOf]; omega⟩
    · as_aux_lemma =>
        have hge : ¬ (k : Int) < (nb : Int) := by omega
        have HF : Hid (R = false) := by
          have := HW.out
          rw [List.drop_eq_nil_of_le (by rw [HNB.out]; omega), wrg] at this
          exact this.symm
        clear HW
        go_wp2
        go_ret
        have hrt := HF.out
        exact ⟨by first | rfl | (rw [hrt]; rfl), HG2.out.trans hG⟩
def fb1 (b : Pb) (u : Value) : List Value := [.int .i64 (b.r : Nat), u, .int .i64 b.wt]
def fbk : List Pb → List Value → List Value
  | b :: l, u :: us => fb1 b u ++ fbk l us
  | _, _ => []
theorem fbk_snoc : ∀ (l : List Pb) (us : List Value) (b : Pb) (u : Value), us.length = l.length → fbk (l ++ [b]) (us ++ [u]) = fbk l us ++ fb1 b u
  | [], [], b, u, _ => by simp [fbk]
  | [], _ :: _, _, _, h => by simp at h
  | _ :: _, [], _, _, h => by simp at h
  | c :: l, v :: us, b, u, h => by
    have := fbk_snoc l us b u (by simpa using h)
    simp only [List.cons_append, fbk, this, List.append_assoc]
theorem fbk_at : ∀ (l : List Pb) (us : List Value) (j : Nat) (h : j < l.length) (h' : j < us.length), (fbk l us)[j * 3]? = some (.int .i64 (l[j].r : Nat)) ∧ (fbk l us)[j * 3 + 1]? = some us[j] ∧ (fbk l us)[j * 3 + 2]? = some (.int .i64 l[j].wt)
  | [], _, j, h, _ => by simp at h
  | _ :: _, [], j, _, h => by simp at h
  | b :: l, u :: us, 0, _, _ => by simp [fbk, fb1]
  | b :: l, u :: us, j + 1, h, h' => by
    have := fbk_at l us j (by simpa using h) (by simpa using h')
    rw [show (j + 1) * 3 = j * 3 + 3 by omega]
    simpa [fbk, fb1] using this
/-- the pieces' row, of the call's own -/
def BKo (W : World) (base : Nat) (v : Value) (bk : List Pb) (uvs : List Value) : Prop := uvs.length = bk.length ∧ W.ownsRow base 121 3 v bk.length (fbk bk uvs)
theorem BKo.bk {W : World} {base : Nat} {v : Value} {bk : List Pb} {uvs : List Value} (h : BKo W base v bk uvs) : BK W base v bk uvs := by
  obtain ⟨h0, h⟩ := h
  have hc := @World.ownsRow.cells
  rcases h.2 with ⟨rfl, h1⟩ | ⟨g, cap, cur, rfl, h1, h2, h3, _⟩
  · have hb : bk = [] := List.eq_nil_of_length_eq_zero h1
    subst hb
    exact ⟨h0, none, 0, rfl, Nat.le_refl _, .inl rfl⟩
  · refine ⟨h0, _, cap, rfl, h3, .inr ⟨g, cur, rfl, h1, h2, fun j hj hj' => ?_⟩⟩
    obtain ⟨a1, a2, a3⟩ := fbk_at bk uvs j hj hj'
    have b1 := World.ownsRow.cells h rfl _ _ a1
    have b2 := World.ownsRow.cells h rfl _ _ a2
    have b3 := World.ownsRow.cells h rfl _ _ a3
    rw [add_zero_at] at b1 b2 b3
    exact ⟨b1, b2, b3⟩
theorem BKo.turn {W W' : World} {base B : Nat} {v : Value} {bk : List Pb} {uvs : List Value} {o : Obj} (h : BKo W base v bk uvs) (ho : W.heap[B]? = some o) (hn : ∀ cs m, o ≠ .cells cs 121 m) (k : Turns B W W') : BKo W' base v bk uvs := by
  refine ⟨h.1, h.2.1, ?_⟩
  rcases h.2.2 with h | ⟨g, cap, cur, e1, h1, h2, h3⟩
  · exact .inl h
  · exact .inr ⟨g, cap, cur, e1, h1, (k g (ne_obj h2 ho (fun e => hn cur _ e.symm))).trans h2, h3⟩
theorem BKo.below {W W' : World} {base : Nat} {v : Value} {bk : List Pb} {uvs : List Value} (h : BKo W base v bk uvs) (hb : Below W.heap.size W W') : BKo W' base v bk uvs := by
  refine ⟨h.1, h.2.1, ?_⟩
  rcases h.2.2 with h | ⟨g, cap, cur, e1, h1, h2, h3⟩
  · exact .inl h
  · exact .inr ⟨g, cap, cur, e1, h1, (hb.block g (Array.getElem?_eq_some_iff.1 h2).1).trans h2, h3⟩
theorem BKo.row {W : World} {base : Nat} {v : Value} {bk : List Pb} {uvs : List Value} (h : BKo W base v bk uvs) {b : Nat} (hb : v.ownBlock = some b) : base ≤ b ∧ ∃ cs, W.heap[b]? = some (.cells cs 121 (0, 0)) := by
  rcases h.2.2 with ⟨rfl, _⟩ | ⟨g, cap, cur, rfl, h1, h2, _⟩
  · simp [Value.ownBlock] at hb
  · simp [Value.ownBlock] at hb
    subst hb
    exact ⟨h1, cur, h2⟩
theorem UR.keep {W W' : World} {base : Nat} {v : Value} {l : List (Int × Int)} (h : UR W base v l) (hk : ∀ g, g < W.heap.size → (g < base ∨ ∃ cs m, W.heap[g]? = some (.cells cs 84 m)) → W'.heap[g]? = W.heap[g]?) : UR W' base v l := by
  obtain ⟨a, cap, h1, h2, h3⟩ := h
  refine ⟨a, cap, h1, h2, ?_⟩
  by_cases hl : l = []
  · exact .inl hl
  · obtain ⟨g, o, h4, h5, h6⟩ := h3.resolve_left hl
    have he := hk g (h5.lt hl) h6
    refine .inr ⟨g, o, h4, fun j hj => ?_, h6.imp id fun ⟨cs, m, h6⟩ => ⟨cs, m, he.trans h6⟩⟩
    rw [cell_same he, cell_same he]
    exact h5 j hj
section
variable {W W1 w0 : World} {sp m1 ga m2 N1 N2 : Nat} {bv : Value} {uvs : List Value} {rv : Value} {rs : List Rl} {st : St} {ln : Int → Option Value}
/-- one piece more -/
theorem Sc.turn5 (h : Sc W w0 sp m1 ga m2 N1 N2 bv uvs rv rs st (fun _ => none)) (ho : BKo W w0.heap.size bv st.bk uvs) {g cap n : Nat} {b : Pb} {uv : Value} (hn : st.bk.length = n) (hown : W1.ownsRow w0.heap.size 121 3 (.slice (some ⟨g, 0, none⟩) (n + 1) cap) (n + 1) (fbk st.bk uvs ++ fb1 b uv)) (hgr : W.grownBy W1 bv.ownBlock) (hu : UR W w0.heap.size uv b.us) :
    Sc (W1.setCell ⟨sp, 3, none⟩ (.slice (some ⟨g, 0, none⟩) (n + 1) cap)) w0 sp m1 ga m2 N1 N2 (.slice (some ⟨g, 0, none⟩) (n + 1) cap) (uvs ++ [uv]) rv rs ⟨st.ws, st.aq, st.bk ++ [b]⟩ (fun _ => none) ∧ BKo (W1.setCell ⟨sp, 3, none⟩ (.slice (some ⟨g, 0, none⟩) (n + 1) cap)) w0.heap.size (.slice (some ⟨g, 0, none⟩) (n + 1) cap) (st.bk ++ [b]) (uvs ++ [uv]) ∧ Below w0.heap.size W1 (W1.setCell ⟨sp, 3, none⟩ (.slice (some ⟨g, 0, none⟩) (n + 1) cap)) := by
  have hk : ∀ {x : Nat} {o : Obj}, W.heap[x]? = some o → (∀ cs m, o ≠ .cells cs 121 m) → W1.heap[x]? = some o := fun {x o} hx hne => by
    refine (hgr.block x (Array.getElem?_eq_some_iff.1 hx).1 (fun e => ?_)).trans hx
    obtain ⟨_, cs, hc⟩ := ho.row e.symm
    rw [hx] at hc
    injection hc with hc
    exact hne _ _ hc
  have hB1 : Below w0.heap.size W W1 := (Below.refl _ W).grown hgr h.bel.size (fun x hx => (ho.row hx).1)
  have hblk := hk h.blk (by simp)
  obtain ⟨es, c, ho1⟩ := h.wm.isMap
  obtain ⟨es2, c2, ho2⟩ := h.lnm.isMap
  have hk1 := hk ho1 (by simp)
  have hk2 := hk ho2 (by simp)
  have hka := hk h.asb (by simp)
  have ht := turns_set W1 sp 3 (.slice (some ⟨g, 0, none⟩) (n + 1) cap)
  have e1 : m1 ≠ sp := ne_obj hk1 hblk (by simp)
  have e2 : m2 ≠ sp := ne_obj hk2 hblk (by simp)
  have e3 : ga ≠ sp := ne_obj hka hblk (by simp)
  have hbl : (st.bk ++ [b]).length = n + 1 := by simp [hn]
  have hBK1 : BKo W1 w0.heap.size (.slice (some ⟨g, 0, none⟩) (n + 1) cap) (st.bk ++ [b]) (uvs ++ [uv]) := by
    refine ⟨by simp [ho.1], ?_⟩
    rw [hbl, fbk_snoc _ _ _ _ ho.1]
    exact hown
  have hBK := hBK1.turn hblk (by simp) ht
  have hur : ∀ {v : Value} {l : List (Int × Int)}, UR W w0.heap.size v l → UR (W1.setCell ⟨sp, 3, none⟩ (.slice (some ⟨g, 0, none⟩) (n + 1) cap)) w0.heap.size v l := fun {v l} hv => by
    have h1 : UR W1 w0.heap.size v l := hv.keep (fun x hx hc => by
      refine hgr.block x hx (fun e => ?_)
      obtain ⟨hb, cs, hcs⟩ := ho.row e.symm
      rcases hc with hc | ⟨cs', m, hc⟩
      · omega
      · rw [hc] at hcs; simp at hcs)
    exact h1.turn h.bsp hblk (by simp) ht
  refine ⟨⟨?_, (h.bel.trans hB1).setCell h.bsp _, h.rul, h.bsp, h.bm1, h.bga, h.bm2, h.m12, h.wm.kept (fun o hb => (ht _ e1).trans (by rw [ho1] at hb; cases hb; exact hk1)), (ht _ e3).trans hka, hBK.bk, fun j hj hj' => ?_, h.lnm.kept (fun o hb => (ht _ e2).trans (by rw [ho2] at hb; cases hb; exact hk2)), fun k v e => by cases e⟩, hBK, (Below.refl _ _).setCell h.bsp _⟩
  · rw [set_heap hblk]; simp
  · by_cases hlt : j < st.bk.length
    · rw [List.getElem_append_left hlt, List.getElem_append_left (by rw [ho.1]; exact hlt)]
      exact hur (h.urs j hlt (by rw [ho.1]; exact hlt))
    · have hje : j = st.bk.length := by simp at hj; omega
      subst hje
      rw [List.getElem_append_right (Nat.le_refl _), List.getElem_append_right (by rw [ho.1]; exact Nat.le_refl _)]
      simpa using hur hu
end
end Go.Proofs
