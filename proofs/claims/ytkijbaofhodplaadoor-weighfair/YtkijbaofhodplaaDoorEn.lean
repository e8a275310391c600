/-
  weight: what a unit weighs on a scale.
-/
import Derived.RangeFuncNested
import Derived.RangeFuncBound
import Derived.RangeFuncCalls
import Derived.RangeFuncLeaves
import Derived.Shelf.Abstract
import Derived.Shelf.RegionOpen
import Derived.WalkKit
import Derived.WalkSpells
import Derived.WalkLawsBesides
import Derived.OwnWalkIn
import Derived.TacticsInMore
import Derived.LoopNIn
import Derived.LoopIn
import Derived.BigQuiet
import Derived.RegionIn
import Derived.Deep.QuietTactic
import Derived.Deep.RegionWith
import Derived.Lib.OthersKept
import Derived.Maps.AppendAt
import Derived.Lib.SmallJoins
import Derived.Shelf.SlSortCmp.QuietGrown
import Derived.Test.YtkijbaofhodplaaDoorEm
namespace Go.Proofs
open Go.RowKit Go.Shelf

set_option maxRecDepth 100000
attribute [local go_sem] Oper.semAt_some
attribute [local go_sem ↓] Go.wp_at_zero Go.wp_at_succ
/-- what a unit weighs by the first k rules -/
def wgtK (rs : List Rl) (ws : List Int) (u : Int) : Nat → Int
  | 0 => 1
  | k + 1 => if wgtK rs ws u k < at0 ws k ∧ hasB (fstS rs k) u = true then at0 ws k else wgtK rs ws u k
theorem wgtK_bound {rs : List Rl} {ws : List Int} {u : Int} (h : ∀ i, i < rs.length → 1 ≤ at0 ws i ∧ at0 ws i ≤ 64) : ∀ k, k ≤ rs.length → 1 ≤ wgtK rs ws u k ∧ wgtK rs ws u k ≤ 64
  | 0, _ => by simp [wgtK]
  | k + 1, hk => by
    have h1 := wgtK_bound (u := u) h k (by omega)
    have h2 := h k (by omega)
    unfold wgtK
    split
    · exact h2
    · exact h1
set_option maxHeartbeats 4000000 in
theorem weight_any (rv : Value) (rs : List Rl) (st : St) (W : World) (B sp : Nat) (u : Int) (hT : Tab W) (hS : Sca W B sp rv rs st) (hK : Kok rs) :
    Calls Tryd.prog 36 #[.pointer (some ⟨sp, 0, none⟩), .int .i64 u] W fun e w' => e = .returned (.int .i64 (wgtK rs st.ws u rs.length)) ∧ Grown W w' := by
  obtain ⟨w0, m1, ga, m2, N1, N2, bv, uvs, ln, _, hS, hO⟩ := hS
  have HS : Hid (∀ W', Grown W W' → Sc W' w0 sp m1 ga m2 N1 N2 bv uvs rv rs st ln) := fun W' h => hS.grown h
  have HT : Hid (∀ W', Grown W W' → Tab W') := fun W' h => hT.grown h
  have HWB : Hid (∀ i, i < rs.length → 1 ≤ at0 st.ws i ∧ at0 st.ws i ≤ 64) := fun i hi => hO.wb i (by rw [csI_len]; exact hi)
  have HWL : Hid (st.ws.length = rs.length) := by show _ = _; rw [hO.wl, csI_len]
  have HK : Hid (Kok rs) := hK
  have d0 : W.cell? ⟨sp, 0, none⟩ = some rv := by rw [cell_of hS.blk]; simp
  have d1 : W.cell? ⟨sp, 1, none⟩ = some (.map (some m1)) := by rw [cell_of hS.blk]; simp
  have HR : Hid (PsR w0 rv rs) := hS.rul
  obtain ⟨ra, rc, hrv, _, _⟩ := hS.rul
  obtain ⟨n, hn⟩ : ∃ n, rs.length = n := ⟨_, rfl⟩
  have HN : Hid (rs.length = n) := hn
  rw [hn] at hrv
  subst hrv
  have hnI : (n : Int) ≤ 256 := by have := hK.n; omega
  rw [hn]
  clear hS hO hT hn hK
  go_enter Tryd.func36, Tryd.ntmps36
  go_wp2
  go_loopw [5, 14] (fun vm vi wr => ∃ (k : Nat) (x : Int), vi = .int .i64 k ∧ vm = .int .i64 x ∧ k ≤ n ∧ Hid (x = wgtK rs st.ws u k) ∧ Grown W wr) (fun _ vi _ => n - (intOf vi).toNat)
  case atStart => exact ⟨0, 1, rfl, rfl, by omega, rfl, Grown.refl _⟩
  case round =>
    obtain ⟨k, x, rfl, rfl, hk, HX, hG⟩ := hrel
    have hk0 : (0 : Int) ≤ (k : Int) := by omega
    by_cases hlt : k < n
    · have hlt' : (k : Int) < (n : Int) := by omega
      have hkl : k < rs.length := by rw [HN.out]; exact hlt
      have hSr := HS.out wr hG
      obtain ⟨a', c', e', _, hPr⟩ := HR.out
      obtain ⟨g, o, ha', hRA⟩ := hPr.resolve_left (fun e => by rw [e] at hkl; simp at hkl)
      injection e' with q1 q2 q3
      clear q2 q3
      rw [ha'] at q1
      subst q1
      obtain ⟨av, kv, pv, rv', r0, r1, r2, r3, r4, r5, r6, hRR⟩ := (hRA k hkl).below hSr.bel (Nat.le_refl _)
      have hkk0 := HK.out.k0 _ (List.getElem_mem hkl)
      obtain ⟨ka, kc, hkv, _, hkk⟩ := hRR.k
      obtain ⟨kg, ko, hka, hkd⟩ := hkk.resolve_left (fun e => by rw [e] at hkk0; simp at hkk0)
      subst hka
      obtain ⟨sv, hs0, hsr⟩ := hkd 0 hkk0
      rw [Nat.add_zero] at hs0
      subst hkv
      have hfs : fstS rs k = rs[k].key[0] := by rw [fstS_at hkl]; simp [keyAt, hkk0]
      have HH : Hid (∀ ob, Calls Tryd.prog 58 #[sv, .int .i64 u] (wr.alloc ob) fun e w' => e = .returned (.bool (hasB (fstS rs k) u)) ∧ Grown (wr.alloc ob) w') := fun ob => by
        have hg : Grown wr (wr.alloc ob) := (Grown.refl _).alloc ob
        rw [hfs]
        exact has_any sv _ u (wr.alloc ob) (HT.out _ (hG.trans hg)) (hsr.grown hg)
      obtain ⟨s1, s2, s3, rfl⟩ := hsr.sl
      obtain ⟨a1, n1, c1, rfl⟩ := hRR.a.sl
      obtain ⟨a3, n3, c3, rfl⟩ := hRR.p.sl
      obtain ⟨a5, n5, c5, rfl⟩ := hRR.r.sl
      have hkws : k < st.ws.length := by rw [HWL.out]; exact hkl
      have hlk : ∀ ob, (Instr.lookup 42 (.map (some m1)) (.int .i64 k) false).run Tryd.prog (wr.alloc ob) = .ok (.int .i64 (at0 st.ws k)) (wr.alloc ob) := fun ob => by
        have := (hSr.grown ((Grown.refl _).alloc ob)).wm.look (t := 42) (e := 3) Tryd.underlying42 (zero3 _) (k := (k : Int)) ⟨by omega, by omega⟩
        rw [this, wsF_nat hkws]
        rfl
      have e0 := fun ob => cell_up (hG.cellv d0) ob
      have e1 := fun ob => cell_up (hG.cellv d1) ob
      have hs0' := fun ob => cell_up hs0 ob
      have HW : Hid (wgtK rs st.ws u (k + 1) = if wgtK rs st.ws u k < at0 st.ws k ∧ hasB (fstS rs k) u = true then at0 st.ws k else wgtK rs st.ws u k) := rfl
      rw [← HX.out] at HW
      have hkn : (0 : Int) < (rs[k].key.length : Int) := by omega
      clear hRA hPr ha' hkk hkd hsr hfs hRR hSr hkws hkk0
      generalize rs[k].key.length = kn at *
      generalize rs[k].bg = xb at *
      generalize rs[k].en = xe at *
      generalize rs[k].cu = xc at *
      generalize at0 st.ws k = y at *
      generalize hasB (fstS rs k) u = hb at *
      clear HX
      by_cases hc : x < y
      · cases hb with
        | true =>
          as_aux_lemma =>
            have HF : Hid (y = wgtK rs st.ws u (k + 1)) := by show y = _; rw [HW.out, if_pos ⟨hc, rfl⟩]
            clear HW
            go_wp2_with (go_at_call 58; refine (HH.out _).mono ?_; rintro e w' ⟨rfl, hg⟩)
            exact ⟨⟨k + 1, y, by go_num, rfl, by omega, HF, (hG.alloc _).trans hg⟩, by simp [intOf]; omega⟩
        | false =>
          as_aux_lemma =>
            have HF : Hid (x = wgtK rs st.ws u (k + 1)) := by show x = _; rw [HW.out, if_neg (by simp)]
            clear HW
            go_wp2_with (go_at_call 58; refine (HH.out _).mono ?_; rintro e w' ⟨rfl, hg⟩)
            exact ⟨⟨k + 1, x, by go_num, rfl, by omega, HF, (hG.alloc _).trans hg⟩, by simp [intOf]; omega⟩
      · as_aux_lemma =>
          have HF : Hid (x = wgtK rs st.ws u (k + 1)) := by show x = _; rw [HW.out, if_neg (fun h => hc h.1)]
          clear HW
          go_wp2
          exact ⟨⟨k + 1, x, by go_num, rfl, by omega, HF, hG.alloc _⟩, by simp [intOf]; omega⟩
    · as_aux_lemma =>
        have hge : ¬ (k : Int) < (n : Int) := by omega
        have hkn : k = n := by omega
        subst hkn
        go_wp2
        go_ret
        exact ⟨by rw [← HX.out]; rfl, hG⟩
end Go.Proofs
