/-
  Check and Weight.
-/
import Derived.RangeFuncNested
import Derived.RangeFuncBound
import Derived.RangeFuncCalls
import Derived.RangeFuncLeaves
import Derived.Shelf.Abstract
import Derived.Shelf.RegionOpen
import Derived.WalkKit
import Derived.WalkSpells
import Derived.WalkLawsBesides
import Derived.OwnWalkIn
import Derived.TacticsInMore
import Derived.LoopNIn
import Derived.LoopIn
import Derived.BigQuiet
import Derived.RegionIn
import Derived.Deep.QuietTactic
import Derived.Deep.RegionWith
import Derived.Lib.OthersKept
import Derived.Maps.AppendAt
import Derived.Lib.SmallJoins
import Derived.Shelf.SlSortCmp.QuietGrown
import Derived.Test.YtkijbaofhodplaaDoorEm
namespace Go.Proofs
open Go.RowKit Go.Shelf

set_option maxRecDepth 100000
attribute [local go_sem] Oper.semAt_some
attribute [local go_sem ↓] Go.wp_at_zero Go.wp_at_succ
/-- what a unit weighs by the first k rules -/
def wgtK (rs : List Rl) (ws : List Int) (u : Int) : Nat → Int
  | 0 => 1
  | k + 1 => if wgtK rs ws u k < at0 ws k ∧ hasB (fstS rs k) u = true then at0 ws k else wgtK rs ws u k
theorem wgtK_bound {rs : List Rl} {ws : List Int} {u : Int} (h : ∀ i, i < rs.length → 1 ≤ at0 ws i ∧ at0 ws i ≤ 64) : ∀ k, k ≤ rs.length → 1 ≤ wgtK rs ws u k ∧ wgtK rs ws u k ≤ 64
  | 0, _ => by simp [wgtK]
  | k + 1, hk => by
    have h1 := wgtK_bound (u := u) h k (by omega)
    have h2 := h k (by omega)
    unfold wgtK
    split
    · exact h2
    · exact h1
set_option maxHeartbeats 4000000 in
theorem weight_any (rv : Value) (rs : List Rl) (st : St) (W : World) (B sp : Nat) (u : Int) (hT : Tab W) (hS : Sca W B sp rv rs st) (hK : Kok rs) :
    Calls Tryd.prog 36 #[.pointer (some ⟨sp, 0, none⟩), .int .i64 u] W fun e w' => e = .returned (.int .i64 (wgtK rs st.ws u rs.length)) ∧ Grown W w' := by
  obtain ⟨w0, m1, ga, m2, N1, N2, bv, uvs, ln, _, hS, hO⟩ := hS
  have HS : Hid (∀ W', Grown W W' → Sc W' w0 sp m1 ga m2 N1 N2 bv uvs rv rs st ln) := fun W' h => hS.grown h
  have HT : Hid (∀ W', Grown W W' → Tab W') := fun W' h => hT.grown h
  have HWB : Hid (∀ i, i < rs.length → 1 ≤ at0 st.ws i ∧ at0 st.ws i ≤ 64) := fun i hi => hO.wb i (by rw [csI_len]; exact hi)
  have HWL : Hid (st.ws.length = rs.length) := by show _ = _; rw [hO.wl, csI_len]
  have HK : Hid (Kok rs) := hK
  have d0 : W.cell? ⟨sp, 0, none⟩ = some rv := by rw [cell_of hS.blk]; simp
  have d1 : W.cell? ⟨sp, 1, none⟩ = some (.map (some m1)) := by rw [cell_of hS.blk]; simp
  have HR : Hid (PsR w0 rv rs) := hS.rul
  obtain ⟨ra, rc, hrv, _, _⟩ := hS.rul
  obtain ⟨n, hn⟩ : ∃ n, rs.length = n := ⟨_, rfl⟩
  have HN : Hid (rs.length = n) := hn
  rw [hn] at hrv
  subst hrv
  have hnI : (n : Int) ≤ 256 := by have := hK.n; omega
  rw [hn]
  clear hS hO hT hn hK
  go_enter Tryd.func36, Tryd.ntmps36
  go_wp2
  go_loopw [5, 14] (fun vm vi wr => ∃ (k : Nat) (x : Int), vi = .int .i64 k ∧ vm = .int .i64 x ∧ k ≤ n ∧ Hid (x = wgtK rs st.ws u k) ∧ Grown W wr) (fun _ vi _ => n - (intOf vi).toNat)
  case atStart => exact ⟨0, 1, rfl, rfl, by omega, rfl, Grown.refl _⟩
  case round =>
    obtain ⟨k, x, rfl, rfl, hk, HX, hG⟩ := hrel
    have hk0 : (0 : Int) ≤ (k : Int) := by omega
    by_cases hlt : k < n
    · have hlt' : (k : Int) < (n : Int) := by omega
      have hkl : k < rs.length := by rw [HN.out]; exact hlt
      have hSr := HS.out wr hG
      obtain ⟨a', c', e', _, hPr⟩ := HR.out
      obtain ⟨g, o, ha', hRA⟩ := hPr.resolve_left (fun e => by rw [e] at hkl; simp at hkl)
      injection e' with q1 q2 q3
      clear q2 q3
      rw [ha'] at q1
      subst q1
      obtain ⟨av, kv, pv, rv', r0, r1, r2, r3, r4, r5, r6, hRR⟩ := (hRA k hkl).below hSr.bel (Nat.le_refl _)
      have hkk0 := HK.out.k0 _ (List.getElem_mem hkl)
      obtain ⟨ka, kc, hkv, _, hkk⟩ := hRR.k
      obtain ⟨kg, ko, hka, hkd⟩ := hkk.resolve_left (fun e => by rw [e] at hkk0; simp at hkk0)
      subst hka
      obtain ⟨sv, hs0, hsr⟩ := hkd 0 hkk0
      rw [Nat.add_zero] at hs0
      subst hkv
      have hfs : fstS rs k = rs[k].key[0] := by rw [fstS_at hkl]; simp [keyAt, hkk0]
      have HH : Hid (∀ ob, Calls Tryd.prog 58 #[sv, .int .i64 u] (wr.alloc ob) fun e w' => e = .returned (.bool (hasB (fstS rs k) u)) ∧ Grown (wr.alloc ob) w') := fun ob => by
        have hg : Grown wr (wr.alloc ob) := (Grown.refl _).alloc ob
        rw [hfs]
        exact has_any sv _ u (wr.alloc ob) (HT.out _ (hG.trans hg)) (hsr.grown hg)
      obtain ⟨s1, s2, s3, rfl⟩ := hsr.sl
      obtain ⟨a1, n1, c1, rfl⟩ := hRR.a.sl
      obtain ⟨a3, n3, c3, rfl⟩ := hRR.p.sl
      obtain ⟨a5, n5, c5, rfl⟩ := hRR.r.sl
      have hkws : k < st.ws.length := by rw [HWL.out]; exact hkl
      have hlk : ∀ ob, (Instr.lookup 42 (.map (some m1)) (.int .i64 k) false).run Tryd.prog (wr.alloc ob) = .ok (.int .i64 (at0 st.ws k)) (wr.alloc ob) := fun ob => by
        have := (hSr.grown ((Grown.refl _).alloc ob)).wm.look (t := 42) (e := 3) Tryd.underlying42 (zero3 _) (k := (k : Int)) ⟨by omega, by omega⟩
        rw [this, wsF_nat hkws]
        rfl
      have e0 := fun ob => cell_up (hG.cellv d0) ob
      have e1 := fun ob => cell_up (hG.cellv d1) ob
      have hs0' := fun ob => cell_up hs0 ob
      have HW : Hid (wgtK rs st.ws u (k + 1) = if wgtK rs st.ws u k < at0 st.ws k ∧ hasB (fstS rs k) u = true then at0 st.ws k else wgtK rs st.ws u k) := rfl
      rw [← HX.out] at HW
      have hkn : (0 : Int) < (rs[k].key.length : Int) := by omega
      clear hRA hPr ha' hkk hkd hsr hfs hRR hSr hkws hkk0
      generalize rs[k].key.length = kn at *
      generalize rs[k].bg = xb at *
      generalize rs[k].en = xe at *
      generalize rs[k].cu = xc at *
      generalize at0 st.ws k = y at *
      generalize hasB (fstS rs k) u = hb at *
      clear HX
      by_cases hc : x < y
      · cases hb with
        | true =>
          as_aux_lemma =>
            have HF : Hid (y = wgtK rs st.ws u (k + 1)) := by show y = _; rw [HW.out, if_pos ⟨hc, rfl⟩]
            clear HW
            go_wp2_with (go_at_call 58; refine (HH.out _).mono ?_; rintro e w' ⟨rfl, hg⟩)
            exact ⟨⟨k + 1, y, by go_num, rfl, by omega, HF, (hG.alloc _).trans hg⟩, by simp [intOf]; omega⟩
        | false =>
          as_aux_lemma =>
            have HF : Hid (x = wgtK rs st.ws u (k + 1)) := by show x = _; rw [HW.out, if_neg (by simp)]
            clear HW
            go_wp2_with (go_at_call 58; refine (HH.out _).mono ?_; rintro e w' ⟨rfl, hg⟩)
            exact ⟨⟨k + 1, x, by go_num, rfl, by omega, HF, (hG.alloc _).trans hg⟩, by simp [intOf]; omega⟩
      · as_aux_lemma =>
          have HF : Hid (x = wgtK rs st.ws u (k + 1)) := by show x = _; rw [HW.out, if_neg (fun h => hc h.1)]
          clear HW
          go_wp2
          exact ⟨⟨k + 1, x, by go_num, rfl, by omega, HF, hG.alloc _⟩, by simp [intOf]; omega⟩
    · as_aux_lemma =>
        have hge : ¬ (k : Int) < (n : Int) := by omega
        have hkn : k = n := by omega
        subst hkn
        go_wp2
        go_ret
        exact ⟨by rw [← HX.out]; rfl, hG⟩
end Go.Proofs
namespace Go.Proofs
open Go.RowKit Go.Shelf

set_option maxRecDepth 100000
attribute [local go_sem] Oper.semAt_some
attribute [local go_sem ↓] Go.wp_at_zero Go.wp_at_succ
/-- the number and the error -/
def chkW (rs : List Rl) : Int × Int := (wgh rs).2
/-- what a unit weighs in a pass -/
def wgtP (rs : List Rl) (u : Int) : Int := match (wgh rs).1 with
  | none => 0
  | some st => if wd u = 0 then 0 else wgtK rs st.ws u rs.length
theorem wgh_some {rs : List Rl} {st : St} {c : Int × Int} (h : wgh rs = (some st, c)) : rs.length ≤ 256 ∧ ∀ r ∈ rs, Ok r := by
  unfold wgh at h
  by_cases h0 : (allE rs).2 ≠ 0
  · rw [if_pos h0] at h; injection h with h1; cases h1
  · exact allE_ok (Classical.not_not.1 h0)
theorem wgh_none {rs : List Rl} {c : Int × Int} (h : wgh rs = (none, c)) : c.2 ≠ 0 := by
  unfold wgh at h
  by_cases h0 : (allE rs).2 ≠ 0
  · rw [if_pos h0] at h; injection h with _ h1; rw [← h1]; exact h0
  · rw [if_neg h0] at h
    split at h
    · injection h with _ h1; rw [← h1]; simp
    · split at h
      · injection h with _ h1; rw [← h1]; simp
      · injection h with h1; cases h1
set_option maxHeartbeats 2000000 in
theorem wcheck_any (rv : Value) (rs : List Rl) (w : World) (hT : Tab w) (h : PsR w rv rs) : Calls Tryd.prog 13 #[.agg #[rv]] w fun e w' => e = .returned (.tuple #[.int .i64 (chkW rs).1, .int .i64 (chkW rs).2]) ∧ Below w.heap.size w w' := by
  have HC : Hid (∀ ob, Calls Tryd.prog 34 #[.agg #[rv]] (w.alloc ob) fun e w' => ∃ p, e = .returned (.tuple #[.pointer p, .int .i64 (chkW rs).1, .int .i64 (chkW rs).2]) ∧ Below w.heap.size w w') := fun ob => by
    have hg : Grown w (w.alloc ob) := (Grown.refl _).alloc ob
    refine (weighed_any rv rs (w.alloc ob) (hT.grown hg) (h.grown hg)).mono ?_
    rintro e w' ⟨hb, ⟨c, h1, rfl⟩ | ⟨st, sp, h1, rfl, _⟩⟩
    · exact ⟨none, by unfold chkW; rw [h1], hg.below.trans (hb.mono hg.size)⟩
    · exact ⟨_, by unfold chkW; rw [h1], hg.below.trans (hb.mono hg.size)⟩
  generalize (chkW rs).1 = c1 at HC ⊢
  generalize (chkW rs).2 = c2 at HC ⊢
  obtain ⟨ra, rc, rfl, _, _⟩ := h
  go_enter Tryd.func13, Tryd.ntmps13
  go_wp2_with (go_at_call 34; refine (HC.out _).mono ?_; rintro e w' ⟨p, rfl, hb⟩)
  exact bodyPost_ret (v := .tuple #[.int .i64 c1, .int .i64 c2]) (by simp [results, Tryd.f13, go_sem]) rfl ⟨rfl, hb⟩
set_option maxHeartbeats 2000000 in
theorem wweight_any (rv : Value) (rs : List Rl) (u : Int) (w : World) (hT : Tab w) (h : PsR w rv rs) : Calls Tryd.prog 14 #[.agg #[rv], .int .i64 u] w fun e w' => e = .returned (.int .i64 (wgtP rs u)) ∧ Below w.heap.size w w' := by
  have HC : Hid (∀ ob, Calls Tryd.prog 34 #[.agg #[rv]] (w.alloc ob) (WgQ (w.alloc ob) rv rs)) := fun ob => by
    have hg : Grown w (w.alloc ob) := (Grown.refl _).alloc ob
    exact weighed_any rv rs (w.alloc ob) (hT.grown hg) (h.grown hg)
  have HT : Hid (Tab w) := hT
  have HWD : Hid (∀ W, Calls Tryd.prog 35 #[.int .i64 u] W fun e w' => e = .returned (.int .i64 (wd u)) ∧ w' = W) := fun W => width_any u W
  have HBA : Hid (∀ ob (W : World), Below (w.alloc ob).heap.size (w.alloc ob) W → Below w.heap.size w W) := fun ob W hb => by
    have hg : Grown w (w.alloc ob) := (Grown.refl _).alloc ob
    exact hg.below.trans (hb.mono hg.size)
  obtain ⟨ra, rc, hrv, _, _⟩ := h
  obtain ⟨n, hn⟩ : ∃ n, rs.length = n := ⟨_, rfl⟩
  rw [hn] at hrv
  subst hrv
  obtain ⟨R, hR⟩ : ∃ R, wgtP rs u = R := ⟨_, rfl⟩
  have HR : Hid (wgtP rs u = R) := hR
  rw [hR]
  clear hn hT hR
  obtain ⟨d, hd⟩ : ∃ d, wd u = d := ⟨_, rfl⟩
  have HD : Hid (wd u = d) := hd
  rw [hd] at HWD
  clear hd
  go_enter Tryd.func14, Tryd.ntmps14
  go_wp2_with fail
  refine (HC.out _).mono ?_
  rintro e w' ⟨hb, ⟨c, h1, rfl⟩ | ⟨st, sp, h1, rfl, hS⟩⟩
  · as_aux_lemma =>
      have HB : Hid (Below w.heap.size w w') := HBA.out _ _ hb
      have HF : Hid (R = 0) := by
        have := HR.out
        unfold wgtP at this
        rw [h1] at this
        exact this.symm
      have hc := wgh_none h1
      clear hb h1
      obtain ⟨c1, c2⟩ := c
      have hc' : (c2 != 0) = true := by simpa using hc
      go_wp2
      go_ret
      have hrt := HF.out
      exact ⟨by first | rfl | (rw [hrt]; rfl), HB.out⟩
  · have HB : Hid (Below w.heap.size w w') := HBA.out _ _ hb
    have hT' : Tab w' := HT.out.below HB.out HT.out.pos
    have hok := wgh_some h1
    by_cases hd0 : d = 0
    · as_aux_lemma =>
        have HF : Hid (R = 0) := by
          have := HR.out
          unfold wgtP at this
          rw [h1] at this
          simp only at this
          rw [if_pos (by rw [HD.out]; exact hd0)] at this
          exact this.symm
        subst hd0
        clear hb h1 hS hT' hok
        go_wp2_with (go_at_call 35; refine (HWD.out _).mono ?_; rintro e w'' ⟨rfl, rfl⟩)
        go_ret
        have hrt := HF.out
        exact ⟨by first | rfl | (rw [hrt]; rfl), HB.out⟩
    · as_aux_lemma =>
        have HWT : Hid (Calls Tryd.prog 36 #[.pointer (some ⟨sp, 0, none⟩), .int .i64 u] w' fun e w'' => e = .returned (.int .i64 R) ∧ Grown w' w'') := by
          have := HR.out
          unfold wgtP at this
          rw [h1] at this
          simp only at this
          rw [if_neg (by rw [HD.out]; exact hd0)] at this
          rw [← this]
          exact weight_any _ rs st w' _ sp u hT' hS (kok_of hok.2 hok.1)
        have hd' : (d == 0) = false := by simpa using hd0
        clear hb h1 hS hT' hok
        go_wp2_with (first | (go_at_call 35; refine (HWD.out _).mono ?_; rintro e w'' ⟨rfl, rfl⟩) | (go_at_call 36; refine HWT.out.mono ?_; rintro e w'' ⟨rfl, hg⟩))
        go_ret
        exact ⟨by first | rfl | simp, HB.out.trans (hg.below.mono HB.out.size)⟩
end Go.Proofs
