/-
  The first rules of a pass alone: they have weights, and no greater ones.
-/
import Derived.RangeFuncNested
import Derived.RangeFuncBound
import Derived.RangeFuncCalls
import Derived.RangeFuncLeaves
import Derived.Shelf.Abstract
import Derived.Shelf.RegionOpen
import Derived.WalkKit
import Derived.WalkSpells
import Derived.WalkLawsBesides
import Derived.OwnWalkIn
import Derived.TacticsInMore
import Derived.LoopNIn
import Derived.LoopIn
import Derived.BigQuiet
import Derived.RegionIn
import Derived.Deep.QuietTactic
import Derived.Deep.RegionWith
import Derived.Lib.OthersKept
import Derived.Maps.AppendAt
import Derived.Lib.SmallJoins
import Derived.Shelf.SlSortCmp.QuietGrown
import Derived.Test.YtkijbaofhodplaaDoorFx
namespace Go.Proofs
open Go.RowKit Go.Shelf

set_option maxRecDepth 100000
attribute [local go_sem] Oper.semAt_some
attribute [local go_sem ↓] Go.wp_at_zero Go.wp_at_succ
theorem bkI_take (rs : List Rl) (m : Nat) : ∀ k, k ≤ m → bkI (rs.take m) k = bkI rs k
  | 0, _ => rfl
  | k + 1, h => by
    rw [bkI, bkI, bkI_take rs m k (by omega)]
    congr 2
    rw [List.getElem?_take, if_pos (by omega)]
theorem bkI_pre (rs : List Rl) (m : Nat) : ∀ k, ∃ t, bkI rs (m + k) = bkI rs m ++ t
  | 0 => ⟨[], by simp⟩
  | k + 1 => by
    obtain ⟨t, ht⟩ := bkI_pre rs m k
    exact ⟨t ++ pbs (m + k) ((rs[m + k]?.map backP).getD []), by rw [show m + (k + 1) = (m + k) + 1 by omega, bkI, ht, List.append_assoc]⟩
theorem wsum_le : ∀ (l k : List Pb) (n : Nat), l.length ≤ k.length → (∀ j (h : j < l.length) (h' : j < k.length), l[j].r = k[j].r ∧ l[j].wt ≤ k[j].wt) → (∀ b ∈ k, 0 ≤ b.wt) → wsum l n ≤ wsum k n
  | [], [], n, _, _, _ => Int.le_refl _
  | [], b :: k, n, _, h, hp => by
    have := wsum_le [] k n (by simp) (fun j h => by simp at h) fun x hx => hp x (List.mem_cons_of_mem _ hx)
    have h2 := hp b List.mem_cons_self
    simp only [wsum] at this ⊢
    split <;> omega
  | _ :: _, [], n, h, _, _ => by simp at h
  | a :: l, b :: k, n, hl, h, hp => by
    have ih := wsum_le l k n (by simpa using hl) (fun j h1 h2 => by have := h (j + 1) (by simpa using h1) (by simpa using h2); simpa using this) fun x hx => hp x (List.mem_cons_of_mem _ hx)
    have h0 := h 0 (by simp) (by simp)
    simp at h0
    simp only [wsum, h0.1]
    split <;> omega
theorem fstS_take {rs : List Rl} {m i : Nat} (h : i < m) : fstS (rs.take m) i = fstS rs i := by
  unfold fstS
  rw [List.getElem?_take, if_pos h]
/-- fewer rules have weights, and none greater -/
theorem Fin.few {rs : List Rl} {st : St} (h : Fin rs st) {c : Int × Int} (hw : wgh rs = (some st, c)) {m : Nat} (hm : m ≤ rs.length) :
    ∃ st', wgh (rs.take m) = (some st', 0, 0) ∧ ∀ i, i < m → at0 st'.ws i ≤ at0 st.ws i := by
  have hl : (rs.take m).length = m := by simp; omega
  have hmem : ∀ r ∈ rs.take m, r ∈ rs := fun r hr => List.mem_of_mem_take hr
  have hO : ∀ r ∈ rs.take m, Ok r := fun r hr => h.ok r (hmem r hr)
  have hn : (rs.take m).length ≤ 256 := by have := h.n; omega
  obtain ⟨t, ht⟩ := bkI_pre rs m (rs.length - m)
  rw [show m + (rs.length - m) = rs.length by omega] at ht
  have hbt : bkI (rs.take m) (rs.take m).length = bkI rs m := by rw [hl]; exact bkI_take rs m m (Nat.le_refl _)
  have hlen : st.bk.length = (bkI rs rs.length).length := by simpa using congrArg List.length h.run.ok.uss
  have hle : (bkI rs m).length ≤ st.bk.length := by rw [hlen, ht]; simp
  have hus : ∀ j, j < (bkI rs m).length → usAt st.bk j = usAt (bkI rs m) j := fun j hj => by
    rw [usAt_eq h.run.ok.uss, usAt_eq rfl, ht, List.map_append, List.getElem?_append_left (by simpa using hj)]
  have hr : ∀ j (h1 : j < (bkI rs m).length) (h2 : j < st.bk.length), st.bk[j].r = (bkI rs m)[j].r := fun j h1 h2 => by
    have e := congrArg (fun l => l[j]?) h.run.rk
    simp only [List.getElem?_map, ht] at e
    rw [List.getElem?_eq_getElem h2, List.getElem?_append_left h1, List.getElem?_eq_getElem h1] at e
    simpa using e
  have hsol : Sol (rs.take m) (csI (rs.take m)) ((bkI (rs.take m) (rs.take m).length).map Pb.us) ((bkI (rs.take m) (rs.take m).length).map Pb.r) (fun i => at0 st.ws i) (fun j => wtAt st.bk j) := by
    rw [hbt]
    refine ⟨fun i j hi hj hT => ?_, fun st2 h1 h2 h3 i hi => ?_, fun i hi => ?_⟩
    · rw [csI_len, hl] at hi
      simp only [List.length_map] at hj
      rw [fstS_take hi, ← usAt_eq rfl, ← hus j hj] at hT
      exact h.run.sn i j (by rw [csI_len]; omega) (by omega) hT
    · rw [csI_len, hl] at hi
      have hi' : i < rs.length := by omega
      have hcs : at0 (csI (rs.take m)) i = at0 (csI rs) i := by
        rw [csI_val (by rw [hl]; exact hi), csI_val hi']
        simp
      have hl2 : st2.bk.length = (bkI rs m).length := by simpa using congrArg List.length h1
      have hws : wsum st2.bk i ≤ wsum st.bk i := by
        refine wsum_le _ _ i (by omega) (fun j a b => ?_) (fun b hb => by have := (h.run.ok.pb b hb).2.1; omega)
        have e := congrArg (fun l => l[j]?) h2
        simp only [List.getElem?_map] at e
        rw [List.getElem?_eq_getElem a, List.getElem?_eq_getElem (by omega)] at e
        simp only [Option.map_some, Option.some.injEq] at e
        refine ⟨e.trans (hr j (by omega) b).symm, ?_⟩
        have := h3 j (by simp; omega)
        unfold wtAt at this
        rw [List.getElem?_eq_getElem a, List.getElem?_eq_getElem b] at this
        exact this
      have h4 := h.run.ok.asum i (by rw [csI_len]; exact hi')
      have h5 := h.en i hi'
      rw [hcs]
      omega
    · rw [csI_len, hl] at hi
      exact (h.run.ok.wb i (by rw [csI_len]; omega)).2
  have hstart := run_start hO hn
  have hbd : Bd (csI (rs.take m)) ((bkI (rs.take m) (rs.take m).length).map Pb.us) (fun i => at0 st.ws i) (fun j => wtAt st.bk j) (stK (rs.take m) (rs.take m).length) := by
    refine ⟨fun i hi => ?_, fun j hj => ?_⟩
    · rw [csI_len, hl] at hi
      have h1 := (h.run.ok.wb i (by rw [csI_len]; omega)).1
      have h2 : at0 (stK (rs.take m) (rs.take m).length).ws i = 1 := by
        rw [stK_all, hl]
        simp [at0, hi]
      omega
    · rw [hbt] at hj
      simp only [List.length_map] at hj
      have h1 : 1 ≤ wtAt st.bk j := by
        unfold wtAt
        rw [List.getElem?_eq_getElem (by omega)]
        exact (h.run.ok.pb _ (List.getElem_mem _)).2.1
      have h2 : wtAt (stK (rs.take m) (rs.take m).length).bk j = 1 := by
        rw [stK_all]
        show wtAt (bkI (rs.take m) (rs.take m).length) j = 1
        rw [hbt]
        unfold wtAt
        rw [List.getElem?_eq_getElem hj]
        exact (bkI_mem (List.getElem_mem hj)).2.1
      omega
  have hres := settleAll_least hsol (csI_len _) (rs.take m).length 0 _ (by omega) hstart hbd
  obtain ⟨o, R, hR⟩ : ∃ o R, settleAll (rs.take m) (rs.take m).length 0 (stK (rs.take m) (rs.take m).length) = (o, R) := ⟨_, _, rfl⟩
  rw [hR] at hres
  obtain ⟨h1, h2⟩ := hres
  simp only at h1
  subst h1
  refine ⟨R, ?_, fun i hi => h2.w i (by rw [csI_len, hl]; exact hi)⟩
  have hchk := wgh_chk hw
  have hA : (allE (rs.take m)).2 = 0 := by
    unfold allE
    rw [if_neg (by omega), fstR_of fun r hr => hchk r (hmem r hr)]
  unfold wgh
  rw [if_neg (by rw [hA]; simp), fstC_of fun r hr => h.cp r (hmem r hr)]
  simp only
  rw [hR]
theorem wgtK_le {rs : List Rl} {ws ws' : List Int} {u : Int} {m : Nat} (hm : m ≤ rs.length) (h : ∀ i, i < m → at0 ws' i ≤ at0 ws i) : wgtK (rs.take m) ws' u m ≤ wgtK rs ws u rs.length := by
  rcases wgtK_is (rs := rs.take m) (ws := ws') (u := u) m with e | ⟨i, hi, h1, e⟩
  · rw [e]; exact wgtK_one _
  · rw [e]
    rw [fstS_take hi] at h1
    exact Int.le_trans (h i hi) (wgtK_ge (by omega) h1)
theorem Fin.few_le {rs : List Rl} {st : St} (h : Fin rs st) {c : Int × Int} (hw : wgh rs = (some st, c)) {m : Nat} (hm : m ≤ rs.length) (u : Int) : chkW (rs.take m) = (0, 0) ∧ wgtP (rs.take m) u ≤ wgtP rs u := by
  obtain ⟨st', h1, h2⟩ := h.few hw hm
  refine ⟨by unfold chkW; rw [h1], ?_⟩
  rw [wgtP_eq h1, wgtP_eq hw]
  split
  · exact Int.le_refl _
  · have hl : (rs.take m).length = m := by simp; omega
    rw [hl]
    exact wgtK_le hm h2
end Go.Proofs
