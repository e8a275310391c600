/-
  Weights of a pass: each rule has enough, one rule fewer asks for no more.
-/
import Derived.RangeFuncNested
import Derived.RangeFuncBound
import Derived.RangeFuncCalls
import Derived.RangeFuncLeaves
import Derived.Shelf.Abstract
import Derived.Shelf.RegionOpen
import Derived.WalkKit
import Derived.WalkSpells
import Derived.WalkLawsBesides
import Derived.OwnWalkIn
import Derived.TacticsInMore
import Derived.LoopNIn
import Derived.LoopIn
import Derived.BigQuiet
import Derived.RegionIn
import Derived.Deep.QuietTactic
import Derived.Deep.RegionWith
import Derived.Lib.OthersKept
import Derived.Maps.AppendAt
import Derived.Lib.SmallJoins
import Derived.Shelf.SlSortCmp.QuietGrown
import Derived.Test.YtkijbaofhodplaaDoorFa
namespace Go.Proofs
open Go.RowKit Go.Shelf

set_option maxRecDepth 100000
attribute [local go_sem] Oper.semAt_some
attribute [local go_sem ↓] Go.wp_at_zero Go.wp_at_succ
theorem run_start {rs : List Rl} (hO : ∀ r ∈ rs, Ok r) (hn : rs.length ≤ 256) : Run rs (csI rs) ((bkI rs rs.length).map Pb.us) ((bkI rs rs.length).map Pb.r) (stK rs rs.length) := by
  refine ⟨okSt_start hO hn, fun i j hi hj _ => ?_, by rw [stK_all]⟩
  rw [csI_len] at hi
  rw [stK_all] at hj ⊢
  simp only at hj ⊢
  have h1 : at0 (List.replicate rs.length 1) i = 1 := by simp [at0, hi]
  have h2 : wtAt (bkI rs rs.length) j = 1 := by
    unfold wtAt
    rw [List.getElem?_eq_getElem hj]
    exact (bkI_mem (List.getElem_mem hj)).2.1
  omega
/-- weights that were found -/
structure Fin (rs : List Rl) (st : St) : Prop where
  n : rs.length ≤ 256
  ok : ∀ r ∈ rs, Ok r
  cp : ∀ r ∈ rs, copB r = false
  run : Run rs (csI rs) ((bkI rs rs.length).map Pb.us) ((bkI rs rs.length).map Pb.r) st
  en : ∀ i, i < rs.length → at0 st.aq i ≤ at0 st.ws i
theorem fstC_none : ∀ {rs : List Rl} {k : Nat}, fstC rs k = none → ∀ r ∈ rs, copB r = false
  | [], _, _, r, h => by cases h
  | q :: l, k, h, r, hr => by
    unfold fstC at h
    by_cases hq : copB q = true
    · rw [if_pos hq] at h; cases h
    · rw [if_neg hq] at h
      rcases List.mem_cons.1 hr with rfl | hr
      · simpa using hq
      · exact fstC_none h r hr
theorem fstC_of : ∀ {rs : List Rl} {k : Nat}, (∀ r ∈ rs, copB r = false) → fstC rs k = none
  | [], _, _ => rfl
  | q :: l, k, h => by
    unfold fstC
    rw [if_neg (by rw [h q List.mem_cons_self]; simp)]
    exact fstC_of fun r hr => h r (List.mem_cons_of_mem _ hr)
theorem fstR_of : ∀ {rs : List Rl} {k : Nat}, (∀ r ∈ rs, chk r = 0) → fstR rs k = (0, 0)
  | [], _, _ => rfl
  | q :: l, k, h => by
    unfold fstR
    rw [if_pos (h q List.mem_cons_self)]
    exact fstR_of fun r hr => h r (List.mem_cons_of_mem _ hr)
theorem wgh_chk {rs : List Rl} {st : St} {c : Int × Int} (h : wgh rs = (some st, c)) : ∀ r ∈ rs, chk r = 0 := by
  unfold wgh at h
  by_cases h0 : (allE rs).2 ≠ 0
  · rw [if_pos h0] at h; injection h with h1; cases h1
  · have h1 := Classical.not_not.1 h0
    unfold allE at h1
    by_cases hn : 256 < rs.length
    · rw [if_pos hn] at h1; cases h1
    · rw [if_neg hn] at h1
      exact fstR_ok h1
theorem wgh_fin {rs : List Rl} {st : St} {c : Int × Int} (h : wgh rs = (some st, c)) : Fin rs st := by
  have hok := wgh_some h
  unfold wgh at h
  by_cases h0 : (allE rs).2 ≠ 0
  · rw [if_pos h0] at h; injection h with h1; cases h1
  · rw [if_neg h0] at h
    cases hC : fstC rs 0 with
    | some n => rw [hC] at h; injection h with h1; cases h1
    | none =>
      rw [hC] at h
      simp only at h
      obtain ⟨o, R, hR⟩ : ∃ o R, settleAll rs rs.length 0 (stK rs rs.length) = (o, R) := ⟨_, _, rfl⟩
      rw [hR] at h
      cases o with
      | some n => injection h with h1; cases h1
      | none =>
        injection h with h1 _
        injection h1 with h1
        subst h1
        have hs := settleAll_sound (csI_len rs) rs.length 0 _ (by omega) (run_start hok.2 hok.1) (fun _ h => by omega) R hR
        refine ⟨hok.1, hok.2, fstC_none hC, hs.1, fun i hi => ?_⟩
        exact (look_none (hs.2 (by omega)) i (Nat.zero_le _) (by omega)).2
/-! a unit's weight -/
theorem wgtK_mono {rs : List Rl} {ws : List Int} {u : Int} (k : Nat) : wgtK rs ws u k ≤ wgtK rs ws u (k + 1) := by
  rw [wgtK]
  split
  · rename_i h; omega
  · exact Int.le_refl _
theorem wgtK_one {rs : List Rl} {ws : List Int} {u : Int} : ∀ k, 1 ≤ wgtK rs ws u k
  | 0 => by simp [wgtK]
  | k + 1 => Int.le_trans (wgtK_one k) (wgtK_mono k)
theorem wgtK_ge {rs : List Rl} {ws : List Int} {u : Int} : ∀ {n i : Nat}, i < n → hasB (fstS rs i) u = true → at0 ws i ≤ wgtK rs ws u n
  | n + 1, i, hi, h => by
    by_cases e : i = n
    · subst e
      rw [wgtK]
      by_cases hc : wgtK rs ws u i < at0 ws i
      · rw [if_pos ⟨hc, h⟩]; exact Int.le_refl _
      · rw [if_neg (fun x => hc x.1)]; omega
    · exact Int.le_trans (wgtK_ge (by omega) h) (wgtK_mono n)
theorem wgtK_is {rs : List Rl} {ws : List Int} {u : Int} : ∀ n, wgtK rs ws u n = 1 ∨ ∃ i, i < n ∧ hasB (fstS rs i) u = true ∧ wgtK rs ws u n = at0 ws i
  | 0 => .inl rfl
  | n + 1 => by
    rw [wgtK]
    by_cases hc : wgtK rs ws u n < at0 ws n ∧ hasB (fstS rs n) u = true
    · rw [if_pos hc]; exact .inr ⟨n, by omega, hc.2, rfl⟩
    · rw [if_neg hc]
      rcases wgtK_is n with h | ⟨i, hi, h1, h2⟩
      · exact .inl h
      · exact .inr ⟨i, by omega, h1, h2⟩
theorem wgtP_eq {rs : List Rl} {st : St} {c : Int × Int} (h : wgh rs = (some st, c)) (u : Int) : wgtP rs u = if wd u = 0 then 0 else wgtK rs st.ws u rs.length := by
  unfold wgtP
  rw [h]
/-! what is put back -/
theorem mayB_good {r : Rl} (hO : Ok r) {p : Pc} (hp : p ∈ backP r) (h2 : p.k ≠ 2) : Good (mayB p) := by
  rcases pc_ok (hO.pc p (List.mem_of_mem_drop hp)) with ⟨h1, hw, _⟩ | ⟨h1, _⟩ | ⟨h1, _, _, _, hm⟩
  · unfold mayB
    rw [if_neg (by omega)]
    refine ⟨fun x hx => ?_, by simp⟩
    simp at hx
    subst hx
    rw [whole_iff]
    unfold wd at hw
    split at hw
    · omega
    · split at hw
      · omega
      · exact absurd rfl hw
  · exact absurd h1 h2
  · unfold mayB
    rw [if_pos h1]
    unfold matB at hm
    simp only [Bool.and_eq_true] at hm
    exact ((validB_iff _).1 hm.1).2
theorem pbs_mem2 {n : Nat} : ∀ {l : List Pc} {b : Pb}, b ∈ pbs n l → ∃ p ∈ l, p.k ≠ 2 ∧ b.us = mayB p
  | [], b, h => by simp [pbs] at h
  | p :: l, b, h => by
    simp only [pbs] at h
    split at h
    · obtain ⟨q, h1, h2⟩ := pbs_mem2 h
      exact ⟨q, List.mem_cons_of_mem _ h1, h2⟩
    · rename_i h2
      rcases List.mem_cons.1 h with rfl | h
      · exact ⟨p, List.mem_cons_self, h2, rfl⟩
      · obtain ⟨q, h1, h2⟩ := pbs_mem2 h
        exact ⟨q, List.mem_cons_of_mem _ h1, h2⟩
theorem bkI_good {rs : List Rl} (hO : ∀ r ∈ rs, Ok r) : ∀ {k : Nat} {b : Pb}, b ∈ bkI rs k → Good b.us
  | 0, b, h => by simp [bkI] at h
  | k + 1, b, h => by
    rw [bkI] at h
    rcases List.mem_append.1 h with h | h
    · exact bkI_good hO h
    · obtain ⟨p, h1, h2, h3⟩ := pbs_mem2 h
      cases hk : rs[k]? with
      | none => rw [hk] at h1; simp at h1
      | some r =>
        rw [hk] at h1
        rw [h3]
        exact mayB_good (hO r (List.mem_of_getElem? hk)) (by simpa using h1) h2
theorem key_good {rs : List Rl} (hO : ∀ r ∈ rs, Ok r) {i : Nat} (hi : i < rs.length) : Good (fstS rs i) := by
  have h := hO _ (List.getElem_mem hi)
  have h0 := h.k0
  have := List.all_eq_true.1 h.kS _ (List.getElem_mem h0)
  unfold okS at this
  simp only [Bool.and_eq_true] at this
  rw [fstS_at hi, show keyAt rs[i].key 0 = rs[i].key[0] by simp [keyAt, h0]]
  exact ((validB_iff _).1 this.1).2
theorem Fin.us_good {rs : List Rl} {st : St} (h : Fin rs st) {j : Nat} (hj : j < st.bk.length) : Good (usAt st.bk j) := by
  have hu := h.run.ok.uss
  have hl : st.bk.length = (bkI rs rs.length).length := by simpa using congrArg List.length hu
  rw [usAt_eq hu]
  simp only [List.getElem?_map]
  rw [List.getElem?_eq_getElem (by omega)]
  exact bkI_good h.ok (List.getElem_mem _)
/-- a unit that a piece may be weighs no more than the piece -/
theorem Fin.unit_le {rs : List Rl} {st : St} (h : Fin rs st) {c : Int × Int} (hw : wgh rs = (some st, c)) {j : Nat} (hj : j < st.bk.length) {u : Int} (hu : hasU (usAt st.bk j) u) : wgtP rs u ≤ wtAt st.bk j := by
  have hpos : 1 ≤ wtAt st.bk j := by
    unfold wtAt
    rw [List.getElem?_eq_getElem hj]
    exact (h.run.ok.pb _ (List.getElem_mem hj)).2.1
  rw [wgtP_eq hw]
  split
  · omega
  · rcases wgtK_is (rs := rs) (ws := st.ws) (u := u) rs.length with e | ⟨i, hi, h1, e⟩
    · omega
    · rw [e]
      have h2 : hasU (fstS rs i) u := by
        unfold hasB at h1
        simp only [Bool.and_eq_true, decide_eq_true_eq] at h1
        exact h1.2
      exact h.run.sn i j (by rw [csI_len]; exact hi) hj (touch_of _ _ u (key_good h.ok hi) (h.us_good hj) h2 hu)
/-- the greatest weight of some ranges' ends -/
def pairM (rs : List Rl) (l : List (Int × Int)) : Int := (l.take 20).foldl (fun m x => max (max m (wgtP rs x.1)) (wgtP rs x.2)) 0
theorem foldM_le {rs : List Rl} {X : Int} : ∀ (l : List (Int × Int)) (m : Int), m ≤ X → (∀ x ∈ l, wgtP rs x.1 ≤ X ∧ wgtP rs x.2 ≤ X) → l.foldl (fun m x => max (max m (wgtP rs x.1)) (wgtP rs x.2)) m ≤ X
  | [], m, h, _ => h
  | x :: l, m, h, hx => by
    rw [List.foldl_cons]
    refine foldM_le l _ ?_ fun y hy => hx y (List.mem_cons_of_mem _ hy)
    have := hx x List.mem_cons_self
    omega
theorem Fin.pair_le {rs : List Rl} {st : St} (h : Fin rs st) {c : Int × Int} (hw : wgh rs = (some st, c)) {j : Nat} (hj : j < st.bk.length) : pairM rs (usAt st.bk j) ≤ wtAt st.bk j := by
  have hpos : 1 ≤ wtAt st.bk j := by
    unfold wtAt
    rw [List.getElem?_eq_getElem hj]
    exact (h.run.ok.pb _ (List.getElem_mem hj)).2.1
  have hg := h.us_good hj
  refine foldM_le _ 0 (by omega) fun x hx => ?_
  have hx' := List.mem_of_mem_take hx
  have hwx := (whole_iff _ _).1 (hg.1 x hx')
  exact ⟨h.unit_le hw hj ⟨x, hx', Int.le_refl _, hwx.1⟩, h.unit_le hw hj ⟨x, hx', hwx.1, Int.le_refl _⟩⟩
/-- a sum over a rule's pieces -/
def gs (g : List (Int × Int) → Int) : List Pb → Nat → Int
  | [], _ => 0
  | b :: l, n => (if b.r = n then g b.us else 0) + gs g l n
theorem gs_append (g : List (Int × Int) → Int) (l k : List Pb) (n : Nat) : gs g (l ++ k) n = gs g l n + gs g k n := by
  induction l with
  | nil => simp [gs]
  | cons b l ih => simp only [List.cons_append, gs, ih]; omega
theorem gs_le {g : List (Int × Int) → Int} : ∀ {l : List Pb}, (∀ b ∈ l, g b.us ≤ b.wt) → ∀ n, gs g l n ≤ wsum l n
  | [], _, n => by simp [gs, wsum]
  | b :: l, h, n => by
    have h1 := gs_le (fun x hx => h x (List.mem_cons_of_mem _ hx)) n
    have h2 := h b List.mem_cons_self
    simp only [gs, wsum]
    split <;> omega
theorem gs_same {g : List (Int × Int) → Int} : ∀ {l k : List Pb}, l.map Pb.r = k.map Pb.r → l.map Pb.us = k.map Pb.us → ∀ n, gs g l n = gs g k n
  | [], [], _, _, n => rfl
  | [], _ :: _, h, _, n => by simp at h
  | _ :: _, [], h, _, n => by simp at h
  | b :: l, c :: k, h1, h2, n => by
    simp only [List.map_cons, List.cons.injEq] at h1 h2
    simp only [gs, h1.1, h2.1, gs_same h1.2 h2.2 n]
theorem gs_pbs (g : List (Int × Int) → Int) (n i : Nat) (h : n ≠ i) : ∀ l : List Pc, gs g (pbs n l) i = 0
  | [] => rfl
  | p :: l => by
    simp only [pbs]
    split
    · exact gs_pbs g n i h l
    · simp only [gs, gs_pbs g n i h l]
      rw [if_neg h]
      omega
theorem gs_bkI (g : List (Int × Int) → Int) (rs : List Rl) (i : Nat) : ∀ k, gs g (bkI rs k) i = if i < k then gs g (pbs i ((rs[i]?.map backP).getD [])) i else 0
  | 0 => by simp [bkI, gs]
  | k + 1 => by
    rw [bkI, gs_append, gs_bkI g rs i k]
    by_cases h1 : i < k
    · rw [if_pos h1, gs_pbs g k i (by omega), if_pos (by omega)]; omega
    · rw [if_neg h1]
      by_cases h2 : k = i
      · subst h2; rw [if_pos (by omega)]; omega
      · rw [gs_pbs g k i h2, if_neg (by omega)]; omega
/-- what the statement's own sum of what is put back is -/
def bkS (rs : List Rl) : List Pc → Int
  | [] => 0
  | p :: l => (if p.k = 1 then wgtP rs p.u else if p.k = 3 then pairM rs p.tl else 0) + bkS rs l
def copN : List Pc → Int
  | [] => 0
  | p :: l => (if p.k = 2 then 1 else 0) + copN l
theorem wgtP_pos {rs : List Rl} {st : St} {c : Int × Int} (hw : wgh rs = (some st, c)) (u : Int) : 0 ≤ wgtP rs u := by
  rw [wgtP_eq hw]
  split
  · exact Int.le_refl _
  · have := wgtK_one (rs := rs) (ws := st.ws) (u := u) rs.length; omega
theorem bkS_le {rs : List Rl} {st : St} {c : Int × Int} (hw : wgh rs = (some st, c)) (n : Nat) : ∀ l : List Pc, (∀ p ∈ l, p.k = 1 ∨ p.k = 2 ∨ p.k = 3) → bkS rs l = gs (pairM rs) (pbs n l) n
  | [], _ => rfl
  | p :: l, h => by
    have ih := bkS_le hw n l fun q hq => h q (List.mem_cons_of_mem _ hq)
    simp only [bkS, pbs]
    rcases h p List.mem_cons_self with h1 | h1 | h1
    · rw [if_pos h1, if_neg (by omega)]
      have h0 := wgtP_pos hw p.u
      have : pairM rs (mayB p) = wgtP rs p.u := by
        unfold mayB pairM
        rw [if_neg (by omega)]
        simp
        omega
      simp only [gs, if_pos, this, ih]
    · rw [if_neg (by omega), if_neg (by omega), if_pos h1, ih]; omega
    · rw [if_neg (by omega), if_pos h1, if_neg (by omega)]
      have : mayB p = p.tl := by unfold mayB; rw [if_pos h1]
      simp only [gs, if_pos, this, ih]
theorem pbs_cop (n : Nat) : ∀ l : List Pc, ((pbs n l).length : Int) + copN l = l.length
  | [] => rfl
  | p :: l => by
    have ih := pbs_cop n l
    simp only [pbs, copN]
    split
    · simp only [List.length_cons]; omega
    · simp only [List.length_cons]; omega
theorem csI_val {rs : List Rl} {i : Nat} (hi : i < rs.length) : at0 (csI rs) i = 2 - (rs[i].key.length : Int) + copN (backP rs[i]) := by
  rw [csI_at hi, wsum_bkI, if_pos hi, stK_all, List.getElem?_eq_getElem hi]
  have h4 : at0 (rs.map askI) i = askI rs[i] := by simp [at0, hi]
  have h5 := pbs_cop i (backP rs[i])
  simp only [Option.map_some, Option.getD_some]
  rw [h4]
  unfold askI
  omega
/-- each rule's first set weighs enough -/
theorem Fin.fair {rs : List Rl} {st : St} (h : Fin rs st) {c : Int × Int} (hw : wgh rs = (some st, c)) {i : Nat} (hi : i < rs.length) {u : Int} (hu : hasB (fstS rs i) u = true) (hd : wd u ≠ 0) :
    1 + bkS rs (backP rs[i]) - ((rs[i].key.length : Int) - 1 - copN (backP rs[i])) ≤ wgtP rs u := by
  have hr := h.ok _ (List.getElem_mem hi)
  have h1 := bkS_le hw i (backP rs[i]) fun p hp => by
    rcases pc_ok (hr.pc p (List.mem_of_mem_drop hp)) with ⟨h1, _⟩ | ⟨h1, _⟩ | ⟨h1, _⟩
    · exact .inl h1
    · exact .inr (.inl h1)
    · exact .inr (.inr h1)
  have h2 : gs (pairM rs) (pbs i (backP rs[i])) i = gs (pairM rs) st.bk i := by
    rw [gs_same h.run.rk h.run.ok.uss, gs_bkI, if_pos hi, List.getElem?_eq_getElem hi]
    rfl
  have h3 : gs (pairM rs) st.bk i ≤ wsum st.bk i := gs_le (fun b hb => by
    obtain ⟨j, hj, rfl⟩ := List.getElem_of_mem hb
    have := h.pair_le hw hj
    rw [usAt_at hj] at this
    unfold wtAt at this
    rw [List.getElem?_eq_getElem hj] at this
    exact this) i
  have h4 := h.run.ok.asum i (by rw [csI_len]; exact hi)
  rw [csI_val hi] at h4
  have h5 := h.en i hi
  have h6 : at0 st.ws i ≤ wgtP rs u := by
    rw [wgtP_eq hw, if_neg hd]
    exact wgtK_ge hi hu
  omega
end Go.Proofs
