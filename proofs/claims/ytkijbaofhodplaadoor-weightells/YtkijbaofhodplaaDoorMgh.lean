/-
  Several texts in one (Fa Fb).
-/
import Derived.RangeFuncNested
import Derived.RangeFuncBound
import Derived.RangeFuncCalls
import Derived.RangeFuncLeaves
import Derived.Shelf.Abstract
import Derived.Shelf.RegionOpen
import Derived.WalkKit
import Derived.WalkSpells
import Derived.WalkLawsBesides
import Derived.OwnWalkIn
import Derived.TacticsInMore
import Derived.LoopNIn
import Derived.LoopIn
import Derived.BigQuiet
import Derived.RegionIn
import Derived.Deep.QuietTactic
import Derived.Deep.RegionWith
import Derived.Lib.OthersKept
import Derived.Maps.AppendAt
import Derived.Lib.SmallJoins
import Derived.Shelf.SlSortCmp.QuietGrown
import Derived.Test.YtkijbaofhodplaaDoorMgg
namespace Go.Proofs
open Go.RowKit Go.Shelf

set_option maxRecDepth 100000
attribute [local go_sem] Oper.semAt_some
attribute [local go_sem ↓] Go.wp_at_zero Go.wp_at_succ
/-! sets that touch -/
theorem touch_of : ∀ (a b : List (Int × Int)) (u : Int), Good a → Good b → hasU a u → hasU b u → touchL a b = true
  | [], _, u, _, _, h, _ => by obtain ⟨x, hx, _⟩ := h; simp at hx
  | x :: a, [], u, _, _, _, h => by obtain ⟨y, hy, _⟩ := h; simp at hy
  | x :: a, y :: b, u, ha, hb, h1, h2 => by
    have ga : Good a := ⟨fun z hz => ha.1 z (List.mem_cons_of_mem _ hz), (List.pairwise_cons.1 ha.2).2⟩
    have gb : Good b := ⟨fun z hz => hb.1 z (List.mem_cons_of_mem _ hz), (List.pairwise_cons.1 hb.2).2⟩
    have aa := (List.pairwise_cons.1 ha.2).1
    have bb := (List.pairwise_cons.1 hb.2).1
    have wx := (whole_iff _ _).1 (ha.1 x List.mem_cons_self)
    have wy := (whole_iff _ _).1 (hb.1 y List.mem_cons_self)
    rw [touch_cons]
    obtain ⟨p, hp, hp1, hp2⟩ := h1
    obtain ⟨q, hq, hq1, hq2⟩ := h2
    by_cases c1 : x.2 < y.1
    · rw [if_pos c1]
      refine touch_of a (y :: b) u ga hb ?_ ⟨q, hq, hq1, hq2⟩
      rcases List.mem_cons.1 hp with rfl | hp
      · exfalso
        rcases List.mem_cons.1 hq with rfl | hq
        · omega
        · have := bb q hq; omega
      · exact ⟨p, hp, hp1, hp2⟩
    · rw [if_neg c1]
      by_cases c2 : y.2 < x.1
      · rw [if_pos c2]
        refine touch_of (x :: a) b u ha gb ⟨p, hp, hp1, hp2⟩ ?_
        rcases List.mem_cons.1 hq with rfl | hq
        · exfalso
          rcases List.mem_cons.1 hp with rfl | hp
          · omega
          · have := aa p hp; omega
        · exact ⟨q, hq, hq1, hq2⟩
      · rw [if_neg c2]
termination_by a b => a.length + b.length
/-! what a bump keeps -/
theorem bump_rs (w : Int) (st : St) (i : Nat) : (bump w st i).bk.map Pb.r = st.bk.map Pb.r := by
  unfold bump
  cases hb : st.bk[i]? with
  | none => rfl
  | some b =>
    simp only
    split
    · simp only
      obtain ⟨hi, hbi⟩ := List.getElem?_eq_some_iff.1 hb
      rw [List.map_set]
      refine List.ext_getElem (by simp) fun j h1 h2 => ?_
      rw [List.getElem_set]
      split
      · rename_i e; subst e; simp [hbi]
      · rfl
    · rfl
theorem bumps_rs (w : Int) : ∀ (l : List Nat) (st : St), (l.foldl (bump w) st).bk.map Pb.r = st.bk.map Pb.r
  | [], _ => rfl
  | i :: l, st => by rw [List.foldl_cons, bumps_rs w l, bump_rs]
theorem bump_us (w : Int) (st : St) (i : Nat) : (bump w st i).bk.map Pb.us = st.bk.map Pb.us := by
  unfold bump
  cases hb : st.bk[i]? with
  | none => rfl
  | some b =>
    simp only
    split
    · exact map_us_set hb
    · rfl
theorem bumps_us (w : Int) : ∀ (l : List Nat) (st : St), (l.foldl (bump w) st).bk.map Pb.us = st.bk.map Pb.us
  | [], _ => rfl
  | i :: l, st => by rw [List.foldl_cons, bumps_us w l, bump_us]
/-- the weight of a piece -/
def wtAt (bk : List Pb) (j : Nat) : Int := (bk[j]?.map Pb.wt).getD 0
theorem bump_wt (w : Int) (st : St) (i j : Nat) : wtAt (bump w st i).bk j = if j = i ∧ j < st.bk.length ∧ wtAt st.bk j < w then w else wtAt st.bk j := by
  unfold bump
  cases hb : st.bk[i]? with
  | none =>
    rw [if_neg]
    rintro ⟨rfl, h, _⟩
    rw [List.getElem?_eq_getElem h] at hb
    cases hb
  | some b =>
    obtain ⟨hi, hbi⟩ := List.getElem?_eq_some_iff.1 hb
    simp only
    by_cases hlt : b.wt < w
    · rw [if_pos hlt]
      show wtAt (st.bk.set i _) j = _
      by_cases e : i = j
      · subst e
        have hw : wtAt st.bk i < w := by unfold wtAt; rw [hb]; simpa using hlt
        rw [if_pos ⟨rfl, hi, hw⟩]
        unfold wtAt
        simp [hi]
      · rw [if_neg (fun h => e h.1.symm)]
        unfold wtAt
        simp [e]
    · rw [if_neg hlt, if_neg]
      rintro ⟨rfl, _, h⟩
      unfold wtAt at h
      rw [hb] at h
      simp at h
      omega
theorem bumps_wt (w : Int) : ∀ (l : List Nat) (st : St) (j : Nat), wtAt (l.foldl (bump w) st).bk j = if j ∈ l ∧ j < st.bk.length ∧ wtAt st.bk j < w then w else wtAt st.bk j
  | [], st, j => by simp
  | i :: l, st, j => by
    have hlen : (bump w st i).bk.length = st.bk.length := by simpa using congrArg List.length (bump_rs w st i)
    rw [List.foldl_cons, bumps_wt w l, hlen, bump_wt]
    by_cases e : j = i
    · subst e
      by_cases h : j < st.bk.length ∧ wtAt st.bk j < w
      · have h1 : (if j = j ∧ j < st.bk.length ∧ wtAt st.bk j < w then w else wtAt st.bk j) = w := if_pos ⟨rfl, h⟩
        rw [h1, if_neg (fun x => by omega), if_pos ⟨List.mem_cons_self, h⟩]
      · have h1 : (if j = j ∧ j < st.bk.length ∧ wtAt st.bk j < w then w else wtAt st.bk j) = wtAt st.bk j := if_neg (fun x => h x.2)
        rw [h1, if_neg (fun x => h x.2), if_neg (fun x => h x.2)]
    · have h1 : (if j = i ∧ j < st.bk.length ∧ wtAt st.bk j < w then w else wtAt st.bk j) = wtAt st.bk j := if_neg (fun x => e x.1)
      rw [h1]
      by_cases h : j ∈ l ∧ j < st.bk.length ∧ wtAt st.bk j < w
      · rw [if_pos h, if_pos ⟨List.mem_cons_of_mem _ h.1, h.2⟩]
      · rw [if_neg h, if_neg]
        rintro ⟨h2, h3⟩
        rcases List.mem_cons.1 h2 with h2 | h2
        · exact e h2
        · exact h ⟨h2, h3⟩
theorem mem_lean {rs : List Rl} {bk : List Pb} {n j : Nat} : j ∈ leanL rs bk n ↔ j < bk.length ∧ touchL (fstS rs n) (usAt bk j) = true := by
  unfold leanL
  rw [List.mem_filter, List.mem_range]
theorem lift_wt (rs : List Rl) (n : Nat) (st : St) (j : Nat) : wtAt (liftP rs n st).bk j = if (j < st.bk.length ∧ touchL (fstS rs n) (usAt st.bk j) = true) ∧ wtAt st.bk j < at0 st.aq n then at0 st.aq n else wtAt st.bk j := by
  unfold liftP
  rw [bumps_wt]
  simp only [mem_lean]
  by_cases h : (j < st.bk.length ∧ touchL (fstS rs n) (usAt st.bk j) = true) ∧ wtAt st.bk j < at0 st.aq n
  · rw [if_pos h, if_pos ⟨h.1, h.1.1, h.2⟩]
  · rw [if_neg h, if_neg (fun x => h ⟨x.1, x.2.2⟩)]
theorem lift_us (rs : List Rl) (n : Nat) (st : St) : (liftP rs n st).bk.map Pb.us = st.bk.map Pb.us := bumps_us _ _ _
theorem lift_rs (rs : List Rl) (n : Nat) (st : St) : (liftP rs n st).bk.map Pb.r = st.bk.map Pb.r := bumps_rs _ _ _
theorem lift_len (rs : List Rl) (n : Nat) (st : St) : (liftP rs n st).bk.length = st.bk.length := by simpa using congrArg List.length (lift_us rs n st)
/-- what is put back weighs as much as what leans on it -/
def Snd (rs : List Rl) (N : Nat) (st : St) : Prop := ∀ i j, i < N → j < st.bk.length → touchL (fstS rs i) (usAt st.bk j) = true → at0 st.ws i ≤ wtAt st.bk j
theorem Snd.lift {rs : List Rl} {N n : Nat} {st : St} (h : Snd rs N st) (hn : n < st.ws.length) (h1 : at0 st.ws n < at0 st.aq n) : Snd rs N (liftP rs n st) := by
  intro i j hi hj ht
  rw [lift_len] at hj
  rw [usAt_eq (lift_us rs n st), ← usAt_eq rfl] at ht
  rw [liftP_ws, at0_set hn, lift_wt]
  have h0 := h i j hi hj ht
  by_cases e : i = n
  · subst e
    rw [if_pos rfl]
    by_cases hc : wtAt st.bk j < at0 st.aq i
    · rw [if_pos ⟨⟨hj, ht⟩, hc⟩]; omega
    · rw [if_neg (fun x => hc x.2)]; omega
  · rw [if_neg e]
    split <;> omega
theorem look_none {st : St} : ∀ {k n : Nat}, look st k n = none → ∀ i, n ≤ i → i < n + k → at0 st.aq i ≤ 64 ∧ at0 st.aq i ≤ at0 st.ws i
  | 0, n, _, i, h1, h2 => by omega
  | k + 1, n, h, i, h1, h2 => by
    unfold look at h
    split at h
    · cases h
    · rename_i hc
      by_cases e : i = n
      · subst e; omega
      · exact look_none h i (by omega) (by omega)
theorem look_some {st : St} : ∀ {k n m : Nat}, look st k n = some m → 64 < at0 st.aq m ∨ at0 st.ws m < at0 st.aq m
  | 0, n, m, h => by simp [look] at h
  | k + 1, n, m, h => by
    unfold look at h
    split at h
    · rename_i hc; cases h; exact hc
    · exact look_some h
/-- all that stays so while weights are lifted -/
structure Run (rs : List Rl) (cs : List Int) (us : List (List (Int × Int))) (rk : List Nat) (st : St) : Prop where
  ok : OkSt cs us st
  sn : Snd rs cs.length st
  rk : st.bk.map Pb.r = rk
theorem Run.lift {rs : List Rl} {cs : List Int} {us : List (List (Int × Int))} {rk : List Nat} {st : St} (h : Run rs cs us rk st) {n : Nat} (hn : n < cs.length) (h1 : at0 st.ws n < at0 st.aq n) (h2 : at0 st.aq n ≤ 64) : Run rs cs us rk (liftP rs n st) :=
  ⟨h.ok.lift rs hn h1 h2, h.sn.lift (by rw [h.ok.wl]; exact hn) h1, (lift_rs rs n st).trans h.rk⟩
theorem settle_sound {rs : List Rl} {cs : List Int} {us : List (List (Int × Int))} {rk : List Nat} {last : Nat} (hl : last < cs.length) : ∀ (F : Nat) (st : St), Run rs cs us rk st → 64 * cs.length < F + tws st.ws → Run rs cs us rk (settleP rs last F st).2 ∧ ((settleP rs last F st).1 = true → look (settleP rs last F st).2 (last + 1) 0 = none)
  | 0, st, h, hF => by
    exfalso
    have hb := tws_bound st.ws (fun i hi => (h.ok.wb i (by rw [← h.ok.wl]; exact hi)).2)
    rw [h.ok.wl] at hb
    omega
  | F + 1, st, h, hF => by
    unfold settleP
    cases hk : look st (last + 1) 0 with
    | none => exact ⟨h, fun _ => hk⟩
    | some n =>
      simp only
      have hle := look_le st _ _ _ hk
      have hs := look_some hk
      by_cases h64 : 64 < at0 st.aq n
      · rw [if_pos h64]
        exact ⟨h, fun e => by cases e⟩
      · rw [if_neg h64]
        have h1 : at0 st.ws n < at0 st.aq n := hs.resolve_left h64
        have hn : n < cs.length := by omega
        refine settle_sound hl F _ (h.lift hn h1 (by omega)) ?_
        rw [liftP_ws]
        have h3 := tws_set st.ws n (at0 st.aq n) (by rw [h.ok.wl]; exact hn)
        have h4 := (h.ok.wb n hn).1
        omega
theorem settleAll_sound {rs : List Rl} {cs : List Int} {us : List (List (Int × Int))} {rk : List Nat} (hc : cs.length = rs.length) : ∀ (k n : Nat) (st : St), n + k = rs.length → Run rs cs us rk st → (k = 0 → 0 < n → look st n 0 = none) → ∀ R, settleAll rs k n st = (none, R) → Run rs cs us rk R ∧ (0 < rs.length → look R rs.length 0 = none)
  | 0, n, st, hn, h, h0, R, e => by
    simp only [settleAll] at e
    cases e
    refine ⟨h, fun hp => ?_⟩
    have := h0 rfl (by omega)
    rw [← hn, Nat.add_zero]
    exact this
  | k + 1, n, st, hn, h, _, R, e => by
    have hs := settle_sound (last := n) (by omega) (64 * rs.length + 1) st h (by rw [hc]; omega)
    rw [settleAll] at e
    by_cases ht : (settleP rs n (64 * rs.length + 1) st).1 = true
    · rw [if_pos ht] at e
      exact settleAll_sound hc k (n + 1) _ (by omega) hs.1 (fun _ _ => hs.2 ht) R e
    · rw [if_neg ht] at e
      cases e
/-! bounds from above -/
/-- numbers that are weights -/
structure Sol (rs : List Rl) (cs : List Int) (us : List (List (Int × Int))) (rk : List Nat) (X : Nat → Int) (Xt : Nat → Int) : Prop where
  t : ∀ i j, i < cs.length → j < us.length → touchL (fstS rs i) ((us[j]?).getD []) = true → X i ≤ Xt j
  a : ∀ (st : St), st.bk.map Pb.us = us → st.bk.map Pb.r = rk → (∀ j, j < us.length → wtAt st.bk j ≤ Xt j) → ∀ i, i < cs.length → at0 cs i + wsum st.bk i ≤ X i
  m : ∀ i, i < cs.length → X i ≤ 64
structure Bd (cs : List Int) (us : List (List (Int × Int))) (X Xt : Nat → Int) (st : St) : Prop where
  w : ∀ i, i < cs.length → at0 st.ws i ≤ X i
  t : ∀ j, j < us.length → wtAt st.bk j ≤ Xt j
theorem settle_least {rs : List Rl} {cs : List Int} {us : List (List (Int × Int))} {rk : List Nat} {X Xt : Nat → Int} (hX : Sol rs cs us rk X Xt) {last : Nat} (hl : last < cs.length) : ∀ (F : Nat) (st : St), Run rs cs us rk st → Bd cs us X Xt st → (settleP rs last F st).1 = true ∧ Bd cs us X Xt (settleP rs last F st).2
  | 0, st, _, hb => ⟨rfl, hb⟩
  | F + 1, st, h, hb => by
    unfold settleP
    cases hk : look st (last + 1) 0 with
    | none => exact ⟨rfl, hb⟩
    | some n =>
      simp only
      have hle := look_le st _ _ _ hk
      have hs := look_some hk
      have hn : n < cs.length := by omega
      have hul : us.length = st.bk.length := by rw [← h.ok.uss]; simp
      have haq : at0 st.aq n ≤ X n := by
        rw [h.ok.asum n hn]
        exact hX.a st h.ok.uss h.rk hb.t n hn
      have hm := hX.m n hn
      have h64 : ¬ 64 < at0 st.aq n := by omega
      rw [if_neg h64]
      have h1 : at0 st.ws n < at0 st.aq n := hs.resolve_left h64
      refine settle_least hX hl F _ (h.lift hn h1 (by omega)) ⟨fun i hi => ?_, fun j hj => ?_⟩
      · rw [liftP_ws, at0_set (by rw [h.ok.wl]; exact hn)]
        split
        · rename_i e; subst e; exact haq
        · exact hb.w i hi
      · rw [lift_wt]
        split
        · rename_i hc
          have ht := hc.1.2
          rw [usAt_eq h.ok.uss] at ht
          exact Int.le_trans haq (hX.t n j hn hj ht)
        · exact hb.t j hj
theorem settleAll_least {rs : List Rl} {cs : List Int} {us : List (List (Int × Int))} {rk : List Nat} {X Xt : Nat → Int} (hX : Sol rs cs us rk X Xt) (hc : cs.length = rs.length) : ∀ (k n : Nat) (st : St), n + k = rs.length → Run rs cs us rk st → Bd cs us X Xt st → (settleAll rs k n st).1 = none ∧ Bd cs us X Xt (settleAll rs k n st).2
  | 0, n, st, _, _, hb => ⟨rfl, hb⟩
  | k + 1, n, st, hn, h, hb => by
    have hs := settle_sound (last := n) (by omega) (64 * rs.length + 1) st h (by rw [hc]; omega)
    have hl := settle_least hX (last := n) (by omega) (64 * rs.length + 1) st h hb
    rw [settleAll, if_pos hl.1]
    exact settleAll_least hX hc k (n + 1) _ (by omega) hs.1 hl.2
theorem run_start {rs : List Rl} (hO : ∀ r ∈ rs, Ok r) (hn : rs.length ≤ 256) : Run rs (csI rs) ((bkI rs rs.length).map Pb.us) ((bkI rs rs.length).map Pb.r) (stK rs rs.length) := by
  refine ⟨okSt_start hO hn, fun i j hi hj _ => ?_, by rw [stK_all]⟩
  rw [csI_len] at hi
  rw [stK_all] at hj ⊢
  simp only at hj ⊢
  have h1 : at0 (List.replicate rs.length 1) i = 1 := by simp [at0, hi]
  have h2 : wtAt (bkI rs rs.length) j = 1 := by
    unfold wtAt
    rw [List.getElem?_eq_getElem hj]
    exact (bkI_mem (List.getElem_mem hj)).2.1
  omega
/-- weights that were found -/
structure Fin (rs : List Rl) (st : St) : Prop where
  n : rs.length ≤ 256
  ok : ∀ r ∈ rs, Ok r
  cp : ∀ r ∈ rs, copB r = false
  run : Run rs (csI rs) ((bkI rs rs.length).map Pb.us) ((bkI rs rs.length).map Pb.r) st
  en : ∀ i, i < rs.length → at0 st.aq i ≤ at0 st.ws i
theorem fstC_none : ∀ {rs : List Rl} {k : Nat}, fstC rs k = none → ∀ r ∈ rs, copB r = false
  | [], _, _, r, h => by cases h
  | q :: l, k, h, r, hr => by
    unfold fstC at h
    by_cases hq : copB q = true
    · rw [if_pos hq] at h; cases h
    · rw [if_neg hq] at h
      rcases List.mem_cons.1 hr with rfl | hr
      · simpa using hq
      · exact fstC_none h r hr
theorem fstC_of : ∀ {rs : List Rl} {k : Nat}, (∀ r ∈ rs, copB r = false) → fstC rs k = none
  | [], _, _ => rfl
  | q :: l, k, h => by
    unfold fstC
    rw [if_neg (by rw [h q List.mem_cons_self]; simp)]
    exact fstC_of fun r hr => h r (List.mem_cons_of_mem _ hr)
theorem fstR_of : ∀ {rs : List Rl} {k : Nat}, (∀ r ∈ rs, chk r = 0) → fstR rs k = (0, 0)
  | [], _, _ => rfl
  | q :: l, k, h => by
    unfold fstR
    rw [if_pos (h q List.mem_cons_self)]
    exact fstR_of fun r hr => h r (List.mem_cons_of_mem _ hr)
theorem wgh_chk {rs : List Rl} {st : St} {c : Int × Int} (h : wgh rs = (some st, c)) : ∀ r ∈ rs, chk r = 0 := by
  unfold wgh at h
  by_cases h0 : (allE rs).2 ≠ 0
  · rw [if_pos h0] at h; injection h with h1; cases h1
  · have h1 := Classical.not_not.1 h0
    unfold allE at h1
    by_cases hn : 256 < rs.length
    · rw [if_pos hn] at h1; cases h1
    · rw [if_neg hn] at h1
      exact fstR_ok h1
theorem wgh_fin {rs : List Rl} {st : St} {c : Int × Int} (h : wgh rs = (some st, c)) : Fin rs st := by
  have hok := wgh_some h
  unfold wgh at h
  by_cases h0 : (allE rs).2 ≠ 0
  · rw [if_pos h0] at h; injection h with h1; cases h1
  · rw [if_neg h0] at h
    cases hC : fstC rs 0 with
    | some n => rw [hC] at h; injection h with h1; cases h1
    | none =>
      rw [hC] at h
      simp only at h
      obtain ⟨o, R, hR⟩ : ∃ o R, settleAll rs rs.length 0 (stK rs rs.length) = (o, R) := ⟨_, _, rfl⟩
      rw [hR] at h
      cases o with
      | some n => injection h with h1; cases h1
      | none =>
        injection h with h1 _
        injection h1 with h1
        subst h1
        have hs := settleAll_sound (csI_len rs) rs.length 0 _ (by omega) (run_start hok.2 hok.1) (fun _ h => by omega) R hR
        refine ⟨hok.1, hok.2, fstC_none hC, hs.1, fun i hi => ?_⟩
        exact (look_none (hs.2 (by omega)) i (Nat.zero_le _) (by omega)).2
/-! a unit's weight -/
theorem wgtK_mono {rs : List Rl} {ws : List Int} {u : Int} (k : Nat) : wgtK rs ws u k ≤ wgtK rs ws u (k + 1) := by
  rw [wgtK]
  split
  · rename_i h; omega
  · exact Int.le_refl _
theorem wgtK_one {rs : List Rl} {ws : List Int} {u : Int} : ∀ k, 1 ≤ wgtK rs ws u k
  | 0 => by simp [wgtK]
  | k + 1 => Int.le_trans (wgtK_one k) (wgtK_mono k)
theorem wgtK_ge {rs : List Rl} {ws : List Int} {u : Int} : ∀ {n i : Nat}, i < n → hasB (fstS rs i) u = true → at0 ws i ≤ wgtK rs ws u n
  | n + 1, i, hi, h => by
    by_cases e : i = n
    · subst e
      rw [wgtK]
      by_cases hc : wgtK rs ws u i < at0 ws i
      · rw [if_pos ⟨hc, h⟩]; exact Int.le_refl _
      · rw [if_neg (fun x => hc x.1)]; omega
    · exact Int.le_trans (wgtK_ge (by omega) h) (wgtK_mono n)
theorem wgtK_is {rs : List Rl} {ws : List Int} {u : Int} : ∀ n, wgtK rs ws u n = 1 ∨ ∃ i, i < n ∧ hasB (fstS rs i) u = true ∧ wgtK rs ws u n = at0 ws i
  | 0 => .inl rfl
  | n + 1 => by
    rw [wgtK]
    by_cases hc : wgtK rs ws u n < at0 ws n ∧ hasB (fstS rs n) u = true
    · rw [if_pos hc]; exact .inr ⟨n, by omega, hc.2, rfl⟩
    · rw [if_neg hc]
      rcases wgtK_is n with h | ⟨i, hi, h1, h2⟩
      · exact .inl h
      · exact .inr ⟨i, by omega, h1, h2⟩
theorem wgtP_eq {rs : List Rl} {st : St} {c : Int × Int} (h : wgh rs = (some st, c)) (u : Int) : wgtP rs u = if wd u = 0 then 0 else wgtK rs st.ws u rs.length := by
  unfold wgtP
  rw [h]
/-! what is put back -/
theorem mayB_good {r : Rl} (hO : Ok r) {p : Pc} (hp : p ∈ backP r) (h2 : p.k ≠ 2) : Good (mayB p) := by
  rcases pc_ok (hO.pc p (List.mem_of_mem_drop hp)) with ⟨h1, hw, _⟩ | ⟨h1, _⟩ | ⟨h1, _, _, _, hm⟩
  · unfold mayB
    rw [if_neg (by omega)]
    refine ⟨fun x hx => ?_, by simp⟩
    simp at hx
    subst hx
    rw [whole_iff]
    unfold wd at hw
    split at hw
    · omega
    · split at hw
      · omega
      · exact absurd rfl hw
  · exact absurd h1 h2
  · unfold mayB
    rw [if_pos h1]
    unfold matB at hm
    simp only [Bool.and_eq_true] at hm
    exact ((validB_iff _).1 hm.1).2
theorem pbs_mem2 {n : Nat} : ∀ {l : List Pc} {b : Pb}, b ∈ pbs n l → ∃ p ∈ l, p.k ≠ 2 ∧ b.us = mayB p
  | [], b, h => by simp [pbs] at h
  | p :: l, b, h => by
    simp only [pbs] at h
    split at h
    · obtain ⟨q, h1, h2⟩ := pbs_mem2 h
      exact ⟨q, List.mem_cons_of_mem _ h1, h2⟩
    · rename_i h2
      rcases List.mem_cons.1 h with rfl | h
      · exact ⟨p, List.mem_cons_self, h2, rfl⟩
      · obtain ⟨q, h1, h2⟩ := pbs_mem2 h
        exact ⟨q, List.mem_cons_of_mem _ h1, h2⟩
theorem bkI_good {rs : List Rl} (hO : ∀ r ∈ rs, Ok r) : ∀ {k : Nat} {b : Pb}, b ∈ bkI rs k → Good b.us
  | 0, b, h => by simp [bkI] at h
  | k + 1, b, h => by
    rw [bkI] at h
    rcases List.mem_append.1 h with h | h
    · exact bkI_good hO h
    · obtain ⟨p, h1, h2, h3⟩ := pbs_mem2 h
      cases hk : rs[k]? with
      | none => rw [hk] at h1; simp at h1
      | some r =>
        rw [hk] at h1
        rw [h3]
        exact mayB_good (hO r (List.mem_of_getElem? hk)) (by simpa using h1) h2
theorem key_good {rs : List Rl} (hO : ∀ r ∈ rs, Ok r) {i : Nat} (hi : i < rs.length) : Good (fstS rs i) := by
  have h := hO _ (List.getElem_mem hi)
  have h0 := h.k0
  have := List.all_eq_true.1 h.kS _ (List.getElem_mem h0)
  unfold okS at this
  simp only [Bool.and_eq_true] at this
  rw [fstS_at hi, show keyAt rs[i].key 0 = rs[i].key[0] by simp [keyAt, h0]]
  exact ((validB_iff _).1 this.1).2
theorem Fin.us_good {rs : List Rl} {st : St} (h : Fin rs st) {j : Nat} (hj : j < st.bk.length) : Good (usAt st.bk j) := by
  have hu := h.run.ok.uss
  have hl : st.bk.length = (bkI rs rs.length).length := by simpa using congrArg List.length hu
  rw [usAt_eq hu]
  simp only [List.getElem?_map]
  rw [List.getElem?_eq_getElem (by omega)]
  exact bkI_good h.ok (List.getElem_mem _)
/-- a unit that a piece may be weighs no more than the piece -/
theorem Fin.unit_le {rs : List Rl} {st : St} (h : Fin rs st) {c : Int × Int} (hw : wgh rs = (some st, c)) {j : Nat} (hj : j < st.bk.length) {u : Int} (hu : hasU (usAt st.bk j) u) : wgtP rs u ≤ wtAt st.bk j := by
  have hpos : 1 ≤ wtAt st.bk j := by
    unfold wtAt
    rw [List.getElem?_eq_getElem hj]
    exact (h.run.ok.pb _ (List.getElem_mem hj)).2.1
  rw [wgtP_eq hw]
  split
  · omega
  · rcases wgtK_is (rs := rs) (ws := st.ws) (u := u) rs.length with e | ⟨i, hi, h1, e⟩
    · omega
    · rw [e]
      have h2 : hasU (fstS rs i) u := by
        unfold hasB at h1
        simp only [Bool.and_eq_true, decide_eq_true_eq] at h1
        exact h1.2
      exact h.run.sn i j (by rw [csI_len]; exact hi) hj (touch_of _ _ u (key_good h.ok hi) (h.us_good hj) h2 hu)
/-- the greatest weight of some ranges' ends -/
def pairM (rs : List Rl) (l : List (Int × Int)) : Int := (l.take 20).foldl (fun m x => max (max m (wgtP rs x.1)) (wgtP rs x.2)) 0
theorem foldM_le {rs : List Rl} {X : Int} : ∀ (l : List (Int × Int)) (m : Int), m ≤ X → (∀ x ∈ l, wgtP rs x.1 ≤ X ∧ wgtP rs x.2 ≤ X) → l.foldl (fun m x => max (max m (wgtP rs x.1)) (wgtP rs x.2)) m ≤ X
  | [], m, h, _ => h
  | x :: l, m, h, hx => by
    rw [List.foldl_cons]
    refine foldM_le l _ ?_ fun y hy => hx y (List.mem_cons_of_mem _ hy)
    have := hx x List.mem_cons_self
    omega
theorem Fin.pair_le {rs : List Rl} {st : St} (h : Fin rs st) {c : Int × Int} (hw : wgh rs = (some st, c)) {j : Nat} (hj : j < st.bk.length) : pairM rs (usAt st.bk j) ≤ wtAt st.bk j := by
  have hpos : 1 ≤ wtAt st.bk j := by
    unfold wtAt
    rw [List.getElem?_eq_getElem hj]
    exact (h.run.ok.pb _ (List.getElem_mem hj)).2.1
  have hg := h.us_good hj
  refine foldM_le _ 0 (by omega) fun x hx => ?_
  have hx' := List.mem_of_mem_take hx
  have hwx := (whole_iff _ _).1 (hg.1 x hx')
  exact ⟨h.unit_le hw hj ⟨x, hx', Int.le_refl _, hwx.1⟩, h.unit_le hw hj ⟨x, hx', hwx.1, Int.le_refl _⟩⟩
/-- a sum over a rule's pieces -/
def gs (g : List (Int × Int) → Int) : List Pb → Nat → Int
  | [], _ => 0
  | b :: l, n => (if b.r = n then g b.us else 0) + gs g l n
theorem gs_append (g : List (Int × Int) → Int) (l k : List Pb) (n : Nat) : gs g (l ++ k) n = gs g l n + gs g k n := by
  induction l with
  | nil => simp [gs]
  | cons b l ih => simp only [List.cons_append, gs, ih]; omega
theorem gs_le {g : List (Int × Int) → Int} : ∀ {l : List Pb}, (∀ b ∈ l, g b.us ≤ b.wt) → ∀ n, gs g l n ≤ wsum l n
  | [], _, n => by simp [gs, wsum]
  | b :: l, h, n => by
    have h1 := gs_le (fun x hx => h x (List.mem_cons_of_mem _ hx)) n
    have h2 := h b List.mem_cons_self
    simp only [gs, wsum]
    split <;> omega
theorem gs_same {g : List (Int × Int) → Int} : ∀ {l k : List Pb}, l.map Pb.r = k.map Pb.r → l.map Pb.us = k.map Pb.us → ∀ n, gs g l n = gs g k n
  | [], [], _, _, n => rfl
  | [], _ :: _, h, _, n => by simp at h
  | _ :: _, [], h, _, n => by simp at h
  | b :: l, c :: k, h1, h2, n => by
    simp only [List.map_cons, List.cons.injEq] at h1 h2
    simp only [gs, h1.1, h2.1, gs_same h1.2 h2.2 n]
theorem gs_pbs (g : List (Int × Int) → Int) (n i : Nat) (h : n ≠ i) : ∀ l : List Pc, gs g (pbs n l) i = 0
  | [] => rfl
  | p :: l => by
    simp only [pbs]
    split
    · exact gs_pbs g n i h l
    · simp only [gs, gs_pbs g n i h l]
      rw [if_neg h]
      omega
theorem gs_bkI (g : List (Int × Int) → Int) (rs : List Rl) (i : Nat) : ∀ k, gs g (bkI rs k) i = if i < k then gs g (pbs i ((rs[i]?.map backP).getD [])) i else 0
  | 0 => by simp [bkI, gs]
  | k + 1 => by
    rw [bkI, gs_append, gs_bkI g rs i k]
    by_cases h1 : i < k
    · rw [if_pos h1, gs_pbs g k i (by omega), if_pos (by omega)]; omega
    · rw [if_neg h1]
      by_cases h2 : k = i
      · subst h2; rw [if_pos (by omega)]; omega
      · rw [gs_pbs g k i h2, if_neg (by omega)]; omega
/-- what the statement's own sum of what is put back is -/
def bkS (rs : List Rl) : List Pc → Int
  | [] => 0
  | p :: l => (if p.k = 1 then wgtP rs p.u else if p.k = 3 then pairM rs p.tl else 0) + bkS rs l
def copN : List Pc → Int
  | [] => 0
  | p :: l => (if p.k = 2 then 1 else 0) + copN l
theorem wgtP_pos {rs : List Rl} {st : St} {c : Int × Int} (hw : wgh rs = (some st, c)) (u : Int) : 0 ≤ wgtP rs u := by
  rw [wgtP_eq hw]
  split
  · exact Int.le_refl _
  · have := wgtK_one (rs := rs) (ws := st.ws) (u := u) rs.length; omega
theorem bkS_le {rs : List Rl} {st : St} {c : Int × Int} (hw : wgh rs = (some st, c)) (n : Nat) : ∀ l : List Pc, (∀ p ∈ l, p.k = 1 ∨ p.k = 2 ∨ p.k = 3) → bkS rs l = gs (pairM rs) (pbs n l) n
  | [], _ => rfl
  | p :: l, h => by
    have ih := bkS_le hw n l fun q hq => h q (List.mem_cons_of_mem _ hq)
    simp only [bkS, pbs]
    rcases h p List.mem_cons_self with h1 | h1 | h1
    · rw [if_pos h1, if_neg (by omega)]
      have h0 := wgtP_pos hw p.u
      have : pairM rs (mayB p) = wgtP rs p.u := by
        unfold mayB pairM
        rw [if_neg (by omega)]
        simp
        omega
      simp only [gs, if_pos, this, ih]
    · rw [if_neg (by omega), if_neg (by omega), if_pos h1, ih]; omega
    · rw [if_neg (by omega), if_pos h1, if_neg (by omega)]
      have : mayB p = p.tl := by unfold mayB; rw [if_pos h1]
      simp only [gs, if_pos, this, ih]
theorem pbs_cop (n : Nat) : ∀ l : List Pc, ((pbs n l).length : Int) + copN l = l.length
  | [] => rfl
  | p :: l => by
    have ih := pbs_cop n l
    simp only [pbs, copN]
    split
    · simp only [List.length_cons]; omega
    · simp only [List.length_cons]; omega
theorem csI_val {rs : List Rl} {i : Nat} (hi : i < rs.length) : at0 (csI rs) i = 2 - (rs[i].key.length : Int) + copN (backP rs[i]) := by
  rw [csI_at hi, wsum_bkI, if_pos hi, stK_all, List.getElem?_eq_getElem hi]
  have h4 : at0 (rs.map askI) i = askI rs[i] := by simp [at0, hi]
  have h5 := pbs_cop i (backP rs[i])
  simp only [Option.map_some, Option.getD_some]
  rw [h4]
  unfold askI
  omega
/-- each rule's first set weighs enough -/
theorem Fin.fair {rs : List Rl} {st : St} (h : Fin rs st) {c : Int × Int} (hw : wgh rs = (some st, c)) {i : Nat} (hi : i < rs.length) {u : Int} (hu : hasB (fstS rs i) u = true) (hd : wd u ≠ 0) :
    1 + bkS rs (backP rs[i]) - ((rs[i].key.length : Int) - 1 - copN (backP rs[i])) ≤ wgtP rs u := by
  have hr := h.ok _ (List.getElem_mem hi)
  have h1 := bkS_le hw i (backP rs[i]) fun p hp => by
    rcases pc_ok (hr.pc p (List.mem_of_mem_drop hp)) with ⟨h1, _⟩ | ⟨h1, _⟩ | ⟨h1, _⟩
    · exact .inl h1
    · exact .inr (.inl h1)
    · exact .inr (.inr h1)
  have h2 : gs (pairM rs) (pbs i (backP rs[i])) i = gs (pairM rs) st.bk i := by
    rw [gs_same h.run.rk h.run.ok.uss, gs_bkI, if_pos hi, List.getElem?_eq_getElem hi]
    rfl
  have h3 : gs (pairM rs) st.bk i ≤ wsum st.bk i := gs_le (fun b hb => by
    obtain ⟨j, hj, rfl⟩ := List.getElem_of_mem hb
    have := h.pair_le hw hj
    rw [usAt_at hj] at this
    unfold wtAt at this
    rw [List.getElem?_eq_getElem hj] at this
    exact this) i
  have h4 := h.run.ok.asum i (by rw [csI_len]; exact hi)
  rw [csI_val hi] at h4
  have h5 := h.en i hi
  have h6 : at0 st.ws i ≤ wgtP rs u := by
    rw [wgtP_eq hw, if_neg hd]
    exact wgtK_ge hi hu
  omega
end Go.Proofs
