/-
  What the weights are that were found: enough, and the least.
-/
import Derived.RangeFuncNested
import Derived.RangeFuncBound
import Derived.RangeFuncCalls
import Derived.RangeFuncLeaves
import Derived.Shelf.Abstract
import Derived.Shelf.RegionOpen
import Derived.WalkKit
import Derived.WalkSpells
import Derived.WalkLawsBesides
import Derived.OwnWalkIn
import Derived.TacticsInMore
import Derived.LoopNIn
import Derived.LoopIn
import Derived.BigQuiet
import Derived.RegionIn
import Derived.Deep.QuietTactic
import Derived.Deep.RegionWith
import Derived.Lib.OthersKept
import Derived.Maps.AppendAt
import Derived.Lib.SmallJoins
import Derived.Shelf.SlSortCmp.QuietGrown
import Derived.Test.YtkijbaofhodplaaDoorEo
namespace Go.Proofs
open Go.RowKit Go.Shelf

set_option maxRecDepth 100000
attribute [local go_sem] Oper.semAt_some
attribute [local go_sem ↓] Go.wp_at_zero Go.wp_at_succ
/-! sets that touch -/
theorem touch_of : ∀ (a b : List (Int × Int)) (u : Int), Good a → Good b → hasU a u → hasU b u → touchL a b = true
  | [], _, u, _, _, h, _ => by obtain ⟨x, hx, _⟩ := h; simp at hx
  | x :: a, [], u, _, _, _, h => by obtain ⟨y, hy, _⟩ := h; simp at hy
  | x :: a, y :: b, u, ha, hb, h1, h2 => by
    have ga : Good a := ⟨fun z hz => ha.1 z (List.mem_cons_of_mem _ hz), (List.pairwise_cons.1 ha.2).2⟩
    have gb : Good b := ⟨fun z hz => hb.1 z (List.mem_cons_of_mem _ hz), (List.pairwise_cons.1 hb.2).2⟩
    have aa := (List.pairwise_cons.1 ha.2).1
    have bb := (List.pairwise_cons.1 hb.2).1
    have wx := (whole_iff _ _).1 (ha.1 x List.mem_cons_self)
    have wy := (whole_iff _ _).1 (hb.1 y List.mem_cons_self)
    rw [touch_cons]
    obtain ⟨p, hp, hp1, hp2⟩ := h1
    obtain ⟨q, hq, hq1, hq2⟩ := h2
    by_cases c1 : x.2 < y.1
    · rw [if_pos c1]
      refine touch_of a (y :: b) u ga hb ?_ ⟨q, hq, hq1, hq2⟩
      rcases List.mem_cons.1 hp with rfl | hp
      · exfalso
        rcases List.mem_cons.1 hq with rfl | hq
        · omega
        · have := bb q hq; omega
      · exact ⟨p, hp, hp1, hp2⟩
    · rw [if_neg c1]
      by_cases c2 : y.2 < x.1
      · rw [if_pos c2]
        refine touch_of (x :: a) b u ha gb ⟨p, hp, hp1, hp2⟩ ?_
        rcases List.mem_cons.1 hq with rfl | hq
        · exfalso
          rcases List.mem_cons.1 hp with rfl | hp
          · omega
          · have := aa p hp; omega
        · exact ⟨q, hq, hq1, hq2⟩
      · rw [if_neg c2]
termination_by a b => a.length + b.length
/-! what a bump keeps -/
theorem bump_rs (w : Int) (st : St) (i : Nat) : (bump w st i).bk.map Pb.r = st.bk.map Pb.r := by
  unfold bump
  cases hb : st.bk[i]? with
  | none => rfl
  | some b =>
    simp only
    split
    · simp only
      obtain ⟨hi, hbi⟩ := List.getElem?_eq_some_iff.1 hb
      rw [List.map_set]
      refine List.ext_getElem (by simp) fun j h1 h2 => ?_
      rw [List.getElem_set]
      split
      · rename_i e; subst e; simp [hbi]
      · rfl
    · rfl
theorem bumps_rs (w : Int) : ∀ (l : List Nat) (st : St), (l.foldl (bump w) st).bk.map Pb.r = st.bk.map Pb.r
  | [], _ => rfl
  | i :: l, st => by rw [List.foldl_cons, bumps_rs w l, bump_rs]
theorem bump_us (w : Int) (st : St) (i : Nat) : (bump w st i).bk.map Pb.us = st.bk.map Pb.us := by
  unfold bump
  cases hb : st.bk[i]? with
  | none => rfl
  | some b =>
    simp only
    split
    · exact map_us_set hb
    · rfl
theorem bumps_us (w : Int) : ∀ (l : List Nat) (st : St), (l.foldl (bump w) st).bk.map Pb.us = st.bk.map Pb.us
  | [], _ => rfl
  | i :: l, st => by rw [List.foldl_cons, bumps_us w l, bump_us]
/-- the weight of a piece -/
def wtAt (bk : List Pb) (j : Nat) : Int := (bk[j]?.map Pb.wt).getD 0
theorem bump_wt (w : Int) (st : St) (i j : Nat) : wtAt (bump w st i).bk j = if j = i ∧ j < st.bk.length ∧ wtAt st.bk j < w then w else wtAt st.bk j := by
  unfold bump
  cases hb : st.bk[i]? with
  | none =>
    rw [if_neg]
    rintro ⟨rfl, h, _⟩
    rw [List.getElem?_eq_getElem h] at hb
    cases hb
  | some b =>
    obtain ⟨hi, hbi⟩ := List.getElem?_eq_some_iff.1 hb
    simp only
    by_cases hlt : b.wt < w
    · rw [if_pos hlt]
      show wtAt (st.bk.set i _) j = _
      by_cases e : i = j
      · subst e
        have hw : wtAt st.bk i < w := by unfold wtAt; rw [hb]; simpa using hlt
        rw [if_pos ⟨rfl, hi, hw⟩]
        unfold wtAt
        simp [hi]
      · rw [if_neg (fun h => e h.1.symm)]
        unfold wtAt
        simp [e]
    · rw [if_neg hlt, if_neg]
      rintro ⟨rfl, _, h⟩
      unfold wtAt at h
      rw [hb] at h
      simp at h
      omega
theorem bumps_wt (w : Int) : ∀ (l : List Nat) (st : St) (j : Nat), wtAt (l.foldl (bump w) st).bk j = if j ∈ l ∧ j < st.bk.length ∧ wtAt st.bk j < w then w else wtAt st.bk j
  | [], st, j => by simp
  | i :: l, st, j => by
    have hlen : (bump w st i).bk.length = st.bk.length := by simpa using congrArg List.length (bump_rs w st i)
    rw [List.foldl_cons, bumps_wt w l, hlen, bump_wt]
    by_cases e : j = i
    · subst e
      by_cases h : j < st.bk.length ∧ wtAt st.bk j < w
      · have h1 : (if j = j ∧ j < st.bk.length ∧ wtAt st.bk j < w then w else wtAt st.bk j) = w := if_pos ⟨rfl, h⟩
        rw [h1, if_neg (fun x => by omega), if_pos ⟨List.mem_cons_self, h⟩]
      · have h1 : (if j = j ∧ j < st.bk.length ∧ wtAt st.bk j < w then w else wtAt st.bk j) = wtAt st.bk j := if_neg (fun x => h x.2)
        rw [h1, if_neg (fun x => h x.2), if_neg (fun x => h x.2)]
    · have h1 : (if j = i ∧ j < st.bk.length ∧ wtAt st.bk j < w then w else wtAt st.bk j) = wtAt st.bk j := if_neg (fun x => e x.1)
      rw [h1]
      by_cases h : j ∈ l ∧ j < st.bk.length ∧ wtAt st.bk j < w
      · rw [if_pos h, if_pos ⟨List.mem_cons_of_mem _ h.1, h.2⟩]
      · rw [if_neg h, if_neg]
        rintro ⟨h2, h3⟩
        rcases List.mem_cons.1 h2 with h2 | h2
        · exact e h2
        · exact h ⟨h2, h3⟩
theorem mem_lean {rs : List Rl} {bk : List Pb} {n j : Nat} : j ∈ leanL rs bk n ↔ j < bk.length ∧ touchL (fstS rs n) (usAt bk j) = true := by
  unfold leanL
  rw [List.mem_filter, List.mem_range]
theorem lift_wt (rs : List Rl) (n : Nat) (st : St) (j : Nat) : wtAt (liftP rs n st).bk j = if (j < st.bk.length ∧ touchL (fstS rs n) (usAt st.bk j) = true) ∧ wtAt st.bk j < at0 st.aq n then at0 st.aq n else wtAt st.bk j := by
  unfold liftP
  rw [bumps_wt]
  simp only [mem_lean]
  by_cases h : (j < st.bk.length ∧ touchL (fstS rs n) (usAt st.bk j) = true) ∧ wtAt st.bk j < at0 st.aq n
  · rw [if_pos h, if_pos ⟨h.1, h.1.1, h.2⟩]
  · rw [if_neg h, if_neg (fun x => h ⟨x.1, x.2.2⟩)]
theorem lift_us (rs : List Rl) (n : Nat) (st : St) : (liftP rs n st).bk.map Pb.us = st.bk.map Pb.us := bumps_us _ _ _
theorem lift_rs (rs : List Rl) (n : Nat) (st : St) : (liftP rs n st).bk.map Pb.r = st.bk.map Pb.r := bumps_rs _ _ _
theorem lift_len (rs : List Rl) (n : Nat) (st : St) : (liftP rs n st).bk.length = st.bk.length := by simpa using congrArg List.length (lift_us rs n st)
/-- what is put back weighs as much as what leans on it -/
def Snd (rs : List Rl) (N : Nat) (st : St) : Prop := ∀ i j, i < N → j < st.bk.length → touchL (fstS rs i) (usAt st.bk j) = true → at0 st.ws i ≤ wtAt st.bk j
theorem Snd.lift {rs : List Rl} {N n : Nat} {st : St} (h : Snd rs N st) (hn : n < st.ws.length) (h1 : at0 st.ws n < at0 st.aq n) : Snd rs N (liftP rs n st) := by
  intro i j hi hj ht
  rw [lift_len] at hj
  rw [usAt_eq (lift_us rs n st), ← usAt_eq rfl] at ht
  rw [liftP_ws, at0_set hn, lift_wt]
  have h0 := h i j hi hj ht
  by_cases e : i = n
  · subst e
    rw [if_pos rfl]
    by_cases hc : wtAt st.bk j < at0 st.aq i
    · rw [if_pos ⟨⟨hj, ht⟩, hc⟩]; omega
    · rw [if_neg (fun x => hc x.2)]; omega
  · rw [if_neg e]
    split <;> omega
theorem look_none {st : St} : ∀ {k n : Nat}, look st k n = none → ∀ i, n ≤ i → i < n + k → at0 st.aq i ≤ 64 ∧ at0 st.aq i ≤ at0 st.ws i
  | 0, n, _, i, h1, h2 => by omega
  | k + 1, n, h, i, h1, h2 => by
    unfold look at h
    split at h
    · cases h
    · rename_i hc
      by_cases e : i = n
      · subst e; omega
      · exact look_none h i (by omega) (by omega)
theorem look_some {st : St} : ∀ {k n m : Nat}, look st k n = some m → 64 < at0 st.aq m ∨ at0 st.ws m < at0 st.aq m
  | 0, n, m, h => by simp [look] at h
  | k + 1, n, m, h => by
    unfold look at h
    split at h
    · rename_i hc; cases h; exact hc
    · exact look_some h
/-- all that stays so while weights are lifted -/
structure Run (rs : List Rl) (cs : List Int) (us : List (List (Int × Int))) (rk : List Nat) (st : St) : Prop where
  ok : OkSt cs us st
  sn : Snd rs cs.length st
  rk : st.bk.map Pb.r = rk
theorem Run.lift {rs : List Rl} {cs : List Int} {us : List (List (Int × Int))} {rk : List Nat} {st : St} (h : Run rs cs us rk st) {n : Nat} (hn : n < cs.length) (h1 : at0 st.ws n < at0 st.aq n) (h2 : at0 st.aq n ≤ 64) : Run rs cs us rk (liftP rs n st) :=
  ⟨h.ok.lift rs hn h1 h2, h.sn.lift (by rw [h.ok.wl]; exact hn) h1, (lift_rs rs n st).trans h.rk⟩
theorem settle_sound {rs : List Rl} {cs : List Int} {us : List (List (Int × Int))} {rk : List Nat} {last : Nat} (hl : last < cs.length) : ∀ (F : Nat) (st : St), Run rs cs us rk st → 64 * cs.length < F + tws st.ws → Run rs cs us rk (settleP rs last F st).2 ∧ ((settleP rs last F st).1 = true → look (settleP rs last F st).2 (last + 1) 0 = none)
  | 0, st, h, hF => by
    exfalso
    have hb := tws_bound st.ws (fun i hi => (h.ok.wb i (by rw [← h.ok.wl]; exact hi)).2)
    rw [h.ok.wl] at hb
    omega
  | F + 1, st, h, hF => by
    unfold settleP
    cases hk : look st (last + 1) 0 with
    | none => exact ⟨h, fun _ => hk⟩
    | some n =>
      simp only
      have hle := look_le st _ _ _ hk
      have hs := look_some hk
      by_cases h64 : 64 < at0 st.aq n
      · rw [if_pos h64]
        exact ⟨h, fun e => by cases e⟩
      · rw [if_neg h64]
        have h1 : at0 st.ws n < at0 st.aq n := hs.resolve_left h64
        have hn : n < cs.length := by omega
        refine settle_sound hl F _ (h.lift hn h1 (by omega)) ?_
        rw [liftP_ws]
        have h3 := tws_set st.ws n (at0 st.aq n) (by rw [h.ok.wl]; exact hn)
        have h4 := (h.ok.wb n hn).1
        omega
theorem settleAll_sound {rs : List Rl} {cs : List Int} {us : List (List (Int × Int))} {rk : List Nat} (hc : cs.length = rs.length) : ∀ (k n : Nat) (st : St), n + k = rs.length → Run rs cs us rk st → (k = 0 → 0 < n → look st n 0 = none) → ∀ R, settleAll rs k n st = (none, R) → Run rs cs us rk R ∧ (0 < rs.length → look R rs.length 0 = none)
  | 0, n, st, hn, h, h0, R, e => by
    simp only [settleAll] at e
    cases e
    refine ⟨h, fun hp => ?_⟩
    have := h0 rfl (by omega)
    rw [← hn, Nat.add_zero]
    exact this
  | k + 1, n, st, hn, h, _, R, e => by
    have hs := settle_sound (last := n) (by omega) (64 * rs.length + 1) st h (by rw [hc]; omega)
    rw [settleAll] at e
    by_cases ht : (settleP rs n (64 * rs.length + 1) st).1 = true
    · rw [if_pos ht] at e
      exact settleAll_sound hc k (n + 1) _ (by omega) hs.1 (fun _ _ => hs.2 ht) R e
    · rw [if_neg ht] at e
      cases e
/-! bounds from above -/
/-- numbers that are weights -/
structure Sol (rs : List Rl) (cs : List Int) (us : List (List (Int × Int))) (rk : List Nat) (X : Nat → Int) (Xt : Nat → Int) : Prop where
  t : ∀ i j, i < cs.length → j < us.length → touchL (fstS rs i) ((us[j]?).getD []) = true → X i ≤ Xt j
  a : ∀ (st : St), st.bk.map Pb.us = us → st.bk.map Pb.r = rk → (∀ j, j < us.length → wtAt st.bk j ≤ Xt j) → ∀ i, i < cs.length → at0 cs i + wsum st.bk i ≤ X i
  m : ∀ i, i < cs.length → X i ≤ 64
structure Bd (cs : List Int) (us : List (List (Int × Int))) (X Xt : Nat → Int) (st : St) : Prop where
  w : ∀ i, i < cs.length → at0 st.ws i ≤ X i
  t : ∀ j, j < us.length → wtAt st.bk j ≤ Xt j
theorem settle_least {rs : List Rl} {cs : List Int} {us : List (List (Int × Int))} {rk : List Nat} {X Xt : Nat → Int} (hX : Sol rs cs us rk X Xt) {last : Nat} (hl : last < cs.length) : ∀ (F : Nat) (st : St), Run rs cs us rk st → Bd cs us X Xt st → (settleP rs last F st).1 = true ∧ Bd cs us X Xt (settleP rs last F st).2
  | 0, st, _, hb => ⟨rfl, hb⟩
  | F + 1, st, h, hb => by
    unfold settleP
    cases hk : look st (last + 1) 0 with
    | none => exact ⟨rfl, hb⟩
    | some n =>
      simp only
      have hle := look_le st _ _ _ hk
      have hs := look_some hk
      have hn : n < cs.length := by omega
      have hul : us.length = st.bk.length := by rw [← h.ok.uss]; simp
      have haq : at0 st.aq n ≤ X n := by
        rw [h.ok.asum n hn]
        exact hX.a st h.ok.uss h.rk hb.t n hn
      have hm := hX.m n hn
      have h64 : ¬ 64 < at0 st.aq n := by omega
      rw [if_neg h64]
      have h1 : at0 st.ws n < at0 st.aq n := hs.resolve_left h64
      refine settle_least hX hl F _ (h.lift hn h1 (by omega)) ⟨fun i hi => ?_, fun j hj => ?_⟩
      · rw [liftP_ws, at0_set (by rw [h.ok.wl]; exact hn)]
        split
        · rename_i e; subst e; exact haq
        · exact hb.w i hi
      · rw [lift_wt]
        split
        · rename_i hc
          have ht := hc.1.2
          rw [usAt_eq h.ok.uss] at ht
          exact Int.le_trans haq (hX.t n j hn hj ht)
        · exact hb.t j hj
theorem settleAll_least {rs : List Rl} {cs : List Int} {us : List (List (Int × Int))} {rk : List Nat} {X Xt : Nat → Int} (hX : Sol rs cs us rk X Xt) (hc : cs.length = rs.length) : ∀ (k n : Nat) (st : St), n + k = rs.length → Run rs cs us rk st → Bd cs us X Xt st → (settleAll rs k n st).1 = none ∧ Bd cs us X Xt (settleAll rs k n st).2
  | 0, n, st, _, _, hb => ⟨rfl, hb⟩
  | k + 1, n, st, hn, h, hb => by
    have hs := settle_sound (last := n) (by omega) (64 * rs.length + 1) st h (by rw [hc]; omega)
    have hl := settle_least hX (last := n) (by omega) (64 * rs.length + 1) st h hb
    rw [settleAll, if_pos hl.1]
    exact settleAll_least hX hc k (n + 1) _ (by omega) hs.1 hl.2
end Go.Proofs
