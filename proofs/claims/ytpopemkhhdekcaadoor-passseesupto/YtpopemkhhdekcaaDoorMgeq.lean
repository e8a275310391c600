/-
  Several texts in one (Fb Ic Gb Ha Hb Hc He).
-/
import Derived.RangeFuncNested
import Derived.RangeFuncBound
import Derived.RangeFuncCalls
import Derived.RangeFuncLeaves
import Derived.Shelf.Abstract
import Derived.Shelf.RegionOpen
import Derived.WalkKit
import Derived.WalkSpells
import Derived.WalkLawsBesides
import Derived.OwnWalkIn
import Derived.TacticsInMore
import Derived.LoopNIn
import Derived.LoopIn
import Derived.BigQuiet
import Derived.RegionIn
import Derived.Deep.QuietTactic
import Derived.Deep.RegionWith
import Derived.Lib.OthersKept
import Derived.Maps.AppendAt
import Derived.Lib.SmallJoins
import Derived.Shelf.SlSortCmp.QuietGrown
import Derived.Test.YtpopemkhhdekcaaDoorMgdq
import Derived.Test.YtpopemkhhdekcaaDoorRcq
import Derived.Test.YtpopemkhhdekcaaDoorJfq
import Derived.Test.YtpopemkhhdekcaaDoorWeq
import Derived.Test.YtpopemkhhdekcaaDoorMgaq
import Derived.Test.YtpopemkhhdekcaaDoorMgcq
import Derived.Deep.AppendLies
import Derived.Deep.RegionLaw
namespace Go.Proofs
open Go.RowKit Go.Shelf

set_option maxRecDepth 100000
attribute [local go_sem] Oper.semAt_some
attribute [local go_sem ↓] Go.wp_at_zero Go.wp_at_succ
theorem run_start {rs : List Rl} (hO : ∀ r ∈ rs, Ok r) (hn : rs.length ≤ 256) : Run rs (csI rs) ((bkI rs rs.length).map Pb.us) ((bkI rs rs.length).map Pb.r) (stK rs rs.length) := by
  refine ⟨okSt_start hO hn, fun i j hi hj _ => ?_, by rw [stK_all]⟩
  rw [csI_len] at hi
  rw [stK_all] at hj ⊢
  simp only at hj ⊢
  have h1 : at0 (List.replicate rs.length 1) i = 1 := by simp [at0, hi]
  have h2 : wtAt (bkI rs rs.length) j = 1 := by
    unfold wtAt
    rw [List.getElem?_eq_getElem hj]
    exact (bkI_mem (List.getElem_mem hj)).2.1
  omega
/-- weights that were found -/
structure Fin (rs : List Rl) (st : St) : Prop where
  n : rs.length ≤ 256
  ok : ∀ r ∈ rs, Ok r
  cp : ∀ r ∈ rs, copB r = false
  run : Run rs (csI rs) ((bkI rs rs.length).map Pb.us) ((bkI rs rs.length).map Pb.r) st
  en : ∀ i, i < rs.length → at0 st.aq i ≤ at0 st.ws i
theorem fstC_none : ∀ {rs : List Rl} {k : Nat}, fstC rs k = none → ∀ r ∈ rs, copB r = false
  | [], _, _, r, h => by cases h
  | q :: l, k, h, r, hr => by
    unfold fstC at h
    by_cases hq : copB q = true
    · rw [if_pos hq] at h; cases h
    · rw [if_neg hq] at h
      rcases List.mem_cons.1 hr with rfl | hr
      · simpa using hq
      · exact fstC_none h r hr
theorem wgh_chk {rs : List Rl} {st : St} {c : Int × Int} (h : wgh rs = (some st, c)) : ∀ r ∈ rs, chk r = 0 := by
  unfold wgh at h
  by_cases h0 : (allE rs).2 ≠ 0
  · rw [if_pos h0] at h; injection h with h1; cases h1
  · have h1 := Classical.not_not.1 h0
    unfold allE at h1
    by_cases hn : 256 < rs.length
    · rw [if_pos hn] at h1; cases h1
    · rw [if_neg hn] at h1
      exact fstR_ok h1
theorem wgh_fin {rs : List Rl} {st : St} {c : Int × Int} (h : wgh rs = (some st, c)) : Fin rs st := by
  have hok := wgh_some h
  unfold wgh at h
  by_cases h0 : (allE rs).2 ≠ 0
  · rw [if_pos h0] at h; injection h with h1; cases h1
  · rw [if_neg h0] at h
    cases hC : fstC rs 0 with
    | some n => rw [hC] at h; injection h with h1; cases h1
    | none =>
      rw [hC] at h
      simp only at h
      obtain ⟨o, R, hR⟩ : ∃ o R, settleAll rs rs.length 0 (stK rs rs.length) = (o, R) := ⟨_, _, rfl⟩
      rw [hR] at h
      cases o with
      | some n => injection h with h1; cases h1
      | none =>
        injection h with h1 _
        injection h1 with h1
        subst h1
        have hs := settleAll_sound (csI_len rs) rs.length 0 _ (by omega) (run_start hok.2 hok.1) (fun _ h => by omega) R hR
        refine ⟨hok.1, hok.2, fstC_none hC, hs.1, fun i hi => ?_⟩
        exact (look_none (hs.2 (by omega)) i (Nat.zero_le _) (by omega)).2
/-! a unit's weight -/
theorem wgtK_mono {rs : List Rl} {ws : List Int} {u : Int} (k : Nat) : wgtK rs ws u k ≤ wgtK rs ws u (k + 1) := by
  rw [wgtK]
  split
  · rename_i h; omega
  · exact Int.le_refl _
theorem wgtK_one {rs : List Rl} {ws : List Int} {u : Int} : ∀ k, 1 ≤ wgtK rs ws u k
  | 0 => by simp [wgtK]
  | k + 1 => Int.le_trans (wgtK_one k) (wgtK_mono k)
theorem wgtK_ge {rs : List Rl} {ws : List Int} {u : Int} : ∀ {n i : Nat}, i < n → hasB (fstS rs i) u = true → at0 ws i ≤ wgtK rs ws u n
  | n + 1, i, hi, h => by
    by_cases e : i = n
    · subst e
      rw [wgtK]
      by_cases hc : wgtK rs ws u i < at0 ws i
      · rw [if_pos ⟨hc, h⟩]; exact Int.le_refl _
      · rw [if_neg (fun x => hc x.1)]; omega
    · exact Int.le_trans (wgtK_ge (by omega) h) (wgtK_mono n)
theorem wgtK_is {rs : List Rl} {ws : List Int} {u : Int} : ∀ n, wgtK rs ws u n = 1 ∨ ∃ i, i < n ∧ hasB (fstS rs i) u = true ∧ wgtK rs ws u n = at0 ws i
  | 0 => .inl rfl
  | n + 1 => by
    rw [wgtK]
    by_cases hc : wgtK rs ws u n < at0 ws n ∧ hasB (fstS rs n) u = true
    · rw [if_pos hc]; exact .inr ⟨n, by omega, hc.2, rfl⟩
    · rw [if_neg hc]
      rcases wgtK_is n with h | ⟨i, hi, h1, h2⟩
      · exact .inl h
      · exact .inr ⟨i, by omega, h1, h2⟩
theorem mayB_good {r : Rl} (hO : Ok r) {p : Pc} (hp : p ∈ backP r) (h2 : p.k ≠ 2) : Good (mayB p) := by
  rcases pc_ok (hO.pc p (List.mem_of_mem_drop hp)) with ⟨h1, hw, _⟩ | ⟨h1, _⟩ | ⟨h1, _, _, _, hm⟩
  · unfold mayB
    rw [if_neg (by omega)]
    refine ⟨fun x hx => ?_, by simp⟩
    simp at hx
    subst hx
    rw [whole_iff]
    unfold wd at hw
    split at hw
    · omega
    · split at hw
      · omega
      · exact absurd rfl hw
  · exact absurd h1 h2
  · unfold mayB
    rw [if_pos h1]
    unfold matB at hm
    simp only [Bool.and_eq_true] at hm
    exact ((validB_iff _).1 hm.1).2
theorem pbs_mem2 {n : Nat} : ∀ {l : List Pc} {b : Pb}, b ∈ pbs n l → ∃ p ∈ l, p.k ≠ 2 ∧ b.us = mayB p
  | [], b, h => by simp [pbs] at h
  | p :: l, b, h => by
    simp only [pbs] at h
    split at h
    · obtain ⟨q, h1, h2⟩ := pbs_mem2 h
      exact ⟨q, List.mem_cons_of_mem _ h1, h2⟩
    · rename_i h2
      rcases List.mem_cons.1 h with rfl | h
      · exact ⟨p, List.mem_cons_self, h2, rfl⟩
      · obtain ⟨q, h1, h2⟩ := pbs_mem2 h
        exact ⟨q, List.mem_cons_of_mem _ h1, h2⟩
theorem bkI_good {rs : List Rl} (hO : ∀ r ∈ rs, Ok r) : ∀ {k : Nat} {b : Pb}, b ∈ bkI rs k → Good b.us
  | 0, b, h => by simp [bkI] at h
  | k + 1, b, h => by
    rw [bkI] at h
    rcases List.mem_append.1 h with h | h
    · exact bkI_good hO h
    · obtain ⟨p, h1, h2, h3⟩ := pbs_mem2 h
      cases hk : rs[k]? with
      | none => rw [hk] at h1; simp at h1
      | some r =>
        rw [hk] at h1
        rw [h3]
        exact mayB_good (hO r (List.mem_of_getElem? hk)) (by simpa using h1) h2
theorem key_good {rs : List Rl} (hO : ∀ r ∈ rs, Ok r) {i : Nat} (hi : i < rs.length) : Good (fstS rs i) := by
  have h := hO _ (List.getElem_mem hi)
  have h0 := h.k0
  have := List.all_eq_true.1 h.kS _ (List.getElem_mem h0)
  unfold okS at this
  simp only [Bool.and_eq_true] at this
  rw [fstS_at hi, show keyAt rs[i].key 0 = rs[i].key[0] by simp [keyAt, h0]]
  exact ((validB_iff _).1 this.1).2
theorem Fin.us_good {rs : List Rl} {st : St} (h : Fin rs st) {j : Nat} (hj : j < st.bk.length) : Good (usAt st.bk j) := by
  have hu := h.run.ok.uss
  have hl : st.bk.length = (bkI rs rs.length).length := by simpa using congrArg List.length hu
  rw [usAt_eq hu]
  simp only [List.getElem?_map]
  rw [List.getElem?_eq_getElem (by omega)]
  exact bkI_good h.ok (List.getElem_mem _)
/-- a sum over a rule's pieces -/
def gs (g : List (Int × Int) → Int) : List Pb → Nat → Int
  | [], _ => 0
  | b :: l, n => (if b.r = n then g b.us else 0) + gs g l n
theorem gs_append (g : List (Int × Int) → Int) (l k : List Pb) (n : Nat) : gs g (l ++ k) n = gs g l n + gs g k n := by
  induction l with
  | nil => simp [gs]
  | cons b l ih => simp only [List.cons_append, gs, ih]; omega
theorem gs_le {g : List (Int × Int) → Int} : ∀ {l : List Pb}, (∀ b ∈ l, g b.us ≤ b.wt) → ∀ n, gs g l n ≤ wsum l n
  | [], _, n => by simp [gs, wsum]
  | b :: l, h, n => by
    have h1 := gs_le (fun x hx => h x (List.mem_cons_of_mem _ hx)) n
    have h2 := h b List.mem_cons_self
    simp only [gs, wsum]
    split <;> omega
theorem gs_same {g : List (Int × Int) → Int} : ∀ {l k : List Pb}, l.map Pb.r = k.map Pb.r → l.map Pb.us = k.map Pb.us → ∀ n, gs g l n = gs g k n
  | [], [], _, _, n => rfl
  | [], _ :: _, h, _, n => by simp at h
  | _ :: _, [], h, _, n => by simp at h
  | b :: l, c :: k, h1, h2, n => by
    simp only [List.map_cons, List.cons.injEq] at h1 h2
    simp only [gs, h1.1, h2.1, gs_same h1.2 h2.2 n]
theorem gs_pbs (g : List (Int × Int) → Int) (n i : Nat) (h : n ≠ i) : ∀ l : List Pc, gs g (pbs n l) i = 0
  | [] => rfl
  | p :: l => by
    simp only [pbs]
    split
    · exact gs_pbs g n i h l
    · simp only [gs, gs_pbs g n i h l]
      rw [if_neg h]
      omega
theorem gs_bkI (g : List (Int × Int) → Int) (rs : List Rl) (i : Nat) : ∀ k, gs g (bkI rs k) i = if i < k then gs g (pbs i ((rs[i]?.map backP).getD [])) i else 0
  | 0 => by simp [bkI, gs]
  | k + 1 => by
    rw [bkI, gs_append, gs_bkI g rs i k]
    by_cases h1 : i < k
    · rw [if_pos h1, gs_pbs g k i (by omega), if_pos (by omega)]; omega
    · rw [if_neg h1]
      by_cases h2 : k = i
      · subst h2; rw [if_pos (by omega)]; omega
      · rw [gs_pbs g k i h2, if_neg (by omega)]; omega
def copN : List Pc → Int
  | [] => 0
  | p :: l => (if p.k = 2 then 1 else 0) + copN l
theorem pbs_cop (n : Nat) : ∀ l : List Pc, ((pbs n l).length : Int) + copN l = l.length
  | [] => rfl
  | p :: l => by
    have ih := pbs_cop n l
    simp only [pbs, copN]
    split
    · simp only [List.length_cons]; omega
    · simp only [List.length_cons]; omega
theorem csI_val {rs : List Rl} {i : Nat} (hi : i < rs.length) : at0 (csI rs) i = 2 - (rs[i].key.length : Int) + copN (backP rs[i]) := by
  rw [csI_at hi, wsum_bkI, if_pos hi, stK_all, List.getElem?_eq_getElem hi]
  have h4 : at0 (rs.map askI) i = askI rs[i] := by simp [at0, hi]
  have h5 := pbs_cop i (backP rs[i])
  simp only [Option.map_some, Option.getD_some]
  rw [h4]
  unfold askI
  omega
theorem nth_lt : ∀ (l : List (Int × Int)) (n : Int), (∀ x ∈ l, Whole x) → 0 ≤ n → n < tot l → ∃ v, nthL l n = some v ∧ hasU l v
  | [], n, _, h0, h1 => by simp [tot] at h1; omega
  | x :: r, n, hw, h0, h1 => by
    rw [tot_cons] at h1
    unfold nthL
    by_cases h : n < x.2 - x.1 + 1
    · rw [if_pos h]
      exact ⟨_, rfl, (hasU_cons _ _ _).2 (.inl ⟨by omega, by omega⟩)⟩
    · rw [if_neg h]
      obtain ⟨v, h2, h3⟩ := nth_lt r (n - (x.2 - x.1 + 1)) (fun y hy => hw y (List.mem_cons_of_mem _ hy)) (by omega) (by omega)
      exact ⟨v, h2, (hasU_cons _ _ _).2 (.inr h3)⟩
theorem place_lt {l : List (Int × Int)} (h : Good l) {u : Int} (hu : hasU l u) : placeU l u < tot l := by
  have h1 := (nth_place h hu).1
  by_cases e : tot l ≤ placeU l u
  · rw [nth_over l _ h.1 e] at h1
    cases h1
  · omega
structure Paired (f t : List (Int × Int)) : Prop where
  vf : validB f = true
  vt : validB t = true
  p : 0 < lenU f
  e : lenU f = lenU t
theorem part_some {f t : List (Int × Int)} (h : Paired f t) {u : Int} (hu : hasU f u) : nthL t (placeU f u) = some (partU f t u) ∧ hasU t (partU f t u) := by
  have hf := (validB_iff f).1 h.vf
  have ht := (validB_iff t).1 h.vt
  have hp := (nth_place hf.2 hu).2
  have h1 := place_lt hf.2 hu
  have e := h.e
  unfold lenU at e
  rw [if_pos h.vf, if_pos h.vt] at e
  obtain ⟨v, h2, h3⟩ := nth_lt t (placeU f u) ht.2.1 hp (by omega)
  have hh : hasB f u = true := by simp [hasB, h.vf, hu]
  have : partU f t u = v := by
    unfold partU
    rw [if_pos hh]
    unfold nthU
    rw [if_neg (by simp [h.vt]; omega), h2]
    rfl
  rw [this]
  exact ⟨h2, h3⟩
theorem wd_unit {u : Int} (h : isU u) : wd u ≠ 0 := by
  unfold isU at h
  by_cases h1 : (0 ≤ u ∧ u ≤ 127) ∨ (1114240 ≤ u ∧ u ≤ 1114367)
  · rw [wd_1 h1]; decide
  · by_cases h2 : 128 ≤ u ∧ u ≤ 2047
    · rw [wd_2 h2]; decide
    · by_cases h3 : 2048 ≤ u ∧ u ≤ 65535
      · rw [wd_3 (by omega)]; decide
      · rw [wd_4 (by omega)]; decide
theorem hasB_unit {l : List (Int × Int)} {u : Int} (h : hasB l u = true) : wd u ≠ 0 := by
  simp only [hasB, Bool.and_eq_true, decide_eq_true_eq] at h
  exact wd_unit (good_units ((validB_iff l).1 h.1).2 h.2)
theorem st_at {ls : List (List (Int × Int))} {us : List Int} (h : stB ls us = true) {j : Nat} (h1 : j < ls.length) (h2 : j < us.length) : hasB ls[j] us[j] = true := by
  simp only [stB, Bool.and_eq_true, decide_eq_true_eq] at h
  have := List.all_eq_true.1 h.2 (ls[j], us[j]) (by
    rw [List.mem_iff_getElem]
    exact ⟨j, by rw [List.length_zip]; omega, List.getElem_zip⟩)
  exact this
/-- what is known of the unit that a piece writes -/
structure Wr (key : List (List (Int × Int))) (us : List Int) (p : Pc) (u : Int) : Prop where
  w : wd u ≠ 0
  k : p.k = 1 ∨ p.k = 2 ∨ p.k = 3
  k1 : p.k = 1 → u = p.u
  k2 : p.k = 2 → ∃ (j : Nat) (hj : j < us.length), p.y = j ∧ us[j] = u
  k3 : p.k = 3 → hasB p.tl u = true
theorem wr_any {r : Rl} {us : List Int} (h : layB r us = true) {p : Pc} (hp : p ∈ r.res) : Wr r.key us p (wrt r.key us p) := by
  simp only [layB, Bool.and_eq_true, decide_eq_true_eq] at h
  have hok := chk_ok h.1
  have hl := st_len h.2
  rcases pc_ok (hok.pc p hp) with ⟨h1, h2, _, _⟩ | ⟨h1, _, _, h4, h5⟩ | ⟨h1, _, h3, h4, h5⟩
  · have e : wrt r.key us p = p.u := by unfold wrt; rw [if_neg (by omega), if_neg (by omega)]
    rw [e]
    exact ⟨h2, .inl h1, fun _ => rfl, fun k => by omega, fun k => by omega⟩
  · obtain ⟨j, hj⟩ : ∃ j : Nat, p.y = (j : Int) := ⟨p.y.toNat, by omega⟩
    have hjk : j < r.key.length := by omega
    have hju : j < us.length := by omega
    have e : wrt r.key us p = us[j] := by
      unfold wrt
      rw [if_neg (by omega), if_pos h1, hj]
      simp [unitAt, hju]
    rw [e]
    exact ⟨hasB_unit (st_at h.2 hjk hju), .inr (.inl h1), fun k => by omega, fun _ => ⟨j, hju, hj, rfl⟩, fun k => by omega⟩
  · obtain ⟨j, hj⟩ : ∃ j : Nat, p.y = (j : Int) := ⟨p.y.toNat, by omega⟩
    have hjk : j < r.key.length := by omega
    have hju : j < us.length := by omega
    have e1 : keyAt r.key (j : Int) = r.key[j] := by simp [keyAt, hjk]
    have e2 : unitAt us (j : Int) = us[j] := by simp [unitAt, hju]
    have e : wrt r.key us p = partU r.key[j] p.tl us[j] := by
      unfold wrt
      rw [if_pos h1, hj, e1, e2]
    rw [hj, e1] at h5
    simp only [matB, Bool.and_eq_true, decide_eq_true_eq] at h5
    have hS := List.all_eq_true.1 hok.kS r.key[j] (List.getElem_mem hjk)
    have hS2 := hS
    simp only [okS, Bool.and_eq_true] at hS2
    have hP : Paired r.key[j] p.tl := ⟨hS2.1, h5.1, lenU_ok hS, h5.2⟩
    have hh := st_at h.2 hjk hju
    have hh2 := hh
    simp only [hasB, Bool.and_eq_true, decide_eq_true_eq] at hh2
    have hq := (part_some hP hh2.2).2
    have hb : hasB p.tl (partU r.key[j] p.tl us[j]) = true := by simp [hasB, h5.1, hq]
    rw [e]
    exact ⟨hasB_unit hb, .inr (.inr h1), fun k => by omega, fun k => by omega, fun _ => hb⟩
/-- what stands at a place of numbers -/
def bAt (l : List Int) (i : Nat) : Int := l[i]?.getD 0


theorem Hid.mk' {p : Prop} (h : p) : Hid p := h

theorem OwnI.sl {w : World} {base : Nat} {v : Value} {l : List Int} (h : OwnI w base v l) : ∃ a c, v = .slice a l.length c := by
  obtain ⟨a, c, e, _⟩ := h.ir
  exact ⟨a, c, e⟩

theorem ir_take {w : World} {g o N c n : Nat} {l : List Int} (h : IR w (.slice (some ⟨g, o, none⟩) N c) l) (hn : n ≤ N) : IR w (.slice (some ⟨g, o, none⟩) n c) (l.take n) := by
  obtain ⟨A, c', e, hc, hr⟩ := h
  injection e with e1 e2 e3
  subst e3
  have ht : (l.take n).length = n := by rw [List.length_take]; omega
  refine ⟨_, c, by rw [ht], by omega, ?_⟩
  rcases hr with rfl | ⟨g', o', h1, hr⟩
  · exact .inl (by simp)
  · rw [← e1] at h1
    injection h1 with h1
    injection h1 with h1 h2
    subst h1 h2
    exact .inr ⟨g, o, rfl, fun j hj => by rw [List.getElem_take]; exact hr j (by omega)⟩
theorem new_cell (W : World) (b : Nat) (x : Value) (t : TypeId) (h : W.heap.size = b) : (W.alloc (.cells #[x] t)).cell? ⟨b, 0, none⟩ = some x := by
  subst h
  simp

/-- a number's weight, by weights of rules -/
def wK (rs : List Rl) (st : St) (u : Int) : Int := wgtK rs st.ws u rs.length
theorem Fin.unit_leK {rs : List Rl} {st : St} (h : Fin rs st) {j : Nat} (hj : j < st.bk.length) {u : Int} (hu : hasU (usAt st.bk j) u) : wK rs st u ≤ wtAt st.bk j := by
  have hpos : 1 ≤ wtAt st.bk j := by
    unfold wtAt
    rw [List.getElem?_eq_getElem hj]
    exact (h.run.ok.pb _ (List.getElem_mem hj)).2.1
  unfold wK
  rcases wgtK_is (rs := rs) (ws := st.ws) (u := u) rs.length with e | ⟨i, hi, h1, e⟩
  · omega
  · rw [e]
    have h2 : hasU (fstS rs i) u := by
      unfold hasB at h1
      simp only [Bool.and_eq_true, decide_eq_true_eq] at h1
      exact h1.2
    exact h.run.sn i j (by rw [csI_len]; exact hi) hj (touch_of _ _ u (key_good h.ok hi) (h.us_good hj) h2 hu)
theorem Fin.ws_in {rs : List Rl} {st : St} (h : Fin rs st) {i : Nat} (hi : i < rs.length) : 1 ≤ at0 st.ws i ∧ at0 st.ws i ≤ 64 := h.run.ok.wb i (by rw [csI_len]; exact hi)
theorem Fin.wK_in {rs : List Rl} {st : St} (h : Fin rs st) (u : Int) : 1 ≤ wK rs st u ∧ wK rs st u ≤ 64 := by
  refine ⟨wgtK_one _, ?_⟩
  unfold wK
  rcases wgtK_is (rs := rs) (ws := st.ws) (u := u) rs.length with e | ⟨i, hi, _, e⟩
  · omega
  · rw [e]; exact (h.ws_in hi).2
theorem Fin.wK_ge {rs : List Rl} {st : St} {i : Nat} (hi : i < rs.length) {u : Int} (hu : hasB (fstS rs i) u = true) : at0 st.ws i ≤ wK rs st u := wgtK_ge hi hu
/-- what a rule wants by any measure of its pieces that is not above their weights -/
theorem Fin.gen {rs : List Rl} {st : St} (h : Fin rs st) (g : List (Int × Int) → Int) (hg : ∀ j, j < st.bk.length → g (usAt st.bk j) ≤ wtAt st.bk j) {i : Nat} (hi : i < rs.length) :
    2 - (rs[i].key.length : Int) + copN (backP rs[i]) + gs g (pbs i (backP rs[i])) i ≤ at0 st.ws i := by
  have h2 : gs g (pbs i (backP rs[i])) i = gs g st.bk i := by
    rw [gs_same h.run.rk h.run.ok.uss, gs_bkI, if_pos hi, List.getElem?_eq_getElem hi]
    rfl
  have h3 : gs g st.bk i ≤ wsum st.bk i := gs_le (fun b hb => by
    obtain ⟨j, hj, rfl⟩ := List.getElem_of_mem hb
    have := hg j hj
    rw [usAt_at hj] at this
    unfold wtAt at this
    rw [List.getElem?_eq_getElem hj] at this
    exact this) i
  have h4 := h.run.ok.asum i (by rw [csI_len]; exact hi)
  rw [csI_val hi] at h4
  have h5 := h.en i hi
  omega
/-! rising rows -/
theorem bAt_set {l : List Int} {i j : Nat} {x : Int} (h : i < l.length) : bAt (l.set i x) j = if j = i then x else bAt l j := at0_set h
end Go.Proofs
