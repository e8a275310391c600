/-
  A step makes what is left lighter; runs, step by step.
-/
import Derived.RangeFuncNested
import Derived.RangeFuncBound
import Derived.RangeFuncCalls
import Derived.RangeFuncLeaves
import Derived.Shelf.Abstract
import Derived.Shelf.RegionOpen
import Derived.WalkKit
import Derived.WalkSpells
import Derived.WalkLawsBesides
import Derived.OwnWalkIn
import Derived.TacticsInMore
import Derived.LoopNIn
import Derived.LoopIn
import Derived.BigQuiet
import Derived.RegionIn
import Derived.Deep.QuietTactic
import Derived.Deep.RegionWith
import Derived.Lib.OthersKept
import Derived.Maps.AppendAt
import Derived.Lib.SmallJoins
import Derived.Shelf.SlSortCmp.QuietGrown
import Derived.Test.YtkijbaofhodplaaDoorRc
import Derived.Test.YtkijbaofhodplaaDoorJf
import Derived.Test.YtkijbaofhodplaaDoorFx
import Derived.Test.YtkijbaofhodplaaDoorHx
import Derived.Test.YtkijbaofhodplaaDoorEk
import Derived.Test.YtkijbaofhodplaaDoorIb
namespace Go.Proofs
open Go.RowKit Go.Shelf

set_option maxRecDepth 100000
attribute [local go_sem] Oper.semAt_some
attribute [local go_sem ↓] Go.wp_at_zero Go.wp_at_succ
theorem nth_lt : ∀ (l : List (Int × Int)) (n : Int), (∀ x ∈ l, Whole x) → 0 ≤ n → n < tot l → ∃ v, nthL l n = some v ∧ hasU l v
  | [], n, _, h0, h1 => by simp [tot] at h1; omega
  | x :: r, n, hw, h0, h1 => by
    rw [tot_cons] at h1
    unfold nthL
    by_cases h : n < x.2 - x.1 + 1
    · rw [if_pos h]
      exact ⟨_, rfl, (hasU_cons _ _ _).2 (.inl ⟨by omega, by omega⟩)⟩
    · rw [if_neg h]
      obtain ⟨v, h2, h3⟩ := nth_lt r (n - (x.2 - x.1 + 1)) (fun y hy => hw y (List.mem_cons_of_mem _ hy)) (by omega) (by omega)
      exact ⟨v, h2, (hasU_cons _ _ _).2 (.inr h3)⟩
theorem place_lt {l : List (Int × Int)} (h : Good l) {u : Int} (hu : hasU l u) : placeU l u < tot l := by
  have h1 := (nth_place h hu).1
  by_cases e : tot l ≤ placeU l u
  · rw [nth_over l _ h.1 e] at h1
    cases h1
  · omega
structure Paired (f t : List (Int × Int)) : Prop where
  vf : validB f = true
  vt : validB t = true
  p : 0 < lenU f
  e : lenU f = lenU t
theorem part_some {f t : List (Int × Int)} (h : Paired f t) {u : Int} (hu : hasU f u) : nthL t (placeU f u) = some (partU f t u) ∧ hasU t (partU f t u) := by
  have hf := (validB_iff f).1 h.vf
  have ht := (validB_iff t).1 h.vt
  have hp := (nth_place hf.2 hu).2
  have h1 := place_lt hf.2 hu
  have e := h.e
  unfold lenU at e
  rw [if_pos h.vf, if_pos h.vt] at e
  obtain ⟨v, h2, h3⟩ := nth_lt t (placeU f u) ht.2.1 hp (by omega)
  have hh : hasB f u = true := by simp [hasB, h.vf, hu]
  have : partU f t u = v := by
    unfold partU
    rw [if_pos hh]
    unfold nthU
    rw [if_neg (by simp [h.vt]; omega), h2]
    rfl
  rw [this]
  exact ⟨h2, h3⟩
theorem wd_unit {u : Int} (h : isU u) : wd u ≠ 0 := by
  unfold isU at h
  by_cases h1 : (0 ≤ u ∧ u ≤ 127) ∨ (1114240 ≤ u ∧ u ≤ 1114367)
  · rw [wd_1 h1]; decide
  · by_cases h2 : 128 ≤ u ∧ u ≤ 2047
    · rw [wd_2 h2]; decide
    · by_cases h3 : 2048 ≤ u ∧ u ≤ 65535
      · rw [wd_3 (by omega)]; decide
      · rw [wd_4 (by omega)]; decide
theorem hasB_unit {l : List (Int × Int)} {u : Int} (h : hasB l u = true) : wd u ≠ 0 := by
  simp only [hasB, Bool.and_eq_true, decide_eq_true_eq] at h
  exact wd_unit (good_units ((validB_iff l).1 h.1).2 h.2)
theorem st_at {ls : List (List (Int × Int))} {us : List Int} (h : stB ls us = true) {j : Nat} (h1 : j < ls.length) (h2 : j < us.length) : hasB ls[j] us[j] = true := by
  simp only [stB, Bool.and_eq_true, decide_eq_true_eq] at h
  have := List.all_eq_true.1 h.2 (ls[j], us[j]) (by
    rw [List.mem_iff_getElem]
    exact ⟨j, by rw [List.length_zip]; omega, List.getElem_zip⟩)
  exact this
/-- what is known of the unit that a piece writes -/
structure Wr (key : List (List (Int × Int))) (us : List Int) (p : Pc) (u : Int) : Prop where
  w : wd u ≠ 0
  k : p.k = 1 ∨ p.k = 2 ∨ p.k = 3
  k1 : p.k = 1 → u = p.u
  k2 : p.k = 2 → ∃ (j : Nat) (hj : j < us.length), p.y = j ∧ us[j] = u
  k3 : p.k = 3 → hasB p.tl u = true
theorem wr_any {r : Rl} {us : List Int} (h : layB r us = true) {p : Pc} (hp : p ∈ r.res) : Wr r.key us p (wrt r.key us p) := by
  simp only [layB, Bool.and_eq_true, decide_eq_true_eq] at h
  have hok := chk_ok h.1
  have hl := st_len h.2
  rcases pc_ok (hok.pc p hp) with ⟨h1, h2, _, _⟩ | ⟨h1, _, _, h4, h5⟩ | ⟨h1, _, h3, h4, h5⟩
  · have e : wrt r.key us p = p.u := by unfold wrt; rw [if_neg (by omega), if_neg (by omega)]
    rw [e]
    exact ⟨h2, .inl h1, fun _ => rfl, fun k => by omega, fun k => by omega⟩
  · obtain ⟨j, hj⟩ : ∃ j : Nat, p.y = (j : Int) := ⟨p.y.toNat, by omega⟩
    have hjk : j < r.key.length := by omega
    have hju : j < us.length := by omega
    have e : wrt r.key us p = us[j] := by
      unfold wrt
      rw [if_neg (by omega), if_pos h1, hj]
      simp [unitAt, hju]
    rw [e]
    exact ⟨hasB_unit (st_at h.2 hjk hju), .inr (.inl h1), fun k => by omega, fun _ => ⟨j, hju, hj, rfl⟩, fun k => by omega⟩
  · obtain ⟨j, hj⟩ : ∃ j : Nat, p.y = (j : Int) := ⟨p.y.toNat, by omega⟩
    have hjk : j < r.key.length := by omega
    have hju : j < us.length := by omega
    have e1 : keyAt r.key (j : Int) = r.key[j] := by simp [keyAt, hjk]
    have e2 : unitAt us (j : Int) = us[j] := by simp [unitAt, hju]
    have e : wrt r.key us p = partU r.key[j] p.tl us[j] := by
      unfold wrt
      rw [if_pos h1, hj, e1, e2]
    rw [hj, e1] at h5
    simp only [matB, Bool.and_eq_true, decide_eq_true_eq] at h5
    have hS := List.all_eq_true.1 hok.kS r.key[j] (List.getElem_mem hjk)
    have hS2 := hS
    simp only [okS, Bool.and_eq_true] at hS2
    have hP : Paired r.key[j] p.tl := ⟨hS2.1, h5.1, lenU_ok hS, h5.2⟩
    have hh := st_at h.2 hjk hju
    have hh2 := hh
    simp only [hasB, Bool.and_eq_true, decide_eq_true_eq] at hh2
    have hq := (part_some hP hh2.2).2
    have hb : hasB p.tl (partU r.key[j] p.tl us[j]) = true := by simp [hasB, h5.1, hq]
    rw [e]
    exact ⟨hasB_unit hb, .inr (.inr h1), fun k => by omega, fun k => by omega, fun _ => hb⟩
end Go.Proofs
namespace Go.Proofs
open Go.RowKit Go.Shelf

set_option maxRecDepth 100000
attribute [local go_sem] Oper.semAt_some
attribute [local go_sem ↓] Go.wp_at_zero Go.wp_at_succ

/-- what some numbers weigh -/
def wS (rs : List Rl) (st : St) : List Int → Int
  | [] => 0
  | u :: l => wK rs st u + wS rs st l
theorem wS_append (rs : List Rl) (st : St) (l k : List Int) : wS rs st (l ++ k) = wS rs st l + wS rs st k := by
  induction l with
  | nil => simp [wS]
  | cons u l ih => simp only [List.cons_append, wS, ih]; omega
open Classical in
/-- the greatest weight of some numbers -/
noncomputable def gmx (rs : List Rl) (st : St) (P : Int → Prop) : Nat → Int
  | 0 => 0
  | n + 1 => if ∃ u, P u ∧ wK rs st u = ((n + 1 : Nat) : Int) then ((n + 1 : Nat) : Int) else gmx rs st P n
theorem gmx_ge {rs : List Rl} {st : St} {P : Int → Prop} {u : Int} (hu : P u) : ∀ n : Nat, wK rs st u ≤ n → 1 ≤ wK rs st u → wK rs st u ≤ gmx rs st P n
  | 0, h, h1 => by omega
  | n + 1, h, h1 => by
    rw [gmx]
    split
    · exact h
    · rename_i hn
      refine gmx_ge hu n ?_ h1
      by_cases e : wK rs st u = ((n + 1 : Nat) : Int)
      · exact absurd ⟨u, hu, e⟩ hn
      · omega
theorem gmx_is {rs : List Rl} {st : St} {P : Int → Prop} : ∀ n : Nat, gmx rs st P n = 0 ∨ ∃ u, P u ∧ wK rs st u = gmx rs st P n
  | 0 => .inl rfl
  | n + 1 => by
    rw [gmx]
    split
    · rename_i h
      obtain ⟨u, h1, h2⟩ := h
      exact .inr ⟨u, h1, h2⟩
    · exact gmx_is n
noncomputable def gG (rs : List Rl) (st : St) (s : List (Int × Int)) : Int := gmx rs st (hasU s) 64
theorem gG_ge {rs : List Rl} {st : St} (h : Fin rs st) {s : List (Int × Int)} {u : Int} (hu : hasU s u) : wK rs st u ≤ gG rs st s := gmx_ge hu 64 (h.wK_in u).2 (h.wK_in u).1
theorem gG_le {rs : List Rl} {st : St} (h : Fin rs st) {j : Nat} (hj : j < st.bk.length) : gG rs st (usAt st.bk j) ≤ wtAt st.bk j := by
  have hpos : 1 ≤ wtAt st.bk j := by
    unfold wtAt
    rw [List.getElem?_eq_getElem hj]
    exact (h.run.ok.pb _ (List.getElem_mem hj)).2.1
  rcases gmx_is (rs := rs) (st := st) (P := hasU (usAt st.bk j)) 64 with e | ⟨u, h1, h2⟩
  · unfold gG; omega
  · unfold gG
    rw [← h2]
    exact h.unit_leK hj h1
/-! copies -/
def cys : List Pc → List Nat
  | [] => []
  | p :: l => if p.k = 2 then p.y.toNat :: cys l else cys l
theorem cys_len (l : List Pc) : ((cys l).length : Int) = copN l := by
  induction l with
  | nil => rfl
  | cons p l ih =>
    simp only [cys, copN]
    split
    · simp only [List.length_cons]; omega
    · omega
theorem cys_mem : ∀ {l : List Pc} {y : Nat}, y ∈ cys l → ∃ p ∈ l, p.k = 2 ∧ p.y.toNat = y
  | p :: l, y, h => by
    simp only [cys] at h
    split at h
    · rename_i hk
      rcases List.mem_cons.1 h with rfl | h
      · exact ⟨p, List.mem_cons_self, hk, rfl⟩
      · obtain ⟨q, h1, h2⟩ := cys_mem h
        exact ⟨q, List.mem_cons_of_mem _ h1, h2⟩
    · obtain ⟨q, h1, h2⟩ := cys_mem h
      exact ⟨q, List.mem_cons_of_mem _ h1, h2⟩
theorem cpW_no : ∀ (l : List Pc) (c : List Bool), c.length = 8 → (∀ p ∈ l, p.k = 2 → p.y.toNat < 8) → cpW c l = false → (cys l).Nodup ∧ ∀ y ∈ cys l, (c[y]?).getD false = false
  | [], c, _, _, _ => ⟨List.nodup_nil, by simp [cys]⟩
  | p :: l, c, hc, h8, h => by
    rw [cpW] at h
    rw [cys]
    by_cases hk : p.k = 2
    · rw [if_neg (by omega)] at h
      rw [if_pos hk]
      have hy8 := h8 p List.mem_cons_self hk
      by_cases hy : (c[p.y.toNat]?).getD false = true
      · rw [if_pos hy] at h; cases h
      · rw [if_neg hy] at h
        obtain ⟨h1, h2⟩ := cpW_no l (c.set p.y.toNat true) (by simp [hc]) (fun q hq => h8 q (List.mem_cons_of_mem _ hq)) h
        have hne : ∀ z ∈ cys l, z ≠ p.y.toNat ∧ (c[z]?).getD false = false := fun z hz => by
          have := h2 z hz
          rw [List.getElem?_set] at this
          by_cases e : p.y.toNat = z
          · rw [if_pos e, if_pos (by omega)] at this
            simp at this
          · rw [if_neg e] at this
            exact ⟨fun e2 => e e2.symm, this⟩
        refine ⟨List.nodup_cons.2 ⟨fun hm => (hne _ hm).1 rfl, h1⟩, fun y hy' => ?_⟩
        rcases List.mem_cons.1 hy' with rfl | hy'
        · simpa using hy
        · exact (hne y hy').2
    · rw [if_pos hk] at h
      rw [if_neg hk]
      exact cpW_no l c hc (fun q hq => h8 q (List.mem_cons_of_mem _ hq)) h
/-! sums over places -/
def sF (F : Nat → Int) : List Nat → Int
  | [] => 0
  | y :: l => F y + sF F l
def sR (F : Nat → Int) : Nat → Int
  | 0 => 0
  | n + 1 => sR F n + F n
theorem sF_same {F G : Nat → Int} : ∀ (l : List Nat), (∀ y ∈ l, F y = G y) → sF F l = sF G l
  | [], _ => rfl
  | y :: l, h => by
    rw [sF, sF, h y List.mem_cons_self, sF_same l fun z hz => h z (List.mem_cons_of_mem _ hz)]
theorem sR_nonneg {F : Nat → Int} (h : ∀ j, 0 ≤ F j) : ∀ n, 0 ≤ sR F n
  | 0 => Int.le_refl _
  | n + 1 => by have := sR_nonneg h n; have := h n; rw [sR]; omega
theorem sR_without (F : Nat → Int) (y : Nat) : ∀ n, sR (fun j => if j = y then 0 else F j) n = sR F n - if y < n then F y else 0
  | 0 => by simp [sR]
  | n + 1 => by
    rw [sR, sR, sR_without F y n]
    by_cases e : n = y
    · subst e
      rw [if_pos rfl, if_neg (by omega), if_pos (by omega)]
      omega
    · rw [if_neg e]
      by_cases h : y < n
      · rw [if_pos h, if_pos (by omega)]; omega
      · rw [if_neg h, if_neg (by omega)]; omega
theorem nodup_sum {n : Nat} : ∀ (l : List Nat) (F : Nat → Int), (∀ j, 0 ≤ F j) → l.Nodup → (∀ y ∈ l, y < n) → sF F l ≤ sR F n
  | [], F, h, _, _ => sR_nonneg h n
  | y :: l, F, h, hn, hy => by
    have hn2 := List.nodup_cons.1 hn
    have ih := nodup_sum l (fun j => if j = y then 0 else F j) (fun j => by by_cases e : j = y <;> simp [e, h]) hn2.2 (fun z hz => hy z (List.mem_cons_of_mem _ hz))
    rw [sR_without, if_pos (hy y List.mem_cons_self)] at ih
    rw [sF, sF_same l (G := fun j => if j = y then 0 else F j) fun z hz => by
      have : z ≠ y := fun e => hn2.1 (e ▸ hz)
      simp [this]]
    omega
theorem sR_shift (F : Nat → Int) : ∀ n, sR F (n + 1) = F 0 + sR (fun j => F (j + 1)) n
  | 0 => by simp [sR]
  | n + 1 => by rw [sR, sR_shift F n, sR]; omega
theorem wS_sR (rs : List Rl) (st : St) : ∀ us : List Int, wS rs st us = sR (fun j => wK rs st (us[j]?.getD 0)) us.length
  | [] => rfl
  | u :: us => by
    rw [List.length_cons, sR_shift, wS, wS_sR rs st us]
    simp
theorem sR_minus (F : Nat → Int) : ∀ n, sR (fun j => if j = 0 then 0 else F j - 1) (n + 1) = sR F (n + 1) - F 0 - n
  | 0 => by simp [sR]
  | n + 1 => by
    have e : sR F (n + 1 + 1) = sR F (n + 1) + F (n + 1) := rfl
    rw [sR, sR_minus F n, if_neg (by omega), e]
    omega
/-- what is put back, by kinds -/
theorem back_sum {rs : List Rl} {st : St} (n : Nat) (us : List Int) (f : Pc → Int) (G : List (Int × Int) → Int) : ∀ l : List Pc, (∀ p ∈ l, (p.k ≠ 2 → wK rs st (f p) ≤ G (mayB p)) ∧ (p.k = 2 → f p = us[p.y.toNat]?.getD 0)) → wS rs st (l.map f) ≤ gs G (pbs n l) n + sF (fun j => wK rs st (us[j]?.getD 0)) (cys l)
  | [], _ => by simp [wS, pbs, gs, cys, sF]
  | p :: l, h => by
    have ih := back_sum n us f G l fun q hq => h q (List.mem_cons_of_mem _ hq)
    have hp := h p List.mem_cons_self
    rw [List.map_cons, wS]
    simp only [pbs, cys]
    by_cases hk : p.k = 2
    · rw [if_pos hk, if_pos hk, sF, hp.2 hk]
      omega
    · rw [if_neg hk, if_neg hk]
      have := hp.1 hk
      simp only [gs, if_pos]
      omega
theorem sF_minus (F : Nat → Int) : ∀ l : List Nat, (∀ y ∈ l, y ≠ 0) → sF (fun j => if j = 0 then 0 else F j - 1) l = sF F l - l.length
  | [], _ => by simp [sF]
  | y :: l, h => by
    rw [sF, sF, sF_minus F l fun z hz => h z (List.mem_cons_of_mem _ hz), if_neg (h y List.mem_cons_self), List.length_cons]
    omega
/-- A STEP MAKES WHAT IS LEFT LIGHTER: what is put back weighs less than what was taken -/
theorem Fin.light {rs : List Rl} {st : St} (h : Fin rs st) {i : Nat} (hi : i < rs.length) {us : List Int} (hl : layB rs[i] us = true) : wS rs st ((backP rs[i]).map (wrt rs[i].key us)) + 1 ≤ wS rs st us := by
  have hO := h.ok _ (List.getElem_mem hi)
  have hst : stB rs[i].key us = true := by simp only [layB, Bool.and_eq_true] at hl; exact hl.2
  have hlen := st_len hst
  have hk0 := hO.k0
  have hw := fun p (hp : p ∈ backP rs[i]) => wr_any hl (List.mem_of_mem_drop hp)
  have h1 := back_sum (rs := rs) (st := st) i us (wrt rs[i].key us) (gG rs st) (backP rs[i]) fun p hp => by
    have w := hw p hp
    refine ⟨fun h2 => gG_ge h ?_, fun h2 => ?_⟩
    · rcases w.k with k | k | k
      · rw [w.k1 k, mayB, if_neg (by omega)]
        exact ⟨(p.u, p.u), by simp, Int.le_refl _, Int.le_refl _⟩
      · exact absurd k h2
      · rw [mayB, if_pos k]
        have := w.k3 k
        simp only [hasB, Bool.and_eq_true, decide_eq_true_eq] at this
        exact this.2
    · obtain ⟨j, hj, h3, h4⟩ := w.k2 h2
      rw [h3, ← h4]
      simp [hj]
  have h2 := h.gen (gG rs st) (fun j hj => gG_le h hj) hi
  have hcp := h.cp _ (List.getElem_mem hi)
  have hy : ∀ p ∈ backP rs[i], p.k = 2 → p.y.toNat < us.length := fun p hp k => by
    obtain ⟨j, hj, h3, _⟩ := (hw p hp).k2 k
    omega
  have hn := cpW_no (backP rs[i]) _ (by simp) (fun p hp k => by have := hy p hp k; have := hO.k8; omega) hcp
  have hne : ∀ y ∈ cys (backP rs[i]), y ≠ 0 := fun y hy e => by
    have := hn.2 y hy
    subst e
    simp at this
  have hlt : ∀ y ∈ cys (backP rs[i]), y < us.length := fun y hy' => by
    obtain ⟨p, hp, k, e⟩ := cys_mem hy'
    rw [← e]
    exact hy p hp k
  have h3 := nodup_sum (n := us.length) (cys (backP rs[i])) (fun j => if j = 0 then 0 else wK rs st (us[j]?.getD 0) - 1) (fun j => by
    have := (h.wK_in (us[j]?.getD 0)).1
    by_cases e : j = 0
    · simp [e]
    · simp only [e, if_false]; omega) hn.1 hlt
  rw [sF_minus _ _ hne, cys_len] at h3
  obtain ⟨n, hn'⟩ : ∃ n, us.length = n + 1 := ⟨us.length - 1, by omega⟩
  rw [hn', sR_minus (fun j => wK rs st (us[j]?.getD 0)) n, ← hn', ← wS_sR] at h3
  have h4 : at0 st.ws i ≤ wK rs st (us[0]?.getD 0) := by
    refine Fin.wK_ge hi ?_
    have := st_at hst hk0 (by omega)
    rw [fstS_at hi, show keyAt rs[i].key 0 = rs[i].key[0] by simp [keyAt, hk0]]
    rw [List.getElem?_eq_getElem (by omega)]
    exact this
  omega
end Go.Proofs
namespace Go.Proofs
open Go.RowKit Go.Shelf

set_option maxRecDepth 100000
attribute [local go_sem] Oper.semAt_some
attribute [local go_sem ↓] Go.wp_at_zero Go.wp_at_succ

/-- a step of a run: the rule, what was done, what was left, how much it took, laid down, put back -/
structure Stp where
  (r d l t a b : Int)
/-- what is left behind a step -/
def stepL (rs : List Rl) (l : List Int) (x : Stp) : List Int :=
  if x.r < 0 then l.drop 1 else match rs[x.r.toNat]? with
  | none => []
  | some r => (backP r).map (wrt r.key (l.take x.t.toNat)) ++ l.drop x.t.toNat
/-- a step that a pass may take -/
def OkStp (rs : List Rl) (l : List Int) (x : Stp) : Prop :=
  (x.r = -1 ∧ x.t = 1 ∧ x.a = 1 ∧ 0 < l.length) ∨ ∃ (i : Nat) (hi : i < rs.length), x.r = i ∧ x.t = rs[i].key.length ∧ rs[i].key.length ≤ l.length ∧ layB rs[i] (l.take rs[i].key.length) = true ∧ x.a = rs[i].cu
/-- all of them are units -/
def AllU (l : List Int) : Prop := ∀ u ∈ l, wd u ≠ 0
theorem AllU.append {l k : List Int} (h : AllU l) (h2 : AllU k) : AllU (l ++ k) := fun u hu => (List.mem_append.1 hu).elim (h u) (h2 u)
theorem stepL_rule {rs : List Rl} {l : List Int} {x : Stp} {i : Nat} (hi : i < rs.length) (h1 : x.r = i) (h2 : x.t = rs[i].key.length) : stepL rs l x = (backP rs[i]).map (wrt rs[i].key (l.take rs[i].key.length)) ++ l.drop rs[i].key.length := by
  unfold stepL
  rw [if_neg (by omega), h1, h2]
  simp [hi]
theorem back_units {r : Rl} {us : List Int} (hl : layB r us = true) : AllU ((backP r).map (wrt r.key us)) := fun u hu => by
  obtain ⟨p, hp, rfl⟩ := List.mem_map.1 hu
  exact (wr_any hl (List.mem_of_mem_drop hp)).w
theorem OkStp.light {rs : List Rl} {st : St} (h : Fin rs st) {l : List Int} {x : Stp} (hx : OkStp rs l x) : wS rs st (stepL rs l x) + 1 ≤ wS rs st l := by
  rcases hx with ⟨h1, h2, h3, h4⟩ | ⟨i, hi, h1, h2, h3, h4, h5⟩
  · unfold stepL
    rw [if_pos (by omega)]
    match l, h4 with
    | u :: l, _ =>
      rw [List.drop_one, List.tail_cons, wS]
      have := (h.wK_in u).1
      omega
  · rw [stepL_rule hi h1 h2, wS_append]
    have := h.light hi h4
    have e : wS rs st l = wS rs st (l.take rs[i].key.length) + wS rs st (l.drop rs[i].key.length) := by rw [← wS_append, List.take_append_drop]
    omega
theorem OkStp.units {rs : List Rl} {l : List Int} {x : Stp} (hx : OkStp rs l x) (hu : AllU l) : AllU (stepL rs l x) := by
  rcases hx with ⟨h1, h2, h3, h4⟩ | ⟨i, hi, h1, h2, h3, h4, h5⟩
  · unfold stepL
    rw [if_pos (by omega)]
    exact fun u h => hu u (List.mem_of_mem_drop h)
  · rw [stepL_rule hi h1 h2]
    exact (back_units h4).append fun u h => hu u (List.mem_of_mem_drop h)
/-- what is left behind some steps -/
def lft (rs : List Rl) (l : List Int) (xs : List Stp) : List Int := xs.foldl (stepL rs) l
theorem lft_snoc (rs : List Rl) (l : List Int) (xs : List Stp) (x : Stp) : lft rs l (xs ++ [x]) = stepL rs (lft rs l xs) x := by simp [lft]
/-- steps of a run -/
def GoOk (rs : List Rl) (l : List Int) (xs : List Stp) : Prop := ∀ (i : Nat) (h : i < xs.length), OkStp rs (lft rs l (xs.take i)) xs[i]
theorem GoOk.nil (rs : List Rl) (l : List Int) : GoOk rs l [] := fun i h => by simp at h
theorem GoOk.snoc {rs : List Rl} {l : List Int} {xs : List Stp} {x : Stp} (h : GoOk rs l xs) (hx : OkStp rs (lft rs l xs) x) : GoOk rs l (xs ++ [x]) := fun i hi => by
  by_cases e : i < xs.length
  · have := h i e
    rw [List.take_append_of_le_length (by omega), List.getElem_append_left e]
    exact this
  · have e2 : i = xs.length := by rw [List.length_append, List.length_singleton] at hi; omega
    subst e2
    simpa using hx
theorem lft_succ (rs : List Rl) (l : List Int) (xs : List Stp) {i : Nat} (h : i < xs.length) : lft rs l (xs.take (i + 1)) = stepL rs (lft rs l (xs.take i)) xs[i] := by
  rw [List.take_add_one, List.getElem?_eq_getElem h]
  exact lft_snoc rs l _ _
theorem GoOk.weight {rs : List Rl} {st : St} (hF : Fin rs st) {l : List Int} {xs : List Stp} (h : GoOk rs l xs) : ∀ i, i ≤ xs.length → (i : Int) + wS rs st (lft rs l (xs.take i)) ≤ wS rs st l
  | 0, _ => by simp [lft]
  | i + 1, hi => by
    have ih := h.weight hF i (by omega)
    have := (h i (by omega)).light hF
    rw [lft_succ rs l xs (by omega)]
    omega
theorem GoOk.units {rs : List Rl} {l : List Int} {xs : List Stp} (h : GoOk rs l xs) (hu : AllU l) : ∀ i, i ≤ xs.length → AllU (lft rs l (xs.take i))
  | 0, _ => by simpa [lft] using hu
  | i + 1, hi => by
    rw [lft_succ rs l xs (by omega)]
    exact (h i (by omega)).units (h.units hu i (by omega))
theorem wS_len {rs : List Rl} {st : St} (h : Fin rs st) : ∀ l : List Int, (l.length : Int) ≤ wS rs st l ∧ wS rs st l ≤ 64 * l.length
  | [] => by simp [wS]
  | u :: l => by
    have := wS_len h l
    have := h.wK_in u
    rw [wS, List.length_cons]
    omega
/-- how much some steps laid down -/
def sumA : List Stp → Int
  | [] => 0
  | x :: l => x.a + sumA l
theorem sumA_snoc (l : List Stp) (x : Stp) : sumA (l ++ [x]) = sumA l + x.a := by
  induction l with
  | nil => simp [sumA]
  | cons y l ih => simp only [List.cons_append, sumA, ih]; omega
theorem nextS_ok {rs : List Rl} (hc : ∀ r ∈ rs, chk r = 0) (d : List Int) {l : List Int} (hl : 0 < l.length) :
    (nxtK rs d l rs.length = -1 ∧ OkStp rs l ⟨-1, d.length, l.length, 1, 1, 0⟩) ∨ ∃ (i : Nat) (hi : i < rs.length), nxtK rs d l rs.length = i ∧ rs[i].key.length ≤ l.length ∧ layB rs[i] (l.take rs[i].key.length) = true ∧ OkStp rs l ⟨i, d.length, l.length, rs[i].key.length, rs[i].cu, (backP rs[i]).length⟩ := by
  rcases nxtK_is rs d l rs.length (Nat.le_refl _) with h | ⟨i, hi, _, h1, h2⟩
  · exact .inl ⟨h, .inl ⟨rfl, rfl, rfl, hl⟩⟩
  · have h3 := stF_key h2
    have h4 : layB rs[i] (l.take rs[i].key.length) = true := by
      simp only [layB, Bool.and_eq_true, decide_eq_true_eq]
      exact ⟨hc _ (List.getElem_mem hi), h3.2⟩
    exact .inr ⟨i, hi, h1, h3.1, h4, .inr ⟨i, hi, rfl, rfl, h3.1, h4, rfl⟩⟩
end Go.Proofs
