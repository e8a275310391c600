/-
  Several texts in one (Id Je Ia Ib Ie Pg).
-/
import Derived.RangeFuncNested
import Derived.RangeFuncBound
import Derived.RangeFuncCalls
import Derived.RangeFuncLeaves
import Derived.Shelf.Abstract
import Derived.Shelf.RegionOpen
import Derived.WalkKit
import Derived.WalkSpells
import Derived.WalkLawsBesides
import Derived.OwnWalkIn
import Derived.TacticsInMore
import Derived.LoopNIn
import Derived.LoopIn
import Derived.BigQuiet
import Derived.RegionIn
import Derived.Deep.QuietTactic
import Derived.Deep.RegionWith
import Derived.Lib.OthersKept
import Derived.Maps.AppendAt
import Derived.Lib.SmallJoins
import Derived.Shelf.SlSortCmp.QuietGrown
import Derived.Test.YtpopemkhhdekcaaDoorMgeq
import Derived.Test.YtpopemkhhdekcaaDoorMgcq
import Derived.Test.YtpopemkhhdekcaaDoorMgaq
import Derived.Test.YtpopemkhhdekcaaDoorWeq
import Derived.Test.YtpopemkhhdekcaaDoorJfq
import Derived.Test.YtpopemkhhdekcaaDoorRcq
import Derived.Test.YtpopemkhhdekcaaDoorWcq
import Derived.Test.YtpopemkhhdekcaaDoorMaq
import Derived.Deep.DeepCutAuto
import Derived.Deep.CutBlock
namespace Go.Proofs
open Go.RowKit Go.Shelf

set_option maxRecDepth 100000
attribute [local go_sem] Oper.semAt_some
attribute [local go_sem ↓] Go.wp_at_zero Go.wp_at_succ

/-- what some numbers weigh -/
def wS (rs : List Rl) (st : St) : List Int → Int
  | [] => 0
  | u :: l => wK rs st u + wS rs st l
theorem wS_append (rs : List Rl) (st : St) (l k : List Int) : wS rs st (l ++ k) = wS rs st l + wS rs st k := by
  induction l with
  | nil => simp [wS]
  | cons u l ih => simp only [List.cons_append, wS, ih]; omega
open Classical in
/-- the greatest weight of some numbers -/
noncomputable def gmx (rs : List Rl) (st : St) (P : Int → Prop) : Nat → Int
  | 0 => 0
  | n + 1 => if ∃ u, P u ∧ wK rs st u = ((n + 1 : Nat) : Int) then ((n + 1 : Nat) : Int) else gmx rs st P n
theorem gmx_ge {rs : List Rl} {st : St} {P : Int → Prop} {u : Int} (hu : P u) : ∀ n : Nat, wK rs st u ≤ n → 1 ≤ wK rs st u → wK rs st u ≤ gmx rs st P n
  | 0, h, h1 => by omega
  | n + 1, h, h1 => by
    rw [gmx]
    split
    · exact h
    · rename_i hn
      refine gmx_ge hu n ?_ h1
      by_cases e : wK rs st u = ((n + 1 : Nat) : Int)
      · exact absurd ⟨u, hu, e⟩ hn
      · omega
theorem gmx_is {rs : List Rl} {st : St} {P : Int → Prop} : ∀ n : Nat, gmx rs st P n = 0 ∨ ∃ u, P u ∧ wK rs st u = gmx rs st P n
  | 0 => .inl rfl
  | n + 1 => by
    rw [gmx]
    split
    · rename_i h
      obtain ⟨u, h1, h2⟩ := h
      exact .inr ⟨u, h1, h2⟩
    · exact gmx_is n
noncomputable def gG (rs : List Rl) (st : St) (s : List (Int × Int)) : Int := gmx rs st (hasU s) 64
theorem gG_ge {rs : List Rl} {st : St} (h : Fin rs st) {s : List (Int × Int)} {u : Int} (hu : hasU s u) : wK rs st u ≤ gG rs st s := gmx_ge hu 64 (h.wK_in u).2 (h.wK_in u).1
theorem gG_le {rs : List Rl} {st : St} (h : Fin rs st) {j : Nat} (hj : j < st.bk.length) : gG rs st (usAt st.bk j) ≤ wtAt st.bk j := by
  have hpos : 1 ≤ wtAt st.bk j := by
    unfold wtAt
    rw [List.getElem?_eq_getElem hj]
    exact (h.run.ok.pb _ (List.getElem_mem hj)).2.1
  rcases gmx_is (rs := rs) (st := st) (P := hasU (usAt st.bk j)) 64 with e | ⟨u, h1, h2⟩
  · unfold gG; omega
  · unfold gG
    rw [← h2]
    exact h.unit_leK hj h1
/-! copies -/
def cys : List Pc → List Nat
  | [] => []
  | p :: l => if p.k = 2 then p.y.toNat :: cys l else cys l
theorem cys_len (l : List Pc) : ((cys l).length : Int) = copN l := by
  induction l with
  | nil => rfl
  | cons p l ih =>
    simp only [cys, copN]
    split
    · simp only [List.length_cons]; omega
    · omega
theorem cys_mem : ∀ {l : List Pc} {y : Nat}, y ∈ cys l → ∃ p ∈ l, p.k = 2 ∧ p.y.toNat = y
  | p :: l, y, h => by
    simp only [cys] at h
    split at h
    · rename_i hk
      rcases List.mem_cons.1 h with rfl | h
      · exact ⟨p, List.mem_cons_self, hk, rfl⟩
      · obtain ⟨q, h1, h2⟩ := cys_mem h
        exact ⟨q, List.mem_cons_of_mem _ h1, h2⟩
    · obtain ⟨q, h1, h2⟩ := cys_mem h
      exact ⟨q, List.mem_cons_of_mem _ h1, h2⟩
theorem cpW_no : ∀ (l : List Pc) (c : List Bool), c.length = 8 → (∀ p ∈ l, p.k = 2 → p.y.toNat < 8) → cpW c l = false → (cys l).Nodup ∧ ∀ y ∈ cys l, (c[y]?).getD false = false
  | [], c, _, _, _ => ⟨List.nodup_nil, by simp [cys]⟩
  | p :: l, c, hc, h8, h => by
    rw [cpW] at h
    rw [cys]
    by_cases hk : p.k = 2
    · rw [if_neg (by omega)] at h
      rw [if_pos hk]
      have hy8 := h8 p List.mem_cons_self hk
      by_cases hy : (c[p.y.toNat]?).getD false = true
      · rw [if_pos hy] at h; cases h
      · rw [if_neg hy] at h
        obtain ⟨h1, h2⟩ := cpW_no l (c.set p.y.toNat true) (by simp [hc]) (fun q hq => h8 q (List.mem_cons_of_mem _ hq)) h
        have hne : ∀ z ∈ cys l, z ≠ p.y.toNat ∧ (c[z]?).getD false = false := fun z hz => by
          have := h2 z hz
          rw [List.getElem?_set] at this
          by_cases e : p.y.toNat = z
          · rw [if_pos e, if_pos (by omega)] at this
            simp at this
          · rw [if_neg e] at this
            exact ⟨fun e2 => e e2.symm, this⟩
        refine ⟨List.nodup_cons.2 ⟨fun hm => (hne _ hm).1 rfl, h1⟩, fun y hy' => ?_⟩
        rcases List.mem_cons.1 hy' with rfl | hy'
        · simpa using hy
        · exact (hne y hy').2
    · rw [if_pos hk] at h
      rw [if_neg hk]
      exact cpW_no l c hc (fun q hq => h8 q (List.mem_cons_of_mem _ hq)) h
/-! sums over places -/
def sF (F : Nat → Int) : List Nat → Int
  | [] => 0
  | y :: l => F y + sF F l
def sR (F : Nat → Int) : Nat → Int
  | 0 => 0
  | n + 1 => sR F n + F n
theorem sF_same {F G : Nat → Int} : ∀ (l : List Nat), (∀ y ∈ l, F y = G y) → sF F l = sF G l
  | [], _ => rfl
  | y :: l, h => by
    rw [sF, sF, h y List.mem_cons_self, sF_same l fun z hz => h z (List.mem_cons_of_mem _ hz)]
theorem sR_nonneg {F : Nat → Int} (h : ∀ j, 0 ≤ F j) : ∀ n, 0 ≤ sR F n
  | 0 => Int.le_refl _
  | n + 1 => by have := sR_nonneg h n; have := h n; rw [sR]; omega
theorem sR_without (F : Nat → Int) (y : Nat) : ∀ n, sR (fun j => if j = y then 0 else F j) n = sR F n - if y < n then F y else 0
  | 0 => by simp [sR]
  | n + 1 => by
    rw [sR, sR, sR_without F y n]
    by_cases e : n = y
    · subst e
      rw [if_pos rfl, if_neg (by omega), if_pos (by omega)]
      omega
    · rw [if_neg e]
      by_cases h : y < n
      · rw [if_pos h, if_pos (by omega)]; omega
      · rw [if_neg h, if_neg (by omega)]; omega
theorem nodup_sum {n : Nat} : ∀ (l : List Nat) (F : Nat → Int), (∀ j, 0 ≤ F j) → l.Nodup → (∀ y ∈ l, y < n) → sF F l ≤ sR F n
  | [], F, h, _, _ => sR_nonneg h n
  | y :: l, F, h, hn, hy => by
    have hn2 := List.nodup_cons.1 hn
    have ih := nodup_sum l (fun j => if j = y then 0 else F j) (fun j => by by_cases e : j = y <;> simp [e, h]) hn2.2 (fun z hz => hy z (List.mem_cons_of_mem _ hz))
    rw [sR_without, if_pos (hy y List.mem_cons_self)] at ih
    rw [sF, sF_same l (G := fun j => if j = y then 0 else F j) fun z hz => by
      have : z ≠ y := fun e => hn2.1 (e ▸ hz)
      simp [this]]
    omega
theorem sR_shift (F : Nat → Int) : ∀ n, sR F (n + 1) = F 0 + sR (fun j => F (j + 1)) n
  | 0 => by simp [sR]
  | n + 1 => by rw [sR, sR_shift F n, sR]; omega
theorem wS_sR (rs : List Rl) (st : St) : ∀ us : List Int, wS rs st us = sR (fun j => wK rs st (us[j]?.getD 0)) us.length
  | [] => rfl
  | u :: us => by
    rw [List.length_cons, sR_shift, wS, wS_sR rs st us]
    simp
theorem sR_minus (F : Nat → Int) : ∀ n, sR (fun j => if j = 0 then 0 else F j - 1) (n + 1) = sR F (n + 1) - F 0 - n
  | 0 => by simp [sR]
  | n + 1 => by
    have e : sR F (n + 1 + 1) = sR F (n + 1) + F (n + 1) := rfl
    rw [sR, sR_minus F n, if_neg (by omega), e]
    omega
/-- what is put back, by kinds -/
theorem back_sum {rs : List Rl} {st : St} (n : Nat) (us : List Int) (f : Pc → Int) (G : List (Int × Int) → Int) : ∀ l : List Pc, (∀ p ∈ l, (p.k ≠ 2 → wK rs st (f p) ≤ G (mayB p)) ∧ (p.k = 2 → f p = us[p.y.toNat]?.getD 0)) → wS rs st (l.map f) ≤ gs G (pbs n l) n + sF (fun j => wK rs st (us[j]?.getD 0)) (cys l)
  | [], _ => by simp [wS, pbs, gs, cys, sF]
  | p :: l, h => by
    have ih := back_sum n us f G l fun q hq => h q (List.mem_cons_of_mem _ hq)
    have hp := h p List.mem_cons_self
    rw [List.map_cons, wS]
    simp only [pbs, cys]
    by_cases hk : p.k = 2
    · rw [if_pos hk, if_pos hk, sF, hp.2 hk]
      omega
    · rw [if_neg hk, if_neg hk]
      have := hp.1 hk
      simp only [gs, if_pos]
      omega
theorem sF_minus (F : Nat → Int) : ∀ l : List Nat, (∀ y ∈ l, y ≠ 0) → sF (fun j => if j = 0 then 0 else F j - 1) l = sF F l - l.length
  | [], _ => by simp [sF]
  | y :: l, h => by
    rw [sF, sF, sF_minus F l fun z hz => h z (List.mem_cons_of_mem _ hz), if_neg (h y List.mem_cons_self), List.length_cons]
    omega
/-- A STEP MAKES WHAT IS LEFT LIGHTER: what is put back weighs less than what was taken -/
theorem Fin.light {rs : List Rl} {st : St} (h : Fin rs st) {i : Nat} (hi : i < rs.length) {us : List Int} (hl : layB rs[i] us = true) : wS rs st ((backP rs[i]).map (wrt rs[i].key us)) + 1 ≤ wS rs st us := by
  have hO := h.ok _ (List.getElem_mem hi)
  have hst : stB rs[i].key us = true := by simp only [layB, Bool.and_eq_true] at hl; exact hl.2
  have hlen := st_len hst
  have hk0 := hO.k0
  have hw := fun p (hp : p ∈ backP rs[i]) => wr_any hl (List.mem_of_mem_drop hp)
  have h1 := back_sum (rs := rs) (st := st) i us (wrt rs[i].key us) (gG rs st) (backP rs[i]) fun p hp => by
    have w := hw p hp
    refine ⟨fun h2 => gG_ge h ?_, fun h2 => ?_⟩
    · rcases w.k with k | k | k
      · rw [w.k1 k, mayB, if_neg (by omega)]
        exact ⟨(p.u, p.u), by simp, Int.le_refl _, Int.le_refl _⟩
      · exact absurd k h2
      · rw [mayB, if_pos k]
        have := w.k3 k
        simp only [hasB, Bool.and_eq_true, decide_eq_true_eq] at this
        exact this.2
    · obtain ⟨j, hj, h3, h4⟩ := w.k2 h2
      rw [h3, ← h4]
      simp [hj]
  have h2 := h.gen (gG rs st) (fun j hj => gG_le h hj) hi
  have hcp := h.cp _ (List.getElem_mem hi)
  have hy : ∀ p ∈ backP rs[i], p.k = 2 → p.y.toNat < us.length := fun p hp k => by
    obtain ⟨j, hj, h3, _⟩ := (hw p hp).k2 k
    omega
  have hn := cpW_no (backP rs[i]) _ (by simp) (fun p hp k => by have := hy p hp k; have := hO.k8; omega) hcp
  have hne : ∀ y ∈ cys (backP rs[i]), y ≠ 0 := fun y hy e => by
    have := hn.2 y hy
    subst e
    simp at this
  have hlt : ∀ y ∈ cys (backP rs[i]), y < us.length := fun y hy' => by
    obtain ⟨p, hp, k, e⟩ := cys_mem hy'
    rw [← e]
    exact hy p hp k
  have h3 := nodup_sum (n := us.length) (cys (backP rs[i])) (fun j => if j = 0 then 0 else wK rs st (us[j]?.getD 0) - 1) (fun j => by
    have := (h.wK_in (us[j]?.getD 0)).1
    by_cases e : j = 0
    · simp [e]
    · simp only [e, if_false]; omega) hn.1 hlt
  rw [sF_minus _ _ hne, cys_len] at h3
  obtain ⟨n, hn'⟩ : ∃ n, us.length = n + 1 := ⟨us.length - 1, by omega⟩
  rw [hn', sR_minus (fun j => wK rs st (us[j]?.getD 0)) n, ← hn', ← wS_sR] at h3
  have h4 : at0 st.ws i ≤ wK rs st (us[0]?.getD 0) := by
    refine Fin.wK_ge hi ?_
    have := st_at hst hk0 (by omega)
    rw [fstS_at hi, show keyAt rs[i].key 0 = rs[i].key[0] by simp [keyAt, hk0]]
    rw [List.getElem?_eq_getElem (by omega)]
    exact this
  omega

/-- whether a rule fits, by the document -/
def stF (r : Rl) (d l : List Int) : Bool :=
  if l.length < r.key.length + r.post.length ∨ d.length < r.ante.length then false
  else if (r.bg = true ∧ r.ante.length < d.length) ∨ (r.en = true ∧ r.key.length + r.post.length < l.length) then false
  else (stB r.key (l.take r.key.length) && stB r.post ((l.drop r.key.length).take r.post.length)) && stB r.ante (d.drop (d.length - r.ante.length))
theorem stF_key {r : Rl} {d l : List Int} (h : stF r d l = true) : r.key.length ≤ l.length ∧ stB r.key (l.take r.key.length) = true := by
  unfold stF at h
  split at h
  · cases h
  · rename_i h1
    split at h
    · cases h
    · simp only [Bool.and_eq_true] at h
      exact ⟨by omega, h.1.1⟩

def kl (rs : List Rl) (i : Int) : Nat := ((rs[i.toNat]?).map fun r => r.key.length).getD 0
/-- the rule that is next, among the first ones -/
def nxtK (rs : List Rl) (d l : List Int) : Nat → Int
  | 0 => -1
  | k + 1 => if ((rs[k]?).map fun r => stF r d l).getD false = true ∧ (nxtK rs d l k < 0 ∨ kl rs (nxtK rs d l k) < kl rs k) then (k : Int) else nxtK rs d l k
theorem nxtK_is (rs : List Rl) (d l : List Int) : ∀ k, k ≤ rs.length → nxtK rs d l k = -1 ∨ ∃ i : Nat, ∃ hi : i < rs.length, i < k ∧ nxtK rs d l k = i ∧ stF rs[i] d l = true
  | 0, _ => .inl rfl
  | k + 1, hk => by
    rw [nxtK]
    split
    · rename_i h
      refine .inr ⟨k, by omega, by omega, rfl, ?_⟩
      have := h.1
      rw [List.getElem?_eq_getElem (by omega)] at this
      simpa using this
    · rcases nxtK_is rs d l k (by omega) with h | ⟨i, hi, h1, h2⟩
      · exact .inl h
      · exact .inr ⟨i, hi, by omega, h2⟩

/-- a step of a run: the rule, what was done, what was left, how much it took, laid down, put back -/
structure Stp where
  (r d l t a b : Int)
/-- what is left behind a step -/
def stepL (rs : List Rl) (l : List Int) (x : Stp) : List Int :=
  if x.r < 0 then l.drop 1 else match rs[x.r.toNat]? with
  | none => []
  | some r => (backP r).map (wrt r.key (l.take x.t.toNat)) ++ l.drop x.t.toNat
/-- a step that a pass may take -/
def OkStp (rs : List Rl) (l : List Int) (x : Stp) : Prop :=
  (x.r = -1 ∧ x.t = 1 ∧ x.a = 1 ∧ 0 < l.length) ∨ ∃ (i : Nat) (hi : i < rs.length), x.r = i ∧ x.t = rs[i].key.length ∧ rs[i].key.length ≤ l.length ∧ layB rs[i] (l.take rs[i].key.length) = true ∧ x.a = rs[i].cu
/-- all of them are units -/
def AllU (l : List Int) : Prop := ∀ u ∈ l, wd u ≠ 0
theorem AllU.append {l k : List Int} (h : AllU l) (h2 : AllU k) : AllU (l ++ k) := fun u hu => (List.mem_append.1 hu).elim (h u) (h2 u)
theorem stepL_rule {rs : List Rl} {l : List Int} {x : Stp} {i : Nat} (hi : i < rs.length) (h1 : x.r = i) (h2 : x.t = rs[i].key.length) : stepL rs l x = (backP rs[i]).map (wrt rs[i].key (l.take rs[i].key.length)) ++ l.drop rs[i].key.length := by
  unfold stepL
  rw [if_neg (by omega), h1, h2]
  simp [hi]
theorem back_units {r : Rl} {us : List Int} (hl : layB r us = true) : AllU ((backP r).map (wrt r.key us)) := fun u hu => by
  obtain ⟨p, hp, rfl⟩ := List.mem_map.1 hu
  exact (wr_any hl (List.mem_of_mem_drop hp)).w
theorem OkStp.light {rs : List Rl} {st : St} (h : Fin rs st) {l : List Int} {x : Stp} (hx : OkStp rs l x) : wS rs st (stepL rs l x) + 1 ≤ wS rs st l := by
  rcases hx with ⟨h1, h2, h3, h4⟩ | ⟨i, hi, h1, h2, h3, h4, h5⟩
  · unfold stepL
    rw [if_pos (by omega)]
    match l, h4 with
    | u :: l, _ =>
      rw [List.drop_one, List.tail_cons, wS]
      have := (h.wK_in u).1
      omega
  · rw [stepL_rule hi h1 h2, wS_append]
    have := h.light hi h4
    have e : wS rs st l = wS rs st (l.take rs[i].key.length) + wS rs st (l.drop rs[i].key.length) := by rw [← wS_append, List.take_append_drop]
    omega
theorem OkStp.units {rs : List Rl} {l : List Int} {x : Stp} (hx : OkStp rs l x) (hu : AllU l) : AllU (stepL rs l x) := by
  rcases hx with ⟨h1, h2, h3, h4⟩ | ⟨i, hi, h1, h2, h3, h4, h5⟩
  · unfold stepL
    rw [if_pos (by omega)]
    exact fun u h => hu u (List.mem_of_mem_drop h)
  · rw [stepL_rule hi h1 h2]
    exact (back_units h4).append fun u h => hu u (List.mem_of_mem_drop h)
/-- what is left behind some steps -/
def lft (rs : List Rl) (l : List Int) (xs : List Stp) : List Int := xs.foldl (stepL rs) l
theorem lft_snoc (rs : List Rl) (l : List Int) (xs : List Stp) (x : Stp) : lft rs l (xs ++ [x]) = stepL rs (lft rs l xs) x := by simp [lft]
/-- steps of a run -/
def GoOk (rs : List Rl) (l : List Int) (xs : List Stp) : Prop := ∀ (i : Nat) (h : i < xs.length), OkStp rs (lft rs l (xs.take i)) xs[i]
theorem GoOk.nil (rs : List Rl) (l : List Int) : GoOk rs l [] := fun i h => by simp at h
theorem GoOk.snoc {rs : List Rl} {l : List Int} {xs : List Stp} {x : Stp} (h : GoOk rs l xs) (hx : OkStp rs (lft rs l xs) x) : GoOk rs l (xs ++ [x]) := fun i hi => by
  by_cases e : i < xs.length
  · have := h i e
    rw [List.take_append_of_le_length (by omega), List.getElem_append_left e]
    exact this
  · have e2 : i = xs.length := by rw [List.length_append, List.length_singleton] at hi; omega
    subst e2
    simpa using hx
theorem lft_succ (rs : List Rl) (l : List Int) (xs : List Stp) {i : Nat} (h : i < xs.length) : lft rs l (xs.take (i + 1)) = stepL rs (lft rs l (xs.take i)) xs[i] := by
  rw [List.take_add_one, List.getElem?_eq_getElem h]
  exact lft_snoc rs l _ _
theorem GoOk.weight {rs : List Rl} {st : St} (hF : Fin rs st) {l : List Int} {xs : List Stp} (h : GoOk rs l xs) : ∀ i, i ≤ xs.length → (i : Int) + wS rs st (lft rs l (xs.take i)) ≤ wS rs st l
  | 0, _ => by simp [lft]
  | i + 1, hi => by
    have ih := h.weight hF i (by omega)
    have := (h i (by omega)).light hF
    rw [lft_succ rs l xs (by omega)]
    omega
theorem wS_len {rs : List Rl} {st : St} (h : Fin rs st) : ∀ l : List Int, (l.length : Int) ≤ wS rs st l ∧ wS rs st l ≤ 64 * l.length
  | [] => by simp [wS]
  | u :: l => by
    have := wS_len h l
    have := h.wK_in u
    rw [wS, List.length_cons]
    omega
/-- how much some steps laid down -/
def sumA : List Stp → Int
  | [] => 0
  | x :: l => x.a + sumA l
theorem sumA_snoc (l : List Stp) (x : Stp) : sumA (l ++ [x]) = sumA l + x.a := by
  induction l with
  | nil => simp [sumA]
  | cons y l ih => simp only [List.cons_append, sumA, ih]; omega
theorem nextS_ok {rs : List Rl} (hc : ∀ r ∈ rs, chk r = 0) (d : List Int) {l : List Int} (hl : 0 < l.length) :
    (nxtK rs d l rs.length = -1 ∧ OkStp rs l ⟨-1, d.length, l.length, 1, 1, 0⟩) ∨ ∃ (i : Nat) (hi : i < rs.length), nxtK rs d l rs.length = i ∧ rs[i].key.length ≤ l.length ∧ layB rs[i] (l.take rs[i].key.length) = true ∧ OkStp rs l ⟨i, d.length, l.length, rs[i].key.length, rs[i].cu, (backP rs[i]).length⟩ := by
  rcases nxtK_is rs d l rs.length (Nat.le_refl _) with h | ⟨i, hi, _, h1, h2⟩
  · exact .inl ⟨h, .inl ⟨rfl, rfl, rfl, hl⟩⟩
  · have h3 := stF_key h2
    have h4 : layB rs[i] (l.take rs[i].key.length) = true := by
      simp only [layB, Bool.and_eq_true, decide_eq_true_eq]
      exact ⟨hc _ (List.getElem_mem hi), h3.2⟩
    exact .inr ⟨i, hi, h1, h3.1, h4, .inr ⟨i, hi, rfl, rfl, h3.1, h4, rfl⟩⟩

/-- the rule that is next -/
def ruleN (rs : List Rl) (d l : List Int) : Option Rl := if nxtK rs d l rs.length < 0 then none else rs[(nxtK rs d l rs.length).toNat]?
/-- the step that is next -/
def stp (rs : List Rl) (d l : List Int) : Stp := match ruleN rs d l with
  | none => ⟨-1, d.length, l.length, 1, 1, 0⟩
  | some r => ⟨nxtK rs d l rs.length, d.length, l.length, r.key.length, r.cu, (backP r).length⟩
/-- what it lays down -/
def layd (rs : List Rl) (d l : List Int) : List Int := match ruleN rs d l with
  | none => l.take 1
  | some r => (outs r (l.take r.key.length)).take r.cu.toNat
/-- what is left behind it -/
def lefd (rs : List Rl) (d l : List Int) : List Int := match ruleN rs d l with
  | none => l.drop 1
  | some r => (outs r (l.take r.key.length)).drop r.cu.toNat ++ l.drop r.key.length
/-- a run, step by step -/
def go3 (rs : List Rl) (l0 : List Int) : Nat → List Stp × List Int × List Int
  | 0 => ([], [], l0)
  | k + 1 => if (go3 rs l0 k).2.2 = [] then go3 rs l0 k else ((go3 rs l0 k).1 ++ [stp rs (go3 rs l0 k).2.1 (go3 rs l0 k).2.2], (go3 rs l0 k).2.1 ++ layd rs (go3 rs l0 k).2.1 (go3 rs l0 k).2.2, lefd rs (go3 rs l0 k).2.1 (go3 rs l0 k).2.2)
/-- so many steps of a run -/
def G3 (rs : List Rl) (l0 : List Int) (xs : List Stp) (d l : List Int) : Prop := go3 rs l0 xs.length = (xs, d, l)
theorem G3.nil (rs : List Rl) (l0 : List Int) : G3 rs l0 [] [] l0 := rfl
theorem G3.snoc {rs : List Rl} {l0 : List Int} {xs : List Stp} {d l : List Int} (h : G3 rs l0 xs d l) (hl : l ≠ []) : G3 rs l0 (xs ++ [stp rs d l]) (d ++ layd rs d l) (lefd rs d l) := by
  unfold G3 at h ⊢
  rw [List.length_append, List.length_singleton, go3, h]
  simp only []
  rw [if_neg hl]
theorem go3_stay {rs : List Rl} {l0 : List Int} {k : Nat} (h : (go3 rs l0 k).2.2 = []) : ∀ m, go3 rs l0 (k + m) = go3 rs l0 k
  | 0 => rfl
  | m + 1 => by
    have ih := go3_stay h m
    rw [← Nat.add_assoc, go3, ih, if_pos h]
theorem G3.one {rs : List Rl} {l0 : List Int} {xs xs' : List Stp} {d d' : List Int} (h : G3 rs l0 xs d []) (h' : G3 rs l0 xs' d' []) : xs = xs' ∧ d = d' := by
  unfold G3 at h h'
  have key : ∀ (a b : Nat), a ≤ b → (go3 rs l0 a).2.2 = [] → go3 rs l0 b = go3 rs l0 a := fun a b hab h0 => by
    have := go3_stay h0 (b - a)
    rwa [show a + (b - a) = b by omega] at this
  have e : (xs, d, ([] : List Int)) = (xs', d', []) := by
    rcases Nat.le_total xs.length xs'.length with hl | hl
    · have := key _ _ hl (by rw [h])
      rw [h, h'] at this
      exact this.symm
    · have := key _ _ hl (by rw [h'])
      rw [h, h'] at this
      exact this
  injection e with e1 e2
  injection e2 with e2 _
  exact ⟨e1, e2⟩
theorem stp_none {rs : List Rl} {d l : List Int} (h : nxtK rs d l rs.length = -1) : stp rs d l = ⟨-1, d.length, l.length, 1, 1, 0⟩ ∧ layd rs d l = l.take 1 ∧ lefd rs d l = l.drop 1 := by
  have e : ruleN rs d l = none := by unfold ruleN; rw [if_pos (by omega)]
  unfold stp layd lefd
  rw [e]
  exact ⟨rfl, rfl, rfl⟩
theorem stp_rule {rs : List Rl} {d l : List Int} {i : Nat} (hi : i < rs.length) (h : nxtK rs d l rs.length = i) : stp rs d l = ⟨i, d.length, l.length, rs[i].key.length, rs[i].cu, (backP rs[i]).length⟩ ∧ layd rs d l = (outs rs[i] (l.take rs[i].key.length)).take rs[i].cu.toNat ∧ lefd rs d l = (outs rs[i] (l.take rs[i].key.length)).drop rs[i].cu.toNat ++ l.drop rs[i].key.length := by
  have e : ruleN rs d l = some rs[i] := by unfold ruleN; rw [if_neg (by omega), h]; simp [hi]
  unfold stp layd lefd
  rw [e, h]
  exact ⟨rfl, rfl, rfl⟩
/-- what holds of each step of a run -/
structure G3K (rs : List Rl) (l0 : List Int) (k : Nat) (p : List Stp × List Int × List Int) : Prop where
  ok : GoOk rs l0 p.1
  lf : lft rs l0 p.1 = p.2.2
  dn : (p.2.1.length : Int) = sumA p.1
  d16 : p.2.1.length ≤ 16 * p.1.length
  un : AllU l0 → AllU p.2.2 ∧ AllU p.2.1
  k : p.1.length = k ∨ p.1.length ≤ k ∧ p.2.2 = []
theorem stp_ok {rs : List Rl} (hc : ∀ r ∈ rs, chk r = 0) (d : List Int) {l : List Int} (hl : l ≠ []) : OkStp rs l (stp rs d l) ∧ stepL rs l (stp rs d l) = lefd rs d l ∧ (layd rs d l).length = (stp rs d l).a ∧ (layd rs d l).length ≤ 16 ∧ (AllU l → AllU (layd rs d l)) := by
  have hl0 := List.length_pos_iff.2 hl
  rcases nextS_ok hc d hl0 with ⟨h, hok⟩ | ⟨i, hi, h, h2, h3, hok⟩
  · obtain ⟨e1, e2, e3⟩ := stp_none h
    rw [e1, e2, e3]
    refine ⟨hok, by unfold stepL; rw [if_pos (show (-1 : Int) < 0 by decide)], by simp; omega, by simp; omega, fun hu u h => hu u (List.mem_of_mem_take h)⟩
  · obtain ⟨e1, e2, e3⟩ := stp_rule hi h
    rw [e1, e2, e3]
    have hO := chk_ok (hc _ (List.getElem_mem hi))
    have ho : (outs rs[i] (l.take rs[i].key.length)).length = rs[i].res.length := by simp [outs]
    have q1 := hO.r16
    have q2 := hO.c0
    have q3 := hO.c1
    have e4 : ((outs rs[i] (l.take rs[i].key.length)).take rs[i].cu.toNat).length = rs[i].cu.toNat := by rw [List.length_take, ho]; omega
    refine ⟨hok, ?_, by rw [e4]; show _ = rs[i].cu; omega, by rw [e4]; omega, fun hu u h => ?_⟩
    · rw [stepL_rule hi rfl rfl]
      simp [outs, backP, List.map_drop]
    · obtain ⟨p, hp, rfl⟩ := List.mem_map.1 (List.mem_of_mem_take h)
      exact (wr_any h3 hp).w
theorem go3_ok {rs : List Rl} (hc : ∀ r ∈ rs, chk r = 0) (l0 : List Int) : ∀ k, G3K rs l0 k (go3 rs l0 k)
  | 0 => ⟨GoOk.nil _ _, rfl, rfl, by simp [go3], fun h => ⟨h, fun u hu => by simp [go3] at hu⟩, .inl rfl⟩
  | k + 1 => by
    have ih := go3_ok hc l0 k
    rw [go3]
    by_cases hl : (go3 rs l0 k).2.2 = []
    · rw [if_pos hl]
      exact ⟨ih.ok, ih.lf, ih.dn, ih.d16, ih.un, .inr ⟨by rcases ih.k with h | h <;> omega, hl⟩⟩
    · rw [if_neg hl]
      obtain ⟨h1, h2, h3, h4, h5⟩ := stp_ok hc (go3 rs l0 k).2.1 hl
      have hk : (go3 rs l0 k).1.length = k := ih.k.resolve_right fun h => hl h.2
      refine ⟨ih.ok.snoc (by rw [ih.lf]; exact h1), by rw [lft_snoc, ih.lf]; exact h2, ?_, ?_, fun hu => ?_, .inl (by simp [hk])⟩
      · have := ih.dn
        rw [sumA_snoc, List.length_append]
        omega
      · have := ih.d16
        simp only [List.length_append, List.length_singleton]
        omega
      · have := ih.un hu
        refine ⟨?_, this.2.append (h5 this.1)⟩
        show AllU (lefd rs _ _)
        rw [← h2]
        exact h1.units this.1
theorem G3.k {rs : List Rl} (hc : ∀ r ∈ rs, chk r = 0) {l0 : List Int} {xs : List Stp} {d l : List Int} (h : G3 rs l0 xs d l) : G3K rs l0 xs.length (xs, d, l) := by
  have := go3_ok hc l0 xs.length
  unfold G3 at h
  rwa [h] at this
theorem G3.lens {rs : List Rl} {st : St} (hF : Fin rs st) (hc : ∀ r ∈ rs, chk r = 0) {l0 : List Int} {xs : List Stp} {d l : List Int} (h : G3 rs l0 xs d l) : (xs.length : Int) + l.length ≤ wS rs st l0 ∧ wS rs st l0 ≤ 64 * l0.length ∧ d.length ≤ 16 * xs.length := by
  have hk := h.k hc
  have h1 := hk.ok.weight hF xs.length (Nat.le_refl _)
  have e : lft rs l0 (xs.take xs.length) = l := by rw [List.take_length]; exact hk.lf
  rw [e] at h1
  have h2 := (wS_len hF l0).2
  have h3 := (wS_len hF l).1
  exact ⟨by omega, h2, hk.d16⟩
/-- a run ends -/
def fin3 (rs : List Rl) (st : St) (l0 : List Int) : List Stp × List Int × List Int := go3 rs l0 (wS rs st l0).toNat
theorem fin3_end {rs : List Rl} {st : St} (hF : Fin rs st) (hc : ∀ r ∈ rs, chk r = 0) (l0 : List Int) : (fin3 rs st l0).2.2 = [] := by
  unfold fin3
  have hk := go3_ok hc l0 (wS rs st l0).toNat
  rcases hk.k with h | h
  · have h1 := hk.ok.weight hF _ (Nat.le_refl _)
    rw [List.take_length, hk.lf, h] at h1
    have h2 := (wS_len hF l0).1
    have h3 := (wS_len hF (go3 rs l0 (wS rs st l0).toNat).2.2).1
    exact List.eq_nil_of_length_eq_zero (by omega)
  · exact h.2
theorem go3_pre (rs : List Rl) (l0 : List Int) : ∀ k m, (go3 rs l0 k).1 <+: (go3 rs l0 (k + m)).1
  | k, 0 => List.prefix_refl _
  | k, m + 1 => by
    refine (go3_pre rs l0 k m).trans ?_
    rw [← Nat.add_assoc, go3]
    split
    · exact List.prefix_refl _
    · exact List.prefix_append _ _
theorem fin3_G3 {rs : List Rl} {st : St} (hF : Fin rs st) (hc : ∀ r ∈ rs, chk r = 0) (l0 : List Int) : G3 rs l0 (fin3 rs st l0).1 (fin3 rs st l0).2.1 [] := by
  have he := fin3_end hF hc l0
  have hk := go3_ok hc l0 (wS rs st l0).toNat
  unfold G3
  have key : go3 rs l0 (fin3 rs st l0).1.length = fin3 rs st l0 := by
    have : ∀ K, go3 rs l0 (go3 rs l0 K).1.length = go3 rs l0 K := fun K => by
      induction K with
      | zero => rfl
      | succ K ih =>
        by_cases hl : (go3 rs l0 K).2.2 = []
        · have e : go3 rs l0 (K + 1) = go3 rs l0 K := by rw [go3, if_pos hl]
          rw [e, ih]
        · have hK := (go3_ok hc l0 K).k.resolve_right fun h => hl h.2
          have e : (go3 rs l0 (K + 1)).1.length = K + 1 := by rw [go3, if_neg hl]; simp [hK]
          rw [e]
    exact this _
  rw [key]
  rcases hX : fin3 rs st l0 with ⟨a, b, c⟩
  rw [hX] at he
  simp only at he
  rw [he]
theorem G3.prefix {rs : List Rl} {l0 : List Int} {xs xf : List Stp} {d l df : List Int} (h : G3 rs l0 xs d l) (hf : G3 rs l0 xf df []) : xs = xf.take xs.length := by
  unfold G3 at h hf
  rcases Nat.le_total xs.length xf.length with h1 | h1
  · have hp := go3_pre rs l0 xs.length (xf.length - xs.length)
    rw [show xs.length + (xf.length - xs.length) = xf.length by omega, hf, h] at hp
    exact List.prefix_iff_eq_take.1 hp
  · have := go3_stay (rs := rs) (l0 := l0) (k := xf.length) (by rw [hf]) (xs.length - xf.length)
    rw [show xf.length + (xs.length - xf.length) = xs.length by omega, h, hf] at this
    injection this with e _
    rw [e]; simp
end Go.Proofs
