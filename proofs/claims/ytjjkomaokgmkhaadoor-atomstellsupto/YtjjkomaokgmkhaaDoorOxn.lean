/-
  The document's atoms while they are made: units that grow in place.
-/
import Derived.Test.YtjjkomaokgmkhaaDoorAgn
import Derived.Test.YtjjkomaokgmkhaaDoorRxn
import Derived.RangeFuncNested
import Derived.RangeFuncBound
import Derived.RangeFuncCalls
import Derived.RangeFuncLeaves
import Derived.Shelf.Abstract
import Derived.Shelf.RegionOpen
import Derived.WalkKit
import Derived.WalkSpells
import Derived.WalkLawsBesides
import Derived.OwnWalkIn
import Derived.TacticsInMore
import Derived.LoopNIn
import Derived.LoopIn
import Derived.BigQuiet
import Derived.RegionIn
import Derived.Deep.QuietTactic
import Derived.Deep.RegionWith
import Derived.Lib.OthersKept
import Derived.Maps.AppendAt
import Derived.Lib.SmallJoins
import Derived.Shelf.SlSortCmp.QuietGrown
import Derived.Test.YtjjkomaokgmkhaaDoorNxn
import Derived.Deep.AppendLies
namespace Go.Proofs

/-- which sets have a number -/
def inV (ss : List (List (Int × Int))) (u : Int) : List Bool := ss.map fun s => decide (hasU s u)
theorem inV_alike (ss : List (List (Int × Int))) (u v : Int) : inV ss u = inV ss v ↔ Alike ss u v := by
  unfold inV Alike
  constructor
  · intro h n hn
    have := congrArg (fun l => l[n]?) h
    simp [hn] at this
    have e : ss.getD n [] = ss[n] := by simp [List.getD, hn]
    rw [e]
    exact this
  · intro h
    apply List.ext_getElem (by simp)
    intro n hn hn'
    simp at hn
    have := h n hn
    have e : ss.getD n [] = ss[n] := by simp [List.getD, hn]
    rw [e] at this
    simp
    exact this
/-- pieces of all units, within which nothing changes -/
structure Pcs (ss : List (List (Int × Int))) (P : List (Int × Int)) : Prop where
  ok : ∀ p ∈ P, p.1 ≤ p.2
  rise : P.Pairwise fun p q => p.2 < q.1
  un : ∀ p ∈ P, ∀ u, p.1 ≤ u → u ≤ p.2 → isUn u
  same : ∀ p ∈ P, ∀ u, p.1 ≤ u → u ≤ p.2 → inV ss u = inV ss p.1
  all : ∀ u, isUn u → ∃ p ∈ P, p.1 ≤ u ∧ u ≤ p.2
/-- a piece more of an atom -/
def mrg (l : List (Int × Int)) (p : Int × Int) : List (Int × Int) := match l.getLast? with
  | some q => if q.2 + 1 = p.1 then l.dropLast ++ [(q.1, p.2)] else l ++ [p]
  | none => [p]
/-- one piece more -/
def radd (ss : List (List (Int × Int))) (L : List (List Bool × List (Int × Int))) (p : Int × Int) : List (List Bool × List (Int × Int)) :=
  if inV ss p.1 ∈ L.map Prod.fst then L.modify ((L.map Prod.fst).idxOf (inV ss p.1)) (fun x => (x.1, mrg x.2 p)) else L ++ [(inV ss p.1, [p])]
/-- what holds on the way -/
structure RI (ss : List (List (Int × Int))) (D : List (Int × Int)) (L : List (List Bool × List (Int × Int))) : Prop where
  nd : (L.map Prod.fst).Nodup
  has : ∀ p ∈ D, inV ss p.1 ∈ L.map Prod.fst
  ok : ∀ x ∈ L, RwOk x.2
  un : ∀ x ∈ L, ∀ u, inS x.2 u ↔ ∃ p ∈ D, p.1 ≤ u ∧ u ≤ p.2 ∧ inV ss p.1 = x.1
  fst : ∀ k (hk : k < L.length), ∃ p ∈ D, inV ss p.1 = L[k].1 ∧ ∀ j (hj : j < L.length), k < j → ∀ q ∈ D, inV ss q.1 = L[j].1 → p.1 < q.1
theorem mrg_in {l : List (Int × Int)} {p : Int × Int} (hl : RwOk l) (hp : p.1 ≤ p.2) (u : Int) : inS (mrg l p) u ↔ inS l u ∨ (p.1 ≤ u ∧ u ≤ p.2) := by
  unfold mrg
  cases e : l.getLast? with
  | none =>
    have : l = [] := List.getLast?_eq_none_iff.1 e
    subst this
    simp [inS]
  | some q =>
    have hne : l ≠ [] := fun h => by rw [h] at e; simp at e
    have hq : l.getLast hne = q := by rw [List.getLast?_eq_some_getLast hne] at e; injection e
    have hs : l = l.dropLast ++ [q] := by rw [← hq]; exact (List.dropLast_concat_getLast hne).symm
    have hqq : q.1 ≤ q.2 := hl.2 q (by rw [hs]; simp)
    simp only
    split
    · rename_i h
      have e1 : inS l u ↔ inS l.dropLast u ∨ (q.1 ≤ u ∧ u ≤ q.2) := by
        conv => lhs; rw [hs]
        unfold inS
        constructor
        · rintro ⟨x, hx, h1⟩
          rcases List.mem_append.1 hx with hx | hx
          · exact .inl ⟨x, hx, h1⟩
          · simp at hx; subst hx; exact .inr h1
        · rintro (⟨x, hx, h1⟩ | h1)
          · exact ⟨x, List.mem_append_left _ hx, h1⟩
          · exact ⟨q, by simp, h1⟩
      rw [e1]
      unfold inS
      constructor
      · rintro ⟨x, hx, h1⟩
        rcases List.mem_append.1 hx with hx | hx
        · exact .inl (.inl ⟨x, hx, h1⟩)
        · simp at hx
          subst hx
          simp only at h1
          by_cases hu : u ≤ q.2
          · exact .inl (.inr ⟨h1.1, hu⟩)
          · exact .inr ⟨by omega, h1.2⟩
      · rintro ((⟨x, hx, h1⟩ | h1) | h1)
        · exact ⟨x, List.mem_append_left _ hx, h1⟩
        · exact ⟨(q.1, p.2), by simp, h1.1, by simp only; omega⟩
        · exact ⟨(q.1, p.2), by simp, by simp only; omega, h1.2⟩
    · unfold inS
      constructor
      · rintro ⟨x, hx, h1⟩
        rcases List.mem_append.1 hx with hx | hx
        · exact .inl ⟨x, hx, h1⟩
        · simp at hx; subst hx; exact .inr h1
      · rintro (⟨x, hx, h1⟩ | h1)
        · exact ⟨x, List.mem_append_left _ hx, h1⟩
        · exact ⟨p, by simp, h1⟩
theorem mrg_ok {l : List (Int × Int)} {p : Int × Int} (hl : RwOk l) (hp : p.1 ≤ p.2) (hlt : ∀ x ∈ l, x.2 < p.1) : RwOk (mrg l p) := by
  unfold mrg
  cases e : l.getLast? with
  | none => exact ⟨by simp, fun x hx => by simp at hx; subst hx; exact hp⟩
  | some q =>
    have hne : l ≠ [] := fun h => by rw [h] at e; simp at e
    have hq : l.getLast hne = q := by rw [List.getLast?_eq_some_getLast hne] at e; injection e
    have hs : l = l.dropLast ++ [q] := by rw [← hq]; exact (List.dropLast_concat_getLast hne).symm
    have hqm : q ∈ l := by rw [hs]; simp
    have hqq : q.1 ≤ q.2 := hl.2 q hqm
    have h1 := hl.1
    rw [hs, List.pairwise_append] at h1
    simp only
    split
    · rename_i h
      refine ⟨?_, fun x hx => ?_⟩
      · rw [List.pairwise_append]
        exact ⟨h1.1, by simp, fun x hx y hy => by simp at hy; subst hy; exact h1.2.2 x hx q (by simp)⟩
      · rcases List.mem_append.1 hx with hx | hx
        · exact hl.2 x (List.dropLast_subset _ hx)
        · simp at hx; subst hx; have := hlt q hqm; simp only; omega
    · rename_i h
      refine ⟨?_, fun x hx => ?_⟩
      · rw [List.pairwise_append]
        refine ⟨hl.1, by simp, fun x hx y hy => ?_⟩
        simp at hy
        subst hy
        have hq2 := hlt q hqm
        rw [hs] at hx
        rcases List.mem_append.1 hx with hx | hx
        · have := h1.2.2 x hx q (by simp); omega
        · simp at hx; subst hx; omega
      · rcases List.mem_append.1 hx with hx | hx
        · exact hl.2 x hx
        · simp at hx; subst hx; exact hp
theorem map_fst_modify (L : List (List Bool × List (Int × Int))) (i : Nat) (p : Int × Int) : (L.modify i (fun x => (x.1, mrg x.2 p))).map Prod.fst = L.map Prod.fst := by
  apply List.ext_getElem (by simp)
  intro n h1 h2
  simp only [List.getElem_map, List.getElem_modify]
  split <;> rfl
/-- a piece more -/
theorem RI.step {ss : List (List (Int × Int))} {D : List (Int × Int)} {L : List (List Bool × List (Int × Int))} (h : RI ss D L) {p : Int × Int} (hp : p.1 ≤ p.2) (hlt : ∀ q ∈ D, q.2 < p.1) (hD : ∀ q ∈ D, q.1 ≤ q.2) : RI ss (D ++ [p]) (radd ss L p) := by
  have hsl : ∀ x ∈ L, ∀ y ∈ x.2, y.2 < p.1 := fun x hx y hy => by
    obtain ⟨q, hq, q1, q2, _⟩ := (h.un x hx y.2).1 ⟨y, hy, (h.ok x hx).2 y hy, Int.le_refl _⟩
    have := hlt q hq
    omega
  unfold radd
  split
  · rename_i hm
    have hi := List.idxOf_lt_length_of_mem hm
    obtain ⟨i, hie⟩ : ∃ i, (L.map Prod.fst).idxOf (inV ss p.1) = i := ⟨_, rfl⟩
    rw [hie] at hi ⊢
    have hil : i < L.length := by simpa using hi
    have hif : L[i].1 = inV ss p.1 := by
      have := List.getElem_idxOf (xs := L.map Prod.fst) (x := inV ss p.1) (by rw [hie]; exact hi)
      simp only [hie, List.getElem_map] at this
      exact this
    have hg : ∀ k (hk : k < L.length), (L.modify i (fun x => (x.1, mrg x.2 p)))[k]'(by simpa using hk) = (if i = k then (L[k].1, mrg L[k].2 p) else L[k]) := fun k hk => by
      rw [List.getElem_modify]
    have hdi : ∀ k (hk : k < L.length), L[k].1 = inV ss p.1 → k = i := fun k hk e => by
      have h1 : (L.map Prod.fst)[k]? = some (inV ss p.1) := by simp [hk, e]
      have h2 : (L.map Prod.fst)[i]? = some (inV ss p.1) := by simp [hil, hif]
      exact nodup_idx h.nd h1 h2
    refine ⟨by rw [map_fst_modify]; exact h.nd, fun q hq => ?_, fun x hx => ?_, fun x hx u => ?_, fun k hk => ?_⟩
    · rw [map_fst_modify]
      rcases List.mem_append.1 hq with hq | hq
      · exact h.has q hq
      · simp at hq; subst hq; exact hm
    · obtain ⟨k, hk, rfl⟩ := List.getElem_of_mem hx
      have hk' : k < L.length := by simpa using hk
      rw [hg k hk']
      split
      · exact mrg_ok (h.ok _ (List.getElem_mem hk')) hp (hsl _ (List.getElem_mem hk'))
      · exact h.ok _ (List.getElem_mem hk')
    · obtain ⟨k, hk, rfl⟩ := List.getElem_of_mem hx
      have hk' : k < L.length := by simpa using hk
      rw [hg k hk']
      have hu := h.un _ (List.getElem_mem hk') u
      split
      · rename_i e
        subst e
        simp only
        rw [mrg_in (h.ok _ (List.getElem_mem hk')) hp, hu]
        constructor
        · rintro (⟨q, hq, q1⟩ | hq)
          · exact ⟨q, List.mem_append_left _ hq, q1⟩
          · exact ⟨p, by simp, hq.1, hq.2, hif.symm⟩
        · rintro ⟨q, hq, q1, q2, q3⟩
          rcases List.mem_append.1 hq with hq | hq
          · exact .inl ⟨q, hq, q1, q2, q3⟩
          · simp at hq; subst hq; exact .inr ⟨q1, q2⟩
      · rename_i e
        rw [hu]
        constructor
        · rintro ⟨q, hq, q1⟩
          exact ⟨q, List.mem_append_left _ hq, q1⟩
        · rintro ⟨q, hq, q1, q2, q3⟩
          rcases List.mem_append.1 hq with hq | hq
          · exact ⟨q, hq, q1, q2, q3⟩
          · simp at hq; subst hq; exact absurd (hdi k hk' q3.symm).symm e
    · have hk' : k < L.length := by simpa using hk
      obtain ⟨q, hq, q1, q2⟩ := h.fst k hk'
      have hf : ∀ j (hj : j < L.length), ((L.modify i (fun x => (x.1, mrg x.2 p)))[j]'(by simpa using hj)).1 = L[j].1 := fun j hj => by rw [hg j hj]; split <;> rfl
      refine ⟨q, List.mem_append_left _ hq, by rw [hf k hk']; exact q1, fun j hj hkj r hr hre => ?_⟩
      have hj' : j < L.length := by simpa using hj
      rw [hf j hj'] at hre
      rcases List.mem_append.1 hr with hr | hr
      · exact q2 j hj' hkj r hr hre
      · simp at hr
        subst hr
        have := hlt q hq
        have := hD q hq
        omega
  · rename_i hm
    have hno : ∀ q ∈ D, inV ss q.1 ≠ inV ss p.1 := fun q hq e => hm (e ▸ h.has q hq)
    refine ⟨?_, fun q hq => ?_, fun x hx => ?_, fun x hx u => ?_, fun k hk => ?_⟩
    · rw [List.map_append, List.nodup_append]
      exact ⟨h.nd, by simp, fun a ha b hb e => by simp at hb; subst hb; subst e; exact hm ha⟩
    · rw [List.map_append]
      rcases List.mem_append.1 hq with hq | hq
      · exact List.mem_append_left _ (h.has q hq)
      · simp at hq; subst hq; simp
    · rcases List.mem_append.1 hx with hx | hx
      · exact h.ok x hx
      · simp at hx; subst hx; exact ⟨by simp, fun y hy => by simp at hy; subst hy; exact hp⟩
    · rcases List.mem_append.1 hx with hx1 | hx
      · rw [h.un x hx1 u]
        constructor
        · rintro ⟨q, hq, q1⟩; exact ⟨q, List.mem_append_left _ hq, q1⟩
        · rintro ⟨q, hq, q1, q2, q3⟩
          rcases List.mem_append.1 hq with hq | hq
          · exact ⟨q, hq, q1, q2, q3⟩
          · simp at hq
            subst hq
            exact absurd (List.mem_map.2 ⟨x, hx1, q3.symm⟩) hm
      · simp at hx
        subst hx
        simp only
        constructor
        · rintro ⟨y, hy, y1, y2⟩
          simp at hy; subst hy
          exact ⟨y, by simp, y1, y2, rfl⟩
        · rintro ⟨q, hq, q1, q2, q3⟩
          rcases List.mem_append.1 hq with hq | hq
          · exact absurd q3 (hno q hq)
          · simp at hq; subst hq; exact ⟨q, by simp, q1, q2⟩
    · by_cases hkl : k < L.length
      · obtain ⟨q, hq, q1, q2⟩ := h.fst k hkl
        refine ⟨q, List.mem_append_left _ hq, by rw [List.getElem_append_left hkl]; exact q1, fun j hj hkj r hr hre => ?_⟩
        by_cases hjl : j < L.length
        · rw [List.getElem_append_left hjl] at hre
          rcases List.mem_append.1 hr with hr | hr
          · exact q2 j hjl hkj r hr hre
          · simp at hr
            subst hr
            have := hlt q hq
            have := hD q hq
            omega
        · rw [List.getElem_append_right (by omega)] at hre
          simp at hre
          rcases List.mem_append.1 hr with hr | hr
          · exact absurd hre (hno r hr)
          · simp at hr
            subst hr
            have := hlt q hq
            have := hD q hq
            omega
      · have hke : k = L.length := by simp at hk; omega
        subst hke
        refine ⟨p, by simp, by simp, fun j hj hkj => ?_⟩
        simp at hj
        omega
def rfill (ss : List (List (Int × Int))) (P : List (Int × Int)) : List (List Bool × List (Int × Int)) := P.foldl (radd ss) []
theorem rfill_snoc (ss : List (List (Int × Int))) (P : List (Int × Int)) (p : Int × Int) : rfill ss (P ++ [p]) = radd ss (rfill ss P) p := by simp [rfill]
theorem rfill_RI {ss : List (List (Int × Int))} {P : List (Int × Int)} (h : Pcs ss P) : ∀ k, k ≤ P.length → RI ss (P.take k) (rfill ss (P.take k))
  | 0, _ => ⟨by simp [rfill], by simp, by simp [rfill], by simp [rfill], fun k hk => by simp [rfill] at hk⟩
  | k + 1, hk => by
    have hkl : k < P.length := by omega
    rw [List.take_succ_eq_append_getElem hkl, rfill_snoc]
    refine (rfill_RI h k (by omega)).step (h.ok _ (List.getElem_mem hkl)) (fun q hq => ?_) (fun q hq => h.ok q (List.mem_of_mem_take hq))
    obtain ⟨j, hj, rfl⟩ := List.getElem_of_mem hq
    have hj2 : j < k := by simp at hj; omega
    rw [List.getElem_take]
    exact List.pairwise_iff_getElem.1 h.rise j k (by omega) hkl hj2
/-- the document's atom of a number -/
def rofP (ss : List (List (Int × Int))) (L : List (List Bool × List (Int × Int))) (u : Int) : Int := if unD u then (((L.map Prod.fst).idxOf (inV ss u) : Nat) : Int) else -1
where unD (u : Int) : Bool := decide ((0 ≤ u ∧ u ≤ 55295) ∨ (57344 ≤ u ∧ u ≤ 1114111) ∨ (1114240 ≤ u ∧ u ≤ 1114367))
theorem unD_iff (u : Int) : rofP.unD u = true ↔ isUn u := by
  unfold rofP.unD isUn inS anyR
  simp
theorem RI.tells {ss : List (List (Int × Int))} {P : List (Int × Int)} (hP : Pcs ss P) {L : List (List Bool × List (Int × Int))} (h : RI ss P L) : Tells ss L.length (rofP ss L) ∧ ∀ k (hk : k < L.length) u, inS L[k].2 u ↔ rofP ss L u = k := by
  have hmem : ∀ u, isUn u → inV ss u ∈ L.map Prod.fst := fun u hu => by
    obtain ⟨p, hp, p1, p2⟩ := hP.all u hu
    rw [hP.same p hp u p1 p2]
    exact h.has p hp
  have hof : ∀ u, isUn u → ∃ k, ∃ hk : k < L.length, rofP ss L u = k ∧ L[k].1 = inV ss u := fun u hu => by
    have hi := List.idxOf_lt_length_of_mem (hmem u hu)
    refine ⟨_, by simpa using hi, by unfold rofP; rw [if_pos ((unD_iff u).2 hu)], ?_⟩
    have := List.getElem_idxOf (xs := L.map Prod.fst) (x := inV ss u) hi
    rw [List.getElem_map] at this
    exact this
  have hno : ∀ u, ¬ isUn u → rofP ss L u = -1 := fun u hu => by
    unfold rofP
    rw [if_neg]
    intro e; exact hu ((unD_iff u).1 e)
  have huniq : ∀ i j (hi : i < L.length) (hj : j < L.length), L[i].1 = L[j].1 → i = j := fun i j hi hj e => nodup_idx h.nd (x := L[i].1) (by simp [hi]) (by simp [hj, e])
  have hspan : ∀ k (hk : k < L.length) u, inS L[k].2 u ↔ rofP ss L u = k := fun k hk u => by
    rw [h.un _ (List.getElem_mem hk) u]
    constructor
    · rintro ⟨p, hp, p1, p2, p3⟩
      obtain ⟨j, hj, e1, e2⟩ := hof u (hP.un p hp u p1 p2)
      rw [hP.same p hp u p1 p2, p3] at e2
      rw [e1, huniq j k hj hk e2]
    · intro e
      have hu : isUn u := Classical.byContradiction fun hn => by have := hno u hn; omega
      obtain ⟨p, hp, p1, p2⟩ := hP.all u hu
      obtain ⟨j, hj, e1, e2⟩ := hof u hu
      have : j = k := by omega
      subst this
      exact ⟨p, hp, p1, p2, by rw [e2, hP.same p hp u p1 p2]⟩
  refine ⟨⟨hno, fun u hu => ?_, fun u v hu hv => ?_, fun k hk => ?_, fun k k' hkk hk' => ?_⟩, hspan⟩
  · obtain ⟨k, hk, e, _⟩ := hof u hu
    exact ⟨k, e, hk⟩
  · rw [← inV_alike]
    obtain ⟨i, hi, e1, e2⟩ := hof u hu
    obtain ⟨j, hj, e3, e4⟩ := hof v hv
    constructor
    · intro e
      have : i = j := by omega
      subst this
      rw [← e2, ← e4]
    · intro e
      rw [e1, e3, huniq i j hi hj (by rw [e2, e4, e])]
  · obtain ⟨p, hp, p1, _⟩ := h.fst k hk
    have hpo := hP.ok p hp
    refine ⟨p.1, hP.un p hp _ (Int.le_refl _) hpo, (hspan k hk p.1).1 ((h.un _ (List.getElem_mem hk) p.1).2 ⟨p, hp, Int.le_refl _, hpo, p1⟩)⟩
  · obtain ⟨p, hp, p1, p2⟩ := h.fst k (by omega)
    have hpo := hP.ok p hp
    refine ⟨p.1, (hspan k (by omega) p.1).1 ((h.un _ (List.getElem_mem (by omega)) p.1).2 ⟨p, hp, Int.le_refl _, hpo, p1⟩), fun v hv => ?_⟩
    obtain ⟨q, hq, q1, q2, q3⟩ := (h.un _ (List.getElem_mem hk') v).1 ((hspan k' hk' v).2 hv)
    have := p2 k' hk' hkk q hq q3
    omega
end Go.Proofs
namespace Go.Proofs

/-- one range more bounds a piece -/
def cut1 (lo hi : Int) (r : Int × Int) : Int :=
  if r.2 ≥ lo ∧ r.2 < (if r.1 > lo ∧ r.1 - 1 < hi then r.1 - 1 else hi) then r.2 else (if r.1 > lo ∧ r.1 - 1 < hi then r.1 - 1 else hi)
def cutS (lo hi : Int) (s : List (Int × Int)) : Int := s.foldl (cut1 lo) hi
def cutH (lo hi : Int) (ss : List (List (Int × Int))) : Int := ss.foldl (cutS lo) hi
theorem cut1_facts {lo hi : Int} {r : Int × Int} (h : lo ≤ hi) : lo ≤ cut1 lo hi r ∧ cut1 lo hi r ≤ hi ∧ ¬ (lo < r.1 ∧ r.1 ≤ cut1 lo hi r) ∧ ¬ (lo ≤ r.2 ∧ r.2 < cut1 lo hi r) := by
  unfold cut1
  repeat' split
  all_goals omega
theorem cutS_facts {lo : Int} : ∀ (s : List (Int × Int)) {hi : Int}, lo ≤ hi → lo ≤ cutS lo hi s ∧ cutS lo hi s ≤ hi ∧ ∀ r ∈ s, ¬ (lo < r.1 ∧ r.1 ≤ cutS lo hi s) ∧ ¬ (lo ≤ r.2 ∧ r.2 < cutS lo hi s)
  | [], hi, h => ⟨h, Int.le_refl _, by simp⟩
  | r :: s, hi, h => by
    obtain ⟨a1, a2, a3, a4⟩ := cut1_facts (r := r) h
    obtain ⟨b1, b2, b3⟩ := cutS_facts s a1
    have e : cutS lo hi (r :: s) = cutS lo (cut1 lo hi r) s := rfl
    rw [e]
    refine ⟨b1, by omega, fun q hq => ?_⟩
    simp only [List.mem_cons] at hq
    rcases hq with rfl | hq
    · omega
    · exact b3 q hq
theorem cutH_facts {lo : Int} : ∀ (ss : List (List (Int × Int))) {hi : Int}, lo ≤ hi → lo ≤ cutH lo hi ss ∧ cutH lo hi ss ≤ hi ∧ ∀ s ∈ ss, ∀ r ∈ s, ¬ (lo < r.1 ∧ r.1 ≤ cutH lo hi ss) ∧ ¬ (lo ≤ r.2 ∧ r.2 < cutH lo hi ss)
  | [], hi, h => ⟨h, Int.le_refl _, by simp⟩
  | s :: ss, hi, h => by
    obtain ⟨a1, a2, a3⟩ := cutS_facts s h
    obtain ⟨b1, b2, b3⟩ := cutH_facts ss a1
    have e : cutH lo hi (s :: ss) = cutH lo (cutS lo hi s) ss := rfl
    rw [e]
    refine ⟨b1, by omega, fun q hq r hr => ?_⟩
    simp only [List.mem_cons] at hq
    rcases hq with rfl | hq
    · have := a3 r hr; omega
    · exact b3 q hq r hr
theorem cutS_snoc (lo hi : Int) (s : List (Int × Int)) (r : Int × Int) : cutS lo hi (s ++ [r]) = cut1 lo (cutS lo hi s) r := by simp [cutS]
theorem cutH_snoc (lo hi : Int) (ss : List (List (Int × Int))) (s : List (Int × Int)) : cutH lo hi (ss ++ [s]) = cutS lo (cutH lo hi ss) s := by simp [cutH]
/-- within a piece nothing changes -/
theorem cutH_same {lo hi : Int} {ss : List (List (Int × Int))} (h : lo ≤ hi) {u : Int} (h1 : lo ≤ u) (h2 : u ≤ cutH lo hi ss) : inV ss u = inV ss lo := by
  obtain ⟨_, _, b3⟩ := cutH_facts ss h
  unfold inV
  apply List.map_congr_left
  intro s hs
  rw [Bool.eq_iff_iff, decide_eq_true_eq, decide_eq_true_eq]
  unfold hasU
  constructor
  · rintro ⟨r, hr, r1, r2⟩
    have := b3 s hs r hr
    exact ⟨r, hr, by omega, by omega⟩
  · rintro ⟨r, hr, r1, r2⟩
    have := b3 s hs r hr
    exact ⟨r, hr, by omega, by omega⟩
/-- the pieces from a number up tq another one -/
inductive Cuts (ss : List (List (Int × Int))) (hi : Int) : Int → List (Int × Int) → Int → Prop
  | nil (lo : Int) : Cuts ss hi lo [] lo
  | snoc {lo mid : Int} {P : List (Int × Int)} (h : Cuts ss hi lo P mid) (hm : mid ≤ hi) : Cuts ss hi lo (P ++ [(mid, cutH mid hi ss)]) (cutH mid hi ss + 1)
theorem Cuts.facts {ss : List (List (Int × Int))} {hi lo tq : Int} {P : List (Int × Int)} (h : Cuts ss hi lo P tq) (hl : lo ≤ hi + 1) : lo ≤ tq ∧ tq ≤ hi + 1 ∧ (∀ p ∈ P, p.1 ≤ p.2 ∧ lo ≤ p.1 ∧ p.2 < tq) ∧ P.Pairwise (fun p q => p.2 < q.1) ∧ (∀ p ∈ P, ∀ u, p.1 ≤ u → u ≤ p.2 → inV ss u = inV ss p.1) ∧ (∀ u, lo ≤ u → u < tq → ∃ p ∈ P, p.1 ≤ u ∧ u ≤ p.2) ∧ (P.length : Int) ≤ tq - lo := by
  induction h with
  | nil => exact ⟨Int.le_refl _, hl, by simp, by simp, by simp, fun u h1 h2 => by omega, by simp⟩
  | snoc h hm ih =>
    rename_i mid P
    obtain ⟨a1, a2, a3, a4, a5, a6, a7⟩ := ih
    obtain ⟨b1, b2, _⟩ := cutH_facts ss hm
    refine ⟨by omega, by omega, fun p hp => ?_, ?_, fun p hp u h1 h2 => ?_, fun u h1 h2 => ?_, ?_⟩
    · rcases List.mem_append.1 hp with hp | hp
      · have := a3 p hp; omega
      · simp at hp; subst hp; simp only; omega
    · rw [List.pairwise_append]
      exact ⟨a4, by simp, fun x hx y hy => by simp at hy; subst hy; have := a3 x hx; simp only; omega⟩
    · rcases List.mem_append.1 hp with hp | hp
      · exact a5 p hp u h1 h2
      · simp at hp; subst hp; exact cutH_same hm h1 h2
    · by_cases hu : u < mid
      · obtain ⟨p, hp, p1⟩ := a6 u h1 hu
        exact ⟨p, List.mem_append_left _ hp, p1⟩
      · exact ⟨(mid, cutH mid hi ss), by simp, by simp only; omega, by simp only; omega⟩
    · simp; omega
/-- all three rows of units together -/
theorem cuts_Pcs {ss : List (List (Int × Int))} {P1 P2 P3 : List (Int × Int)} (h1 : Cuts ss 55295 0 P1 55296) (h2 : Cuts ss 1114111 57344 P2 1114112) (h3 : Cuts ss 1114367 1114240 P3 1114368) : Pcs ss (P1 ++ P2 ++ P3) := by
  obtain ⟨_, _, a3, a4, a5, a6, _⟩ := h1.facts (by decide)
  obtain ⟨_, _, b3, b4, b5, b6, _⟩ := h2.facts (by decide)
  obtain ⟨_, _, c3, c4, c5, c6, _⟩ := h3.facts (by decide)
  have mem : ∀ p, p ∈ P1 ++ P2 ++ P3 ↔ p ∈ P1 ∨ p ∈ P2 ∨ p ∈ P3 := fun p => by simp
  refine ⟨fun p hp => ?_, ?_, fun p hp u u1 u2 => ?_, fun p hp u u1 u2 => ?_, fun u hu => ?_⟩
  · rcases (mem p).1 hp with hp | hp | hp
    · exact (a3 p hp).1
    · exact (b3 p hp).1
    · exact (c3 p hp).1
  · rw [List.pairwise_append, List.pairwise_append]
    refine ⟨⟨a4, b4, fun x hx y hy => ?_⟩, c4, fun x hx y hy => ?_⟩
    · have := a3 x hx; have := b3 y hy; omega
    · rcases List.mem_append.1 hx with hx | hx
      · have := a3 x hx; have := c3 y hy; omega
      · have := b3 x hx; have := c3 y hy; omega
  · rcases (mem p).1 hp with hp | hp | hp
    · have := a3 p hp; exact ⟨(0, 55295), by simp [anyR], by simp only; omega, by simp only; omega⟩
    · have := b3 p hp; exact ⟨(57344, 1114111), by simp [anyR], by simp only; omega, by simp only; omega⟩
    · have := c3 p hp; exact ⟨(1114240, 1114367), by simp [anyR], by simp only; omega, by simp only; omega⟩
  · rcases (mem p).1 hp with hp | hp | hp
    · exact a5 p hp u u1 u2
    · exact b5 p hp u u1 u2
    · exact c5 p hp u u1 u2
  · obtain ⟨z, hz, z1, z2⟩ := hu
    simp only [anyR, List.mem_cons, List.not_mem_nil, or_false] at hz
    rcases hz with rfl | rfl | rfl
    · obtain ⟨p, hp, h⟩ := a6 u z1 (by simp only at z2; omega)
      exact ⟨p, (mem p).2 (.inl hp), h⟩
    · obtain ⟨p, hp, h⟩ := b6 u z1 (by simp only at z2; omega)
      exact ⟨p, (mem p).2 (.inr (.inl hp)), h⟩
    · obtain ⟨p, hp, h⟩ := c6 u z1 (by simp only at z2; omega)
      exact ⟨p, (mem p).2 (.inr (.inr hp)), h⟩
end Go.Proofs
namespace Go.Proofs
open Go.RowKit Go.Shelf

set_option maxRecDepth 100000
attribute [local go_sem] Oper.semAt_some
attribute [local go_sem ↓] Go.wp_at_zero Go.wp_at_succ

theorem any45 (w : World) : Calls Tryd.prog 45 #[] w fun e w' => e = .returned (.slice (some ⟨w.heap.size, 0, none⟩) 3 3) ∧ w' = w.alloc (.cells #[.int .i64 0, .int .i64 55295, .int .i64 57344, .int .i64 1114111, .int .i64 1114240, .int .i64 1114367] 29) := by
  have HD := Hid.mk' (domain_any w)
  go_enter Tryd.func45, Tryd.ntmps45
  go_wp2_with (go_at_call 33; refine HD.out.mono ?_; rintro e w1 ⟨rfl, rfl⟩)
  go_ret
  exact ⟨rfl, rfl⟩
/-- how far the pieces have come -/
def Stg (ss : List (List (Int × Int))) : Nat → List (Int × Int) → Prop
  | 0, P => P = []
  | 1, P => Cuts ss 55295 0 P 55296
  | 2, P => ∃ P1 P2, P = P1 ++ P2 ∧ Cuts ss 55295 0 P1 55296 ∧ Cuts ss 1114111 57344 P2 1114112
  | _, P => ∃ P1 P2 P3, P = P1 ++ P2 ++ P3 ∧ Cuts ss 55295 0 P1 55296 ∧ Cuts ss 1114111 57344 P2 1114112 ∧ Cuts ss 1114367 1114240 P3 1114368
theorem Stg.next {ss : List (List (Int × Int))} {i : Nat} (hi : i < 3) {P Q : List (Int × Int)} (h : Stg ss i P) (hc : Cuts ss (rg allU i).2 (rg allU i).1 Q ((rg allU i).2 + 1)) : Stg ss (i + 1) (P ++ Q) := by
  match i, hi with
  | 0, _ => subst h; exact hc
  | 1, _ => exact ⟨P, Q, rfl, h, hc⟩
  | 2, _ =>
    obtain ⟨P1, P2, rfl, h1, h2⟩ := h
    exact ⟨P1, P2, Q, rfl, h1, h2, hc⟩
theorem Stg.len {ss : List (List (Int × Int))} : ∀ {i : Nat} {P : List (Int × Int)}, Stg ss i P → P.length ≤ 2228736
  | 0, P, h => by subst h; simp
  | 1, P, h => by have := (h.facts (by decide)).2.2.2.2.2.2; omega
  | 2, P, h => by
    obtain ⟨P1, P2, rfl, h1, h2⟩ := h
    have := (h1.facts (by decide)).2.2.2.2.2.2
    have := (h2.facts (by decide)).2.2.2.2.2.2
    simp; omega
  | i + 3, P, h => by
    obtain ⟨P1, P2, P3, rfl, h1, h2, h3⟩ := h
    have := (h1.facts (by decide)).2.2.2.2.2.2
    have := (h2.facts (by decide)).2.2.2.2.2.2
    have := (h3.facts (by decide)).2.2.2.2.2.2
    simp; omega
/-- the bounds of a piece -/
def PieceQ (w : World) (A : Option Addr) (vals : List Value) (ss : List (List (Int × Int))) : Prop := LV w A vals ss ∧ ∀ s ∈ ss, ∀ x ∈ s, 0 ≤ x.1 ∧ x.1 ≤ 1114367 ∧ 0 ≤ x.2 ∧ x.2 ≤ 1114367
theorem push_R3 {ops : Array Oper} {rest : List Oper} {o : Oper} {a : Act} {Q : Exit → Act → World → Prop} {w : World} (hgd : o.guard = none) (s x : Operand) (t : TypeId)
    (ho : o.op = .call { callee := .builtin .append, args := #[s, x], argTypes := #[t, t] }) (ht : Tryd.prog.underlying t = some (.slice 29))
    (base : Nat) (v : Value) (l : List (Int × Int)) (hs : a.eval s = v) (hown : OwnR w base v l) (g c : Nat) (p q : Int) (hx : a.eval x = .slice (some ⟨g, 0, none⟩) 1 c)
    (hc : w.heap[g]? = some (.cells #[.int .i64 p, .int .i64 q] 29 (0, 0))) (hl : l.length + 1 ≤ 8796093022208) (hbase : base ≤ w.heap.size)
    (h : ∀ v' w', OwnR w' base v' (l ++ [(p, q)]) → w.grownBy w' v.ownBlock → Loc w v v' → wpList Tryd.prog ops Q rest (a.put o.dst v') w') : wpList Tryd.prog ops Q (o :: rest) a w := by
  obtain ⟨i0, hi, hz0, hz1, hz2⟩ := info_parts info38
  refine wpList_append_own_at w hgd s x t ho base 29 i0 (.agg #[.int .i64 0, .int .i64 0]) 2 16 ht hi hz0 hz1 hz2 rfl (by decide) v l.length (fl l) hs hown ⟨g, 0, none⟩ 1 c (fl [(p, q)]) hx rfl ?_ (fl_one _) (by unfold maxLen; omega) (by omega) hbase (fun v' w' h2 h3 _ h5 => h v' w' ?_ h3 ?_)
  · intro j u hj
    rw [add_zero_at]
    match j, hj with
    | 0, hj => simp [fl] at hj; subst hj; exact heap_cellv hc rfl
    | 1, hj => simp [fl] at hj; subst hj; exact heap_cellv hc rfl
  · unfold OwnR
    rw [fl_append, List.length_append]
    exact h2
  · rcases h5 with h5 | h5
    · exact .inl h5
    · exact .inr ⟨_, h5, Nat.le_refl _⟩
/-- the pieces in memory, and the units -/
def CQ (w : World) (g1 g2 : Nat) (rv : Value) (P : List (Int × Int)) (W : World) : Prop := OwnR W g1 rv P ∧ Below g1 w W ∧ Reads W g2 0 allU ∧ g2 < W.heap.size ∧ rv.ownBlock ≠ some g2
theorem CQ.push {w W W' : World} {g1 g2 : Nat} {rv v' : Value} {P : List (Int × Int)} {p : Int × Int} {ob : Obj} (h : CQ w g1 g2 rv P W) (hb : g1 ≤ W.heap.size) (h1 : OwnR W' g1 v' (P ++ [p])) (h2 : (W.alloc ob).grownBy W' rv.ownBlock) (h3 : Loc (W.alloc ob) rv v') : CQ w g1 g2 v' (P ++ [p]) W' := by
  obtain ⟨a1, a2, a3, a4, a5⟩ := h
  have f : Fr W W' (fun k => rv.ownBlock = some k) := (fr_grown ((Grown.refl W).alloc ob) _).trans (fr_by h2) fun _ _ e => e
  refine ⟨h1, a2.trans (f.below (fun k hk => (World.ownsRow.lt a1 k hk).1) hb), a3.frD a4 f a5, by have := f.size; omega, fun e => ?_⟩
  rcases h3 with h3 | ⟨j, h3, hj⟩
  · exact a5 (h3 ▸ e)
  · rw [e] at h3
    injection h3 with h3
    simp at hj
    omega
def CutQ (ss : List (List (Int × Int))) (w : World) (e : Ending) (w' : World) : Prop := ∃ v P, e = .returned v ∧ OwnR w' w.heap.size v P ∧ Pcs ss P ∧ P.length ≤ 4000000 ∧ Below w.heap.size w w'
set_option maxHeartbeats 8000000 in
theorem cuts_walk (A : Option Addr) (n c : Nat) (vals : List Value) (ss : List (List (Int × Int))) (w : World) (hN : ss.length = n) (hn : n ≤ 1500) (h : LV w A vals ss) (hv : ∀ s ∈ ss, validB s = true) :
    Calls Tryd.prog 25 #[.slice A n c] w (CutQ ss w) := by
  have HL := Hid.mk' h
  have HN := Hid.mk' hN
  have HV := Hid.mk' hv
  have HBD := Hid.mk' (turn_bd hv)
  have hnI : (n : Int) ≤ 1500 := by omega
  clear h hN hv
  go_enter Tryd.func25, Tryd.ntmps25
  go_wp2_with fail
  obtain ⟨w1, hw1⟩ : ∃ w1, w1 = w.alloc (.cells #[] 29) := ⟨_, rfl⟩
  rw [← hw1]
  refine (any45 w1).mono ?_
  rintro e w2 ⟨rfl, hw2⟩
  obtain ⟨g2, hg2⟩ : ∃ g2, w1.heap.size = g2 := ⟨_, rfl⟩
  rw [hg2]
  obtain ⟨g1, hg1⟩ : ∃ g1, w.heap.size = g1 := ⟨_, rfl⟩
  have HO2 : Hid (OwnR w2 w.heap.size (.slice (some ⟨g1, 0, none⟩) 0 0) [] ∧ Below w.heap.size w w2) := by
    have o1 : OwnR w1 w.heap.size (.slice (some ⟨w.heap.size, 0, none⟩) 0 0) [] := by
      rw [hw1]
      exact ⟨rfl, .inr ⟨w.heap.size, 0, #[], rfl, Nat.le_refl _, heap_alloc_new _ _, Nat.le_refl _, Nat.zero_le _, rfl, rfl⟩⟩
    rw [← hg1, hw2]
    refine ⟨o1.alloc _, ?_⟩
    have hb : Below w.heap.size w w1 := by rw [hw1]; exact (Below.refl _ w).alloc (Nat.le_refl _) _
    exact hb.alloc hb.size _
  have HD : Hid (Reads w2 g2 0 allU ∧ g2 < w2.heap.size ∧ w.heap.size < g2) := by
    rw [hw2, ← hg2]
    refine ⟨(lit3 w1 _ rfl).reads, by simp, by rw [hw1]; simp⟩
  clear hw1 hw2 hg2
  rw [hg1]
  go_wp2
  go_loopg [3, 5] 3 (fun q s3 s5 wr => ∃ (i : Nat) (rv : Value) (P : List (Int × Int)), rv = s3 ∧ s5 = .int .i64 (i : Int) ∧ i ≤ 3 ∧ 3 - i ≤ q ∧ Hid (CQ w g1 g2 rv P wr ∧ Stg ss i P))
  case atStart =>
    obtain ⟨o1, o2⟩ := HO2.out
    obtain ⟨d1, d2, d3⟩ := HD.out
    rw [hg1] at o1 o2 d3
    exact ⟨0, _, [], rfl, rfl, by omega, by omega, ⟨o1, o2, d1, d2, by simp [Value.ownBlock]; omega⟩, rfl⟩
  case round =>
    obtain ⟨i, rv, P, rfl, rfl, hi1, hi2, HR⟩ := hrel
    clear HO2 HD
    have hiI : (i : Int) ≤ 3 := by omega
    by_cases hil : i < 3
    · have hilI : (i : Int) < 3 := by omega
      obtain ⟨lo0, hlo0⟩ : ∃ lo0, (rg allU i).1 = lo0 := ⟨_, rfl⟩
      obtain ⟨hi0, hhi0⟩ : ∃ hi0, (rg allU i).2 = hi0 := ⟨_, rfl⟩
      have hbd0 : 0 ≤ lo0 ∧ lo0 ≤ hi0 ∧ hi0 ≤ 1114367 := by
        rw [← hlo0, ← hhi0]
        match i, hil with
        | 0, _ => decide
        | 1, _ => decide
        | 2, _ => decide
      have HAT : Hid (∀ W, Reads W g2 0 allU → W.cell? ⟨g2, i * 2, none⟩ = some (.int .i64 lo0) ∧ W.cell? ⟨g2, i * 2 + 1, none⟩ = some (.int .i64 hi0)) := fun W hW => by
        have := hW i hil
        rw [hlo0, hhi0, Nat.zero_add] at this
        exact this
      have HLH : Hid ((rg allU i).1 = lo0 ∧ (rg allU i).2 = hi0) := ⟨hlo0, hhi0⟩
      obtain ⟨cL, cH⟩ := HAT.out wr HR.out.1.2.2.1
      clear hlo0 hhi0
      obtain ⟨wo, hwo⟩ : ∃ wo, wo = wr := ⟨_, rfl⟩
      subst hwo
      go_wp2
      clear cL cH
      go_loopg [3, 6] ((hi0 + 1 - lo0).toNat) (fun q s3 s6 wr => ∃ (rv' : Value) (Q : List (Int × Int)) (mid : Int), rv' = s3 ∧ s6 = .int .i64 mid ∧ lo0 ≤ mid ∧ mid ≤ hi0 + 1 ∧ (hi0 + 1 - mid).toNat ≤ q ∧ Hid (CQ w g1 g2 rv' (P ++ Q) wr ∧ Cuts ss hi0 lo0 Q mid))
      case atStart => exact ⟨rv, [], lo0, rfl, rfl, by omega, by omega, by omega, by rw [List.append_nil]; exact HR.out.1, Cuts.nil _⟩
      case round =>
        obtain ⟨rv', Q, mid, rfl, rfl, hm1, hm2, hm3, HR2⟩ := hrel
        obtain ⟨_, cH⟩ := HAT.out wr HR2.out.1.2.2.1
        by_cases hml : mid ≤ hi0
        · obtain ⟨wp, hwp⟩ : ∃ wp, wp = wr := ⟨_, rfl⟩
          subst hwp
          go_wp2
          clear cH
          go_loopg [7, 8] n (fun q s7 s8 wr => ∃ (k : Nat) (hv : Int), s7 = .int .i64 hv ∧ s8 = .int .i64 (k : Int) ∧ k ≤ n ∧ n - k ≤ q ∧ Hid (wr = wp ∧ hv = cutH mid hi0 (ss.take k)))
          case atStart => exact ⟨0, hi0, rfl, rfl, by omega, by omega, rfl, rfl⟩
          case round =>
            obtain ⟨k, hv, rfl, rfl, hk1, hk2, HR3⟩ := hrel
            have hwe := HR3.out.1
            subst hwe
            have hkI : (k : Int) ≤ 1500 := by omega
            have hhb : mid ≤ hv ∧ hv ≤ hi0 := by
              rw [HR3.out.2]
              have := cutH_facts (ss.take k) hml
              exact ⟨this.1, this.2.1⟩
            by_cases hkl : k < n
            · have hklI : (k : Int) < (n : Int) := by omega
              have hks : k < ss.length := by rw [HN.out]; exact hkl
              have hkv : k < vals.length := by rw [HL.out.len]; exact hks
              have hbw : Below g1 w wr := HR2.out.1.2.1
              obtain ⟨g, o, hA, hc⟩ := HL.out.rd k vals[k] (List.getElem?_eq_getElem hkv)
              subst hA
              have hrs := HL.out.rs k vals[k] ss[k] (List.getElem?_eq_getElem hkv) (List.getElem?_eq_getElem hks)
              obtain ⟨sa, sc, hse, hcap, hrd⟩ := id hrs
              obtain ⟨L, hL⟩ : ∃ L, ss[k].length = L := ⟨_, rfl⟩
              rw [hL] at hse hcap
              rw [hse] at hc
              have hcr := cell_below hc hbw (Nat.le_of_eq hg1)
              have hrsr := hrs.below hbw (Nat.le_of_eq hg1)
              have hL5 : L ≤ 512 := by rw [← hL]; exact ((validB_iff _).1 (HV.out _ (List.getElem_mem hks))).1
              have HRS : Hid (Rs wr (.slice sa L sc) ss[k]) := by rw [← hse]; exact hrsr
              have HLL := Hid.mk' hL
              have HTKk : Hid (ss.take (k + 1) = ss.take k ++ [ss[k]]) := List.take_succ_eq_append_getElem hks
              have HB := HBD.out _ (List.getElem_mem hks)
              have HB := Hid.mk' HB
              clear hrs hse hL hc hrsr hbw hkv hrd hcap
              obtain ⟨wx, hwx⟩ : ∃ wx, wx = wr := ⟨_, rfl⟩
              subst hwx
              have hLI : (L : Int) ≤ 512 := by omega
              go_wp2
              go_loopg [7, 9] L (fun q s7 s9 wr => ∃ (j : Nat) (hw : Int), s7 = .int .i64 hw ∧ s9 = .int .i64 (j : Int) ∧ j ≤ L ∧ L - j ≤ q ∧ Hid (wr = wx ∧ hw = cutS mid hv (ss[k].take j)))
              case atStart => exact ⟨0, hv, rfl, rfl, by omega, by omega, rfl, rfl⟩
              case round =>
                obtain ⟨j, hw, rfl, rfl, hj1, hj2, HR4⟩ := hrel
                have hwe := HR4.out.1
                subst hwe
                have hjI : (j : Int) ≤ 512 := by omega
                by_cases hjl : j < L
                · have hjlI : (j : Int) < (L : Int) := by omega
                  have hjs : j < ss[k].length := by rw [HLL.out]; exact hjl
                  obtain ⟨sa', sc', hse, _, hrd⟩ := HRS.out
                  injection hse with hse1 _ _
                  subst hse1
                  obtain ⟨sg, so, hsa, hrd2⟩ := hrd.resolve_left (fun e => by rw [e] at hjs; simp at hjs)
                  clear hrd
                  subst hsa
                  obtain ⟨ca, cb⟩ := hrd2 j hjs
                  obtain ⟨rl, hrl⟩ : ∃ rl, (rg ss[k] j).1 = rl := ⟨_, rfl⟩
                  obtain ⟨rh, hrh⟩ : ∃ rh, (rg ss[k] j).2 = rh := ⟨_, rfl⟩
                  rw [hrl] at ca
                  rw [hrh] at cb
                  have hb4 := HB.out _ (rg_mem hjs)
                  rw [hrl, hrh] at hb4
                  obtain ⟨b1, b2, b3, b4⟩ := hb4
                  have HTK : Hid (cutS mid hv (ss[k].take (j + 1)) = cut1 mid hw (rl, rh)) := by
                    show _ = _
                    rw [List.take_succ_eq_append_getElem hjs, ← rg_lt hjs, cutS_snoc, ← HR4.out.2, show rg ss[k] j = (rl, rh) from Prod.ext hrl hrh]
                  have hwb : mid ≤ hw ∧ hw ≤ hv := by
                    rw [HR4.out.2]
                    have := cutS_facts (ss[k].take j) hhb.1
                    exact ⟨this.1, this.2.1⟩
                  obtain ⟨w1, w2⟩ := hwb
                  clear hrd2 hrl hrh
                  by_cases c1 : mid < rl
                  · have c1d : decide (mid < rl) = true := by simpa using c1
                    by_cases c2 : rl - 1 < hw
                    · have c2d : decide (rl - 1 < hw) = true := by simpa using c2
                      by_cases d1 : mid ≤ rh
                      · have d1d : decide (mid ≤ rh) = true := by simpa using d1
                        by_cases d2 : rh < rl - 1
                        · have d2d : decide (rh < rl - 1) = true := by simpa using d2
                          go_wp2
                          go_roundg (L - (j + 1))
                          case measure => omega
                          case rel => exact ⟨j + 1, _, rfl, rfl, by omega, Nat.le_refl _, rfl, by rw [HTK.out]; unfold cut1; (repeat' split) <;> simp only at * <;> omega⟩
                        · have d2d : decide (rh < rl - 1) = false := by simpa using d2
                          go_wp2
                          go_roundg (L - (j + 1))
                          case measure => omega
                          case rel => exact ⟨j + 1, _, rfl, rfl, by omega, Nat.le_refl _, rfl, by rw [HTK.out]; unfold cut1; (repeat' split) <;> simp only at * <;> omega⟩
                      · have d1d : decide (mid ≤ rh) = false := by simpa using d1
                        go_wp2
                        go_roundg (L - (j + 1))
                        case measure => omega
                        case rel => exact ⟨j + 1, _, rfl, rfl, by omega, Nat.le_refl _, rfl, by rw [HTK.out]; unfold cut1; (repeat' split) <;> simp only at * <;> omega⟩
                    · have c2d : decide (rl - 1 < hw) = false := by simpa using c2
                      by_cases d1 : mid ≤ rh
                      · have d1d : decide (mid ≤ rh) = true := by simpa using d1
                        by_cases d2 : rh < hw
                        · have d2d : decide (rh < hw) = true := by simpa using d2
                          go_wp2
                          go_roundg (L - (j + 1))
                          case measure => omega
                          case rel => exact ⟨j + 1, _, rfl, rfl, by omega, Nat.le_refl _, rfl, by rw [HTK.out]; unfold cut1; (repeat' split) <;> simp only at * <;> omega⟩
                        · have d2d : decide (rh < hw) = false := by simpa using d2
                          go_wp2
                          go_roundg (L - (j + 1))
                          case measure => omega
                          case rel => exact ⟨j + 1, _, rfl, rfl, by omega, Nat.le_refl _, rfl, by rw [HTK.out]; unfold cut1; (repeat' split) <;> simp only at * <;> omega⟩
                      · have d1d : decide (mid ≤ rh) = false := by simpa using d1
                        go_wp2
                        go_roundg (L - (j + 1))
                        case measure => omega
                        case rel => exact ⟨j + 1, _, rfl, rfl, by omega, Nat.le_refl _, rfl, by rw [HTK.out]; unfold cut1; (repeat' split) <;> simp only at * <;> omega⟩
                  · have c1d : decide (mid < rl) = false := by simpa using c1
                    by_cases d1 : mid ≤ rh
                    · have d1d : decide (mid ≤ rh) = true := by simpa using d1
                      by_cases d2 : rh < hw
                      · have d2d : decide (rh < hw) = true := by simpa using d2
                        go_wp2
                        go_roundg (L - (j + 1))
                        case measure => omega
                        case rel => exact ⟨j + 1, _, rfl, rfl, by omega, Nat.le_refl _, rfl, by rw [HTK.out]; unfold cut1; (repeat' split) <;> simp only at * <;> omega⟩
                      · have d2d : decide (rh < hw) = false := by simpa using d2
                        go_wp2
                        go_roundg (L - (j + 1))
                        case measure => omega
                        case rel => exact ⟨j + 1, _, rfl, rfl, by omega, Nat.le_refl _, rfl, by rw [HTK.out]; unfold cut1; (repeat' split) <;> simp only at * <;> omega⟩
                    · have d1d : decide (mid ≤ rh) = false := by simpa using d1
                      go_wp2
                      go_roundg (L - (j + 1))
                      case measure => omega
                      case rel => exact ⟨j + 1, _, rfl, rfl, by omega, Nat.le_refl _, rfl, by rw [HTK.out]; unfold cut1; (repeat' split) <;> simp only at * <;> omega⟩
                · have hje : j = L := by omega
                  subst hje
                  have hge : ¬ (j : Int) < (j : Int) := by omega
                  have HE : Hid (hw = cutH mid hi0 (ss.take (k + 1))) := by
                    have := HR4.out.2
                    rw [List.take_of_length_le (by have := HLL.out; omega), HR3.out.2, ← cutH_snoc, ← HTKk.out] at this
                    exact this
                  clear HR3 HR4
                  go_wp2
                  go_roundg (n - (k + 1))
                  case measure => omega
                  case rel => exact ⟨k + 1, _, rfl, rfl, by omega, Nat.le_refl _, rfl, HE.out⟩
            · have hke : k = n := by omega
              subst hke
              have hge : ¬ (k : Int) < (k : Int) := by omega
              have HE : Hid (hv = cutH mid hi0 ss) := by
                have := HR3.out.2
                rw [List.take_of_length_le (by have := HN.out; omega)] at this
                exact this
              have HLEN : Hid ((P ++ Q).length + 1 ≤ 8796093022208) := by
                have e1 := HR.out.2.len
                have e2 := (HR2.out.2.facts (by omega)).2.2.2.2.2.2
                show _ ≤ _
                simp
                omega
              have hbz : g1 ≤ wr.heap.size := by have := HR2.out.1.2.1.size; omega
              clear HR3
              go_wp2_with (at_builtin; go_must (refine push_R3 rfl _ _ 26 rfl Tryd.underlying26 g1 rv' (P ++ Q) rfl (HR2.out.1.1.alloc _) _ _ mid hv rfl (heap_alloc_new _ _) HLEN.out (by simp; omega) ?_; intro v' wn h1 h2 h3; have HQ := Hid.mk' (HR2.out.1.push hbz h1 h2 h3); clear h1 h2 h3))
              go_roundg ((hi0 + 1 - (hv + 1)).toNat)
              case measure => omega
              case rel => exact ⟨v', Q ++ [(mid, hv)], hv + 1, rfl, rfl, by omega, by omega, Nat.le_refl _, by rw [← List.append_assoc]; exact HQ.out, by rw [HE.out]; exact HR2.out.2.snoc hml⟩
        · have hme : mid = hi0 + 1 := by omega
          have HX : Hid (CQ w g1 g2 rv' (P ++ Q) wr ∧ Stg ss (i + 1) (P ++ Q)) := by
            refine ⟨HR2.out.1, HR.out.2.next hil ?_⟩
            rw [HLH.out.1, HLH.out.2, ← hme]
            exact HR2.out.2
          clear HR2 HR hme
          go_wp2
          go_roundg (3 - (i + 1))
          case measure => omega
          case rel => exact ⟨i + 1, _, _, rfl, rfl, by omega, Nat.le_refl _, HX.out⟩
    · have hie : i = 3 := by omega
      have HX : Hid (CQ w g1 g2 rv P wr ∧ Stg ss 3 P) := by rw [← hie]; exact HR.out
      have hge : ¬ (i : Int) < 3 := by omega
      clear HR hie
      go_wp2
      go_ret
      obtain ⟨⟨x1, x2, _⟩, P1, P2, P3, hP, y1, y2, y3⟩ := HX.out
      have hlen := Stg.len (i := 3) HX.out.2
      rw [← hg1] at x1 x2
      refine ⟨_, P, rfl, x1, ?_, by omega, x2⟩
      rw [hP]
      exact cuts_Pcs y1 y2 y3
end Go.Proofs
namespace Go.Proofs
open Go.RowKit Go.Shelf

set_option maxRecDepth 100000
attribute [local go_sem] Oper.semAt_some
attribute [local go_sem ↓] Go.wp_at_zero Go.wp_at_succ

def bls (l : List Bool) : List Value := l.map Value.bool
/-- a row of truths of the call's own -/
def OwnB (w : World) (base : Nat) (v : Value) (l : List Bool) : Prop := w.ownsRow base 4 1 v l.length (bls l)
theorem info4 : (Tryd.prog.info? 4).map (fun i => (i.zero, i.size, i.bytes)) = some (some (.bool false), 1, 1) := by kernel_rfl
theorem push_B {ops : Array Oper} {rest : List Oper} {o : Oper} {a : Act} {Q : Exit → Act → World → Prop} {w : World} (hgd : o.guard = none) (s x : Operand)
    (ho : o.op = .call { callee := .builtin .append, args := #[s, x], argTypes := #[61, 61] })
    (base : Nat) (v : Value) (l : List Bool) (hs : a.eval s = v) (hown : OwnB w base v l) (g c : Nat) (p : Bool) (hx : a.eval x = .slice (some ⟨g, 0, none⟩) 1 c)
    (hc : w.heap[g]? = some (.cells #[.bool p] 4 (0, 0))) (hl : l.length + 1 ≤ 1000000) (hbase : base ≤ w.heap.size)
    (h : ∀ v' w', OwnB w' base v' (l ++ [p]) → Below base w w' → wpList Tryd.prog ops Q rest (a.put o.dst v') w') : wpList Tryd.prog ops Q (o :: rest) a w := by
  obtain ⟨i0, hi, hz0, hz1, hz2⟩ := info_parts info4
  refine wpList_append_own_at w hgd s x 61 ho base 4 i0 (.bool false) 1 1 Tryd.underlying61 hi hz0 hz1 hz2 rfl (by decide) v l.length (bls l) hs hown ⟨g, 0, none⟩ 1 c (bls [p]) hx rfl ?_ (fun u hu => by simp [bls] at hu; rw [hu]; rfl) (by unfold maxLen; omega) (by omega) hbase (fun v' w' h2 h3 _ _ => h v' w' ?_ ?_)
  · intro j u hj
    rw [add_zero_at]
    match j, hj with
    | 0, hj => simp [bls] at hj; subst hj; exact heap_cellv hc rfl
  · unfold OwnB
    have e : bls (l ++ [p]) = bls l ++ bls [p] := by simp [bls]
    rw [List.length_append, e]; exact h2
  · exact (fr_by h3).below (fun k hk => (World.ownsRow.lt hown k hk).1) hbase
set_option maxHeartbeats 4000000 in
theorem in_walk (R : Nat) (A : Option Addr) (n c : Nat) (vals : List Value) (ss : List (List (Int × Int))) (u : Int) (w : World) (hc0 : w.cell? ⟨R, 0, none⟩ = some (.slice A n c)) (hN : ss.length = n) (hn : n ≤ 1500) (h : LV w A vals ss) (hv : ∀ s ∈ ss, validB s = true) :
    Calls Tryd.prog 26 #[.pointer (some ⟨R, 0, none⟩), .int .i64 u] w fun e w' => ∃ v, e = .returned v ∧ OwnB w' w.heap.size v (inV ss u) ∧ Below w.heap.size w w' := by
  have HL := Hid.mk' h
  have HN := Hid.mk' hN
  have HV := Hid.mk' hv
  have HC0 := Hid.mk' hc0
  have hnI : (n : Int) ≤ 1500 := by omega
  obtain ⟨h0, hh0⟩ : ∃ h0, w.heap.size = h0 := ⟨_, rfl⟩
  have HH := Hid.mk' hh0
  have HE : Hid (OwnB (w.alloc (.cells #[] 4)) h0 (.slice (some ⟨h0, 0, none⟩) 0 0) [] ∧ Below h0 w (w.alloc (.cells #[] 4))) := by
    rw [← hh0]
    exact ⟨⟨rfl, .inr ⟨w.heap.size, 0, #[], rfl, Nat.le_refl _, heap_alloc_new _ _, Nat.le_refl _, Nat.zero_le _, rfl, rfl⟩⟩, (Below.refl _ w).alloc (Nat.le_refl _) _⟩
  clear h hN hv hc0
  rw [hh0]
  go_enter Tryd.func26, Tryd.ntmps26
  go_wp2
  clear hh0
  go_loopg [5, 6] n (fun q s5 s6 wr => ∃ (i : Nat) (rv : Value), rv = s5 ∧ s6 = .int .i64 (i : Int) ∧ i ≤ n ∧ n - i ≤ q ∧ Hid (OwnB wr h0 rv (inV (ss.take i) u) ∧ Below h0 w wr))
  case atStart => exact ⟨0, _, rfl, rfl, by omega, by omega, by have := HE.out; simpa [inV, Hid] using this⟩
  case round =>
    obtain ⟨i, rv, rfl, rfl, hi1, hi2, HR⟩ := hrel
    clear HE
    have hiI : (i : Int) ≤ 1500 := by omega
    have hc0 : wr.cell? ⟨R, 0, none⟩ = some (.slice A n c) := cell_below HC0.out HR.out.2 (Nat.le_of_eq HH.out)
    by_cases hil : i < n
    · have hilI : (i : Int) < (n : Int) := by omega
      have his : i < ss.length := by rw [HN.out]; exact hil
      have hiv : i < vals.length := by rw [HL.out.len]; exact his
      obtain ⟨g, o, hA, hcl⟩ := HL.out.rd i vals[i] (List.getElem?_eq_getElem hiv)
      subst hA
      have hrs := HL.out.rs i vals[i] ss[i] (List.getElem?_eq_getElem hiv) (List.getElem?_eq_getElem his)
      obtain ⟨sa, sc, hse, _⟩ := id hrs
      obtain ⟨L, hL⟩ : ∃ L, ss[i].length = L := ⟨_, rfl⟩
      rw [hL] at hse
      rw [hse] at hcl
      have hcr := cell_below hcl HR.out.2 (Nat.le_of_eq HH.out)
      have hhas := rhas_any vals[i] ss[i] u wr (hrs.below HR.out.2 (Nat.le_of_eq HH.out))
      rw [hse, HV.out _ (List.getElem_mem his), Bool.true_and] at hhas
      have HHS := Hid.mk' hhas
      obtain ⟨pb, hpb⟩ : ∃ pb, decide (hasU ss[i] u) = pb := ⟨_, rfl⟩
      rw [hpb] at HHS
      have HTK : Hid (inV (ss.take (i + 1)) u = inV (ss.take i) u ++ [pb]) := by
        show _ = _
        rw [List.take_succ_eq_append_getElem his]
        unfold inV
        rw [List.map_append, ← hpb]; rfl
      have HLEN : Hid ((inV (ss.take i) u).length + 1 ≤ 1000000) := by
        show _ ≤ _
        unfold inV
        rw [List.length_map, List.length_take]
        omega
      clear hrs hse hL hcl hhas hpb hiv
      go_wp2_with (first
        | (go_at_call 20
           refine HHS.out.mono ?_
           rintro e w1 ⟨rfl, hg⟩
           have HG : Hid (OwnB w1 h0 rv (inV (ss.take i) u) ∧ Below h0 w w1) := ⟨own_fr HR.out.1 (fr_grown hg fun _ => False) fun _ _ e => e, HR.out.2.trans (hg.below.mono (by have := HR.out.2.size; have := HH.out; omega))⟩
           have hbz : h0 ≤ w1.heap.size := by have := HG.out.2.size; have := HH.out; omega
           clear hg)
        | (at_builtin; go_must (refine push_B rfl _ _ rfl h0 rv (inV (ss.take i) u) rfl (World.ownsRow.alloc HG.out.1 _) _ _ pb rfl (heap_alloc_new _ _) HLEN.out (by simp; omega) ?_
                                intro v' wn h1 h2
                                have HQ : Hid (OwnB wn h0 v' (inV (ss.take (i + 1)) u) ∧ Below h0 w wn) := ⟨by rw [HTK.out]; exact h1, (HG.out.2.alloc hbz _).trans h2⟩
                                clear h1 h2)))
      go_roundg (n - (i + 1))
      case measure => omega
      case rel => exact ⟨i + 1, _, rfl, rfl, by omega, Nat.le_refl _, HQ.out⟩
    · have hie : i = n := by omega
      subst hie
      have hge : ¬ (i : Int) < (i : Int) := by omega
      have HX : Hid (OwnB wr h0 rv (inV ss u) ∧ Below h0 w wr) := by
        have := HR.out
        rw [List.take_of_length_le (by have := HN.out; omega)] at this
        exact this
      clear HR
      go_wp2
      go_ret
      exact ⟨_, rfl, HX.out⟩
end Go.Proofs
namespace Go.Proofs
open Go.RowKit Go.Shelf

set_option maxRecDepth 100000
attribute [local go_sem] Oper.semAt_some
attribute [local go_sem ↓] Go.wp_at_zero Go.wp_at_succ

/-- a row of truths that can be read -/
def BR (w : World) (v : Value) (l : List Bool) : Prop := ∃ (a : Option Addr) (cap : Nat), v = .slice a l.length cap ∧ l.length ≤ cap ∧ (l = [] ∨ ∃ g o, a = some ⟨g, o, none⟩ ∧ ∀ j, j < l.length → w.cell? ⟨g, o + j, none⟩ = some (.bool (l.getD j false)))
theorem BR.grown {w w' : World} {v : Value} {l : List Bool} (h : BR w v l) (hg : Grown w w') : BR w' v l := by
  obtain ⟨a, cap, h1, h2, h3⟩ := h
  refine ⟨a, cap, h1, h2, h3.imp id ?_⟩
  rintro ⟨g, o, e, h⟩
  exact ⟨g, o, e, fun j hj => hg.cellv (h j hj)⟩
theorem OwnB.br {w : World} {base : Nat} {v : Value} {l : List Bool} (h : OwnB w base v l) : BR w v l := by
  rcases h.2 with ⟨rfl, h0⟩ | ⟨g, cap, cur, rfl, _, hg, hc, _, hsz, ht⟩
  · have : l = [] := List.eq_nil_of_length_eq_zero h0
    subst this
    exact ⟨none, 0, rfl, Nat.le_refl _, .inl rfl⟩
  · refine ⟨some ⟨g, 0, none⟩, cap, rfl, by omega, .inr ⟨g, 0, rfl, fun j hj => ?_⟩⟩
    rw [Nat.zero_add]
    refine heap_cellv hg ?_
    have h5 : (bls l)[j]? = some (.bool (l.getD j false)) := by simp [bls, List.getD, hj]
    rw [← ht, List.getElem?_take, if_pos (by omega), Array.getElem?_toList] at h5
    exact h5
theorem take_eq_succ {a b : List Bool} {i : Nat} (ha : i < a.length) (hb : i < b.length) : a.take (i + 1) = b.take (i + 1) ↔ a.take i = b.take i ∧ a.getD i false = b.getD i false := by
  rw [List.take_succ_eq_append_getElem ha, List.take_succ_eq_append_getElem hb]
  have e1 : a.getD i false = a[i] := by simp [List.getD, ha]
  have e2 : b.getD i false = b[i] := by simp [List.getD, hb]
  rw [e1, e2]
  constructor
  · intro h
    have hl : (a.take i).length = (b.take i).length := by simp; omega
    have := List.append_inj h hl
    exact ⟨this.1, by simpa using this.2⟩
  · rintro ⟨h1, h2⟩
    rw [h1, h2]
/-- the rows of truths of all atoms -/
def FR (w : World) (R : Nat) (la : Option Addr) (ln lc : Nat) (Ls : List (List Bool)) : Prop := w.cell? ⟨R, 1, none⟩ = some (.slice la ln lc) ∧ Ls.length = ln ∧ ∀ k (hk : k < Ls.length), ∃ lb lo iv, la = some ⟨lb, lo, none⟩ ∧ w.cell? ⟨lb, lo + k * 2 + 1, none⟩ = some iv ∧ BR w iv Ls[k]
theorem FR.grown {w w' : World} {R : Nat} {la : Option Addr} {ln lc : Nat} {Ls : List (List Bool)} (h : FR w R la ln lc Ls) (hg : Grown w w') : FR w' R la ln lc Ls :=
  ⟨hg.cellv h.1, h.2.1, fun k hk => by
    obtain ⟨lb, lo, iv, e, h1, h2⟩ := h.2.2 k hk
    exact ⟨lb, lo, iv, e, hg.cellv h1, h2.grown hg⟩⟩
def fndP (Ls : List (List Bool)) (bs : List Bool) : Int := if bs ∈ Ls then ((Ls.idxOf bs : Nat) : Int) else -1
set_option maxHeartbeats 4000000 in
theorem find_walk (R : Nat) (la : Option Addr) (ln lc : Nat) (Ls : List (List Bool)) (ba : Option Addr) (bn bc : Nat) (bs : List Bool) (w : World) (hF : FR w R la ln lc Ls) (hB : BR w (.slice ba bn bc) bs) (hl : ∀ x ∈ Ls, x.length = bs.length) (hn : bs.length ≤ 1500) (hln : ln ≤ 10000000) :
    Calls Tryd.prog 27 #[.pointer (some ⟨R, 0, none⟩), .slice ba bn bc] w fun e w' => e = .returned (.int .i64 (fndP Ls bs)) ∧ Grown w w' := by
  have hbn : bs.length = bn := by obtain ⟨_, _, e, _⟩ := hB; injection e with _ e _; exact e.symm
  have HF := Hid.mk' hF
  have HB := Hid.mk' hB
  have HL := Hid.mk' hl
  have HBN := Hid.mk' hbn
  have hbI : (bn : Int) ≤ 1500 := by omega
  have hbN : bn ≤ 1500 := by omega
  have hlI : (ln : Int) ≤ 10000000 := by omega
  clear hF hB hl hn hbn
  go_enter Tryd.func27, Tryd.ntmps27
  go_wp2
  go_loopg [5] ln (fun q s5 wr => ∃ k : Nat, s5 = .int .i64 (k : Int) ∧ k ≤ ln ∧ ln - k ≤ q ∧ Hid (Grown w wr ∧ ∀ j (hj : j < Ls.length), j < k → Ls[j] ≠ bs))
  case atStart => exact ⟨0, rfl, by omega, by omega, Grown.refl _, fun j hj h => by omega⟩
  case round =>
    obtain ⟨k, rfl, hk1, hk2, HR⟩ := hrel
    have hkI : (k : Int) ≤ 10000000 := by omega
    have c1 := (HF.out.grown HR.out.1).1
    by_cases hkl : k < ln
    · have hklI : (k : Int) < (ln : Int) := by omega
      have hks : k < Ls.length := by rw [HF.out.2.1]; exact hkl
      obtain ⟨wo, hwo⟩ : ∃ wo, wo = wr := ⟨_, rfl⟩
      subst hwo
      have HFO := Hid.mk' (HF.out.grown HR.out.1)
      have HBO := Hid.mk' (HB.out.grown HR.out.1)
      have HKL : Hid (Ls[k].length = bn) := by show _ = _; rw [HL.out _ (List.getElem_mem hks), HBN.out]
      go_wp2
      go_loopg [6, 7] bn (fun q s6 s7 wr => ∃ (i : Nat) (sm : Bool), s6 = .bool sm ∧ s7 = .int .i64 (i : Int) ∧ i ≤ bn ∧ bn - i ≤ q ∧ Hid (Grown wo wr ∧ (sm = true ↔ bs.take i = Ls[k].take i)))
      case atStart => exact ⟨0, true, rfl, rfl, by omega, by omega, Grown.refl _, by simp⟩
      case round =>
        obtain ⟨i, sm, rfl, rfl, hi1, hi2, HR2⟩ := hrel
        have hiI : (i : Int) ≤ 1500 := by omega
        by_cases hil : i < bn
        · have hilI : (i : Int) < (bn : Int) := by omega
          have hib : i < bs.length := by rw [HBN.out]; exact hil
          have hik : i < Ls[k].length := by rw [HKL.out]; exact hil
          obtain ⟨hgr, hsm⟩ := HR2.out
          obtain ⟨c2, _, hrow⟩ := HFO.out.grown hgr
          obtain ⟨lb, lo, iv, hla, hcv, hbr⟩ := hrow k hks
          subst hla
          obtain ⟨ia, ic, hie, hic, hrd⟩ := hbr
          rw [HKL.out] at hie
          subst hie
          obtain ⟨ig, io, hia, hrd2⟩ := hrd.resolve_left (fun e => by rw [e] at hik; simp at hik)
          clear hrd
          subst hia
          have cy := hrd2 i hik
          obtain ⟨ba', bc', hbe, _, hrb⟩ := HBO.out.grown hgr
          injection hbe with hbe1 hbe2 hbe3
          subst hbe1
          subst hbe3
          clear hbe2
          obtain ⟨bg, bo, hba, hrb2⟩ := hrb.resolve_left (fun e => by rw [e] at hib; simp at hib)
          clear hrb
          subst hba
          have cx := hrb2 i hib
          obtain ⟨x, hx⟩ : ∃ x, bs.getD i false = x := ⟨_, rfl⟩
          obtain ⟨y, hy⟩ : ∃ y, Ls[k].getD i false = y := ⟨_, rfl⟩
          rw [hx] at cx
          rw [hy] at cy
          have HTK : Hid (∀ sm', (sm' = true ↔ sm = true ∧ x = y) → (sm' = true ↔ bs.take (i + 1) = Ls[k].take (i + 1))) := fun sm' hs => by
            rw [hs, hsm, take_eq_succ hib hik, hx, hy]
          have HGR := Hid.mk' hgr
          clear hgr hsm hrow hrd2 hrb2 hx hy HR2 hic
          cases sm with
          | true =>
            go_wp2
            go_big_quiet (fail)
            go_wp2
            go_roundg (bn - (i + 1))
            case measure => omega
            case rel => exact ⟨i + 1, _, rfl, by first | rfl | simp, by omega, Nat.le_refl _, HGR.out.drewN _, HTK.out _ (by simp)⟩
          | false =>
            go_wp2
            go_big_quiet (fail)
            go_wp2
            go_roundg (bn - (i + 1))
            case measure => omega
            case rel => exact ⟨i + 1, _, rfl, by first | rfl | simp, by omega, Nat.le_refl _, HGR.out.drewN _, HTK.out _ (by simp)⟩
        · have hie : i = bn := by omega
          subst hie
          have hge : ¬ (i : Int) < (i : Int) := by omega
          obtain ⟨hgr, hsm⟩ := HR2.out
          rw [List.take_of_length_le (by have := HBN.out; omega), List.take_of_length_le (by have := HKL.out; omega)] at hsm
          have HG : Hid (Grown w wr) := HR.out.1.trans hgr
          have HSM := Hid.mk' hsm
          clear hgr hsm HR2
          cases sm with
          | true =>
            have HE : Hid (fndP Ls bs = (k : Int)) := by
              have e := HSM.out.1 rfl
              have hm : bs ∈ Ls := by rw [e]; exact List.getElem_mem hks
              unfold fndP
              rw [if_pos hm]
              have hi := List.idxOf_lt_length_of_mem hm
              have hg := List.getElem_idxOf (xs := Ls) (x := bs) hi
              rcases Nat.lt_trichotomy (Ls.idxOf bs) k with h | h | h
              · exact absurd hg (HR.out.2 _ hi h)
              · show ((Ls.idxOf bs : Nat) : Int) = _
                rw [h]
              · exfalso
                have := List.not_of_lt_findIdx (p := (· == bs)) (xs := Ls) (i := k) h
                simp [e] at this
            clear HSM
            go_wp2
            go_ret
            exact ⟨by rw [HE.out]; rfl, HG.out⟩
          | false =>
            have HNE : Hid (Ls[k] ≠ bs) := fun e => by have := HSM.out.2 e.symm; cases this
            have HRR := Hid.mk' HR.out.2
            clear HSM HR
            go_wp2
            go_roundg (ln - (k + 1))
            case measure => omega
            case rel =>
              refine ⟨k + 1, rfl, by omega, Nat.le_refl _, HG.out, fun j hj hjk => ?_⟩
              by_cases e : j = k
              · subst e; exact HNE.out
              · exact HRR.out j hj (by omega)
    · have hke : k = ln := by omega
      have HE : Hid (fndP Ls bs = -1) := by
        have hm : ¬ bs ∈ Ls := fun hm => by
          obtain ⟨j, hj, e⟩ := List.getElem_of_mem hm
          exact HR.out.2 j hj (by rw [HF.out.2.1] at hj; omega) e
        unfold fndP
        rw [if_neg hm]; rfl
      have HG := Hid.mk' HR.out.1
      have hge : ¬ (k : Int) < (ln : Int) := by omega
      clear HR hke
      go_wp2
      go_ret
      exact ⟨by rw [HE.out]; rfl, HG.out⟩
end Go.Proofs
namespace Go.Proofs
open Go.RowKit Go.Shelf

set_option maxRecDepth 100000
attribute [local go_sem] Oper.semAt_some
attribute [local go_sem ↓] Go.wp_at_zero Go.wp_at_succ

def atv (ats : List (Value × Value)) : List Value := ats.flatMap fun p => [p.1, p.2]
/-- the document's table -/
structure RT (W : World) (base R : Nat) (A : Option Addr) (n c : Nat) (vals : List Value) (ss : List (List (Int × Int))) (la : Option Addr) (ln lc : Nat) (ats : List (Value × Value)) (L : List (List Bool × List (Int × Int))) : Prop where
  tb : base ≤ R
  blk : W.heap[R]? = some (.cells #[.slice A n c, .slice la ln lc] 59 (0, 0))
  sn : ss.length = n
  sl : vals.length = ss.length
  so : W.ownsRow base 27 1 (.slice A n c) vals.length vals
  sr : ∀ (j : Nat) v s, vals[j]? = some v → ss[j]? = some s → OwnR W base v s
  lo : W.ownsRow base 65 2 (.slice la ln lc) ats.length (atv ats)
  ll : ats.length = L.length
  lu : ∀ (k : Nat) p x, ats[k]? = some p → L[k]? = some x → OwnR W base p.1 x.2 ∧ OwnB W base p.2 x.1
  lb : ∀ x ∈ L, x.1.length = n
  ok : ∀ s ∈ ss, validB s = true
  nb : n ≤ 1500
  lnb : L.length ≤ 10000000
theorem RT.fr {W : World} {base R : Nat} {A : Option Addr} {n c : Nat} {vals : List Value} {ss : List (List (Int × Int))} {la : Option Addr} {ln lc : Nat} {ats : List (Value × Value)} {L : List (List Bool × List (Int × Int))} (h : RT W base R A n c vals ss la ln lc ats L) {W' : World} {D : Nat → Prop} (hf : Fr W W' D) (hD : ∀ k, D k → k < base ∨ W.heap.size ≤ k) : RT W' base R A n c vals ss la ln lc ats L := by
  have no : ∀ {e size m : Nat} {v : Value} {xs : List Value}, W.ownsRow base e size v m xs → W'.ownsRow base e size v m xs := fun ho => own_fr ho hf fun b hb hd => by
    have := World.ownsRow.lt ho b hb
    rcases hD b hd with e | e <;> omega
  refine ⟨h.tb, (hf.block _ (blk_lt h.blk) fun hd => ?_).trans h.blk, h.sn, h.sl, no h.so, fun j v s hv hs => no (h.sr j v s hv hs), no h.lo, h.ll, fun k p x hp hx => ⟨no (h.lu k p x hp hx).1, no (h.lu k p x hp hx).2⟩, h.lb, h.ok, h.nb, h.lnb⟩
  have := h.tb
  have := blk_lt h.blk
  rcases hD R hd with e | e <;> omega
theorem RT.below {W : World} {base R : Nat} {A : Option Addr} {n c : Nat} {vals : List Value} {ss : List (List (Int × Int))} {la : Option Addr} {ln lc : Nat} {ats : List (Value × Value)} {L : List (List Bool × List (Int × Int))} (h : RT W base R A n c vals ss la ln lc ats L) {W' : World} {m : Nat} (hb : Below m W W') (hm : W.heap.size ≤ m) : RT W' base R A n c vals ss la ln lc ats L := h.fr (fr_below hb hm fun _ => False) fun _ e => e.elim
theorem RT.lv {W : World} {base R : Nat} {A : Option Addr} {n c : Nat} {vals : List Value} {ss : List (List (Int × Int))} {la : Option Addr} {ln lc : Nat} {ats : List (Value × Value)} {L : List (List Bool × List (Int × Int))} (h : RT W base R A n c vals ss la ln lc ats L) : LV W A vals ss := by
  refine ⟨h.sl, fun j v hv => ?_, fun j v s hv hs => (h.sr j v s hv hs).rs⟩
  have hj := (List.getElem?_eq_some_iff.1 hv).1
  rcases h.so.2 with ⟨_, e⟩ | ⟨g, cap, cur, e, _, hg, hc, _, hsz, ht⟩
  · omega
  · injection e with e1 _ _
    refine ⟨g, 0, e1, ?_⟩
    rw [Nat.zero_add]
    refine heap_cellv hg ?_
    rw [← ht, List.getElem?_take, if_pos (by omega), Array.getElem?_toList] at hv
    exact hv
theorem atv_at (ats : List (Value × Value)) {k : Nat} {p : Value × Value} (h : ats[k]? = some p) : (atv ats)[k * 2]? = some p.1 ∧ (atv ats)[k * 2 + 1]? = some p.2 := by
  induction ats generalizing k with
  | nil => simp at h
  | cons a l ih =>
    cases k with
    | zero => simp at h; subst h; exact ⟨by simp [atv], by simp [atv]⟩
    | succ k =>
      have := ih (k := k) (by simpa using h)
      rw [show (k + 1) * 2 = k * 2 + 1 + 1 by omega]
      simpa [atv] using this
/-- an atom's cells -/
theorem RT.at' {W : World} {base R : Nat} {A : Option Addr} {n c : Nat} {vals : List Value} {ss : List (List (Int × Int))} {la : Option Addr} {ln lc : Nat} {ats : List (Value × Value)} {L : List (List Bool × List (Int × Int))} (h : RT W base R A n c vals ss la ln lc ats L) {k : Nat} {p : Value × Value} (hp : ats[k]? = some p) : ln = ats.length ∧ ∃ lb, la = some ⟨lb, 0, none⟩ ∧ W.cell? ⟨lb, k * 2, none⟩ = some p.1 ∧ W.cell? ⟨lb, k * 2 + 1, none⟩ = some p.2 := by
  have hk := (List.getElem?_eq_some_iff.1 hp).1
  rcases h.lo.2 with ⟨_, e⟩ | ⟨g, cap, cur, e, _, hg, hc, _, hsz, ht⟩
  · omega
  · injection e with e1 e2 _
    obtain ⟨h1, h2⟩ := atv_at ats hp
    rw [← ht, List.getElem?_take, if_pos (by omega), Array.getElem?_toList] at h1 h2
    exact ⟨e2, g, e1, heap_cellv hg h1, heap_cellv hg h2⟩
theorem RT.lnl {W : World} {base R : Nat} {A : Option Addr} {n c : Nat} {vals : List Value} {ss : List (List (Int × Int))} {la : Option Addr} {ln lc : Nat} {ats : List (Value × Value)} {L : List (List Bool × List (Int × Int))} (h : RT W base R A n c vals ss la ln lc ats L) : ln = L.length := by
  rw [← h.ll]
  obtain ⟨_, _, e⟩ := own_len h.lo
  injection e with _ e _
theorem RT.frow {W : World} {base R : Nat} {A : Option Addr} {n c : Nat} {vals : List Value} {ss : List (List (Int × Int))} {la : Option Addr} {ln lc : Nat} {ats : List (Value × Value)} {L : List (List Bool × List (Int × Int))} (h : RT W base R A n c vals ss la ln lc ats L) : FR W R la ln lc (L.map Prod.fst) := by
  refine ⟨heap_cellv h.blk rfl, by rw [List.length_map]; exact h.lnl.symm, fun k hk => ?_⟩
  rw [List.length_map] at hk
  obtain ⟨p, hp⟩ : ∃ p, ats[k]? = some p := ⟨_, List.getElem?_eq_getElem (by rw [h.ll]; exact hk)⟩
  obtain ⟨_, lb, e, _, h2⟩ := h.at' hp
  refine ⟨lb, 0, p.2, e, by rw [Nat.zero_add]; exact h2, ?_⟩
  rw [List.getElem_map]
  exact (h.lu k p _ hp (List.getElem?_eq_getElem hk)).2.br
theorem RT.len {W : World} {base R : Nat} {A : Option Addr} {n c : Nat} {vals : List Value} {ss : List (List (Int × Int))} {la : Option Addr} {ln lc : Nat} {ats : List (Value × Value)} {L : List (List Bool × List (Int × Int))} (h : RT W base R A n c vals ss la ln lc ats L) : Calls Tryd.prog 12 #[.pointer (some ⟨R, 0, none⟩)] W fun e w' => e = .returned (.int .i64 (L.length : Int)) ∧ w' = W := by
  have c1 : W.cell? ⟨R, 1, none⟩ = some (.slice la ln lc) := heap_cellv h.blk rfl
  rw [← h.lnl]
  clear h
  go_enter Tryd.func12, Tryd.ntmps12
  go_wp2
  go_ret
  exact ⟨rfl, rfl⟩
set_option maxHeartbeats 1000000 in
theorem RT.of {W : World} {base R : Nat} {A : Option Addr} {n c : Nat} {vals : List Value} {ss : List (List (Int × Int))} {la : Option Addr} {ln lc : Nat} {ats : List (Value × Value)} {L : List (List Bool × List (Int × Int))} (h : RT W base R A n c vals ss la ln lc ats L) (u : Int) : Calls Tryd.prog 14 #[.pointer (some ⟨R, 0, none⟩), .int .i64 u] W fun e w' => e = .returned (.int .i64 (if unB u then fndP (L.map Prod.fst) (inV ss u) else -1)) ∧ Below W.heap.size W w' := by
  have HU := Hid.mk' (unit_any u W)
  have HI := Hid.mk' (in_walk R A n c vals ss u W (heap_cellv h.blk rfl) h.sn h.nb h.lv h.ok)
  have HF : Hid (∀ w' ba bn bc, Below W.heap.size W w' → BR w' (.slice ba bn bc) (inV ss u) → Calls Tryd.prog 27 #[.pointer (some ⟨R, 0, none⟩), .slice ba bn bc] w' fun e w'' => e = .returned (.int .i64 (fndP (L.map Prod.fst) (inV ss u))) ∧ Grown w' w'') := fun w' ba bn bc hb hr => by
    refine find_walk R la ln lc _ ba bn bc _ w' (h.below hb (Nat.le_refl _)).frow hr (fun x hx => ?_) (by unfold inV; rw [List.length_map, h.sn]; exact h.nb) (by rw [h.lnl]; exact h.lnb)
    obtain ⟨y, hy, rfl⟩ := List.mem_map.1 hx
    unfold inV
    rw [List.length_map, h.sn]
    exact h.lb y hy
  clear h
  obtain ⟨b, hb⟩ : ∃ b, unB u = b := ⟨_, rfl⟩
  rw [hb] at HU ⊢
  clear hb
  cases b with
  | false =>
    go_enter Tryd.func14, Tryd.ntmps14
    go_wp2_with (go_at_call 19; refine HU.out.mono ?_; rintro e w1 ⟨rfl, rfl⟩)
    go_ret
    exact ⟨rfl, Below.refl _ _⟩
  | true =>
    obtain ⟨fv, hfv⟩ : ∃ fv, fndP (L.map Prod.fst) (inV ss u) = fv := ⟨_, rfl⟩
    rw [hfv] at HF ⊢
    clear hfv
    rw [if_pos rfl]
    go_enter Tryd.func14, Tryd.ntmps14
    go_wp2_with (first
      | (go_at_call 19; refine HU.out.mono ?_; rintro e w1 ⟨rfl, rfl⟩)
      | (go_at_call 26
         refine HI.out.mono ?_
         rintro e w2 ⟨v, rfl, h1, h2⟩
         obtain ⟨ba, bc, hve⟩ := own_len h1
         obtain ⟨bn, hbn⟩ : ∃ bn, (inV ss u).length = bn := ⟨_, rfl⟩
         rw [hbn] at hve
         subst hve
         have HFF := Hid.mk' (HF.out w2 ba bn bc h2 h1.br)
         have HB2 := Hid.mk' h2
         clear h1 h2 hbn)
      | (go_at_call 27
         refine HFF.out.mono ?_
         rintro e w3 ⟨rfl, hg⟩
         have HB3 := Hid.mk' (HB2.out.trans (hg.below.mono HB2.out.size))
         clear hg))
    go_ret
    exact ⟨rfl, HB3.out⟩
end Go.Proofs
namespace Go.Proofs
open Go.RowKit Go.Shelf

set_option maxRecDepth 100000
attribute [local go_sem] Oper.semAt_some
attribute [local go_sem ↓] Go.wp_at_zero Go.wp_at_succ

theorem RT.setno {W : World} {base R : Nat} {A : Option Addr} {n c : Nat} {vals : List Value} {ss : List (List (Int × Int))} {la : Option Addr} {ln lc : Nat} {ats : List (Value × Value)} {L : List (List Bool × List (Int × Int))} (h : RT W base R A n c vals ss la ln lc ats L) (a : Int) (ha : ¬ (0 ≤ a ∧ a < (L.length : Int))) : Calls Tryd.prog 16 #[.pointer (some ⟨R, 0, none⟩), .int .i64 a] W fun e w' => e = .returned (.tuple #[.slice none 0 0, .bool false]) ∧ w' = W := by
  have c1 : W.cell? ⟨R, 1, none⟩ = some (.slice la ln lc) := heap_cellv h.blk rfl
  rw [← h.lnl] at ha
  clear h
  by_cases h0 : a < 0
  · have h0d : decide (a < 0) = true := by simpa using h0
    go_enter Tryd.func16, Tryd.ntmps16
    go_wp2
    exact bodyPost_ret (v := .tuple #[.slice none 0 0, .bool false]) (by simp [results, Tryd.f16, go_sem]) rfl ⟨rfl, rfl⟩
  · have h0d : decide (a < 0) = false := by simpa using h0
    have h1 : (ln : Int) ≤ a := by omega
    have h1d : decide ((ln : Int) ≤ a) = true := by simpa using h1
    go_enter Tryd.func16, Tryd.ntmps16
    go_wp2
    exact bodyPost_ret (v := .tuple #[.slice none 0 0, .bool false]) (by simp [results, Tryd.f16, go_sem]) rfl ⟨rfl, rfl⟩
set_option maxHeartbeats 1000000 in
theorem RT.set {W : World} {base R : Nat} {A : Option Addr} {n c : Nat} {vals : List Value} {ss : List (List (Int × Int))} {la : Option Addr} {ln lc : Nat} {ats : List (Value × Value)} {L : List (List Bool × List (Int × Int))} (h : RT W base R A n c vals ss la ln lc ats L) {k : Nat} {x : List Bool × List (Int × Int)} (hx : L[k]? = some x) (hxl : x.2.length ≤ 1000000) : Calls Tryd.prog 16 #[.pointer (some ⟨R, 0, none⟩), .int .i64 (k : Int)] W fun e w' => ∃ v, e = .returned (.tuple #[v, .bool true]) ∧ OwnR w' W.heap.size v x.2 ∧ Below W.heap.size W w' := by
  have hk := (List.getElem?_eq_some_iff.1 hx).1
  obtain ⟨p, hp⟩ : ∃ p, ats[k]? = some p := ⟨_, List.getElem?_eq_getElem (by rw [h.ll]; exact hk)⟩
  obtain ⟨hlx, lb, hla, cu, _⟩ := h.at' hp
  clear hlx
  subst hla
  have hown := (h.lu k p x hp hx).1
  obtain ⟨ua, ucp, hue⟩ := own_len hown
  obtain ⟨m, hm⟩ : ∃ m, x.2.length = m := ⟨_, rfl⟩
  rw [hm] at hue hxl
  rw [hue] at cu
  have c1 : W.cell? ⟨R, 1, none⟩ = some (.slice (some ⟨lb, 0, none⟩) ln lc) := heap_cellv h.blk rfl
  have c1a := cell_up c1 (.cells #[] 29)
  have cua := cell_up cu (.cells #[] 29)
  have hkl : (k : Int) < (ln : Int) := by rw [h.lnl]; omega
  have hkd : decide ((ln : Int) ≤ (k : Int)) = false := by simp; rw [h.lnl]; exact hk
  have hkn : decide (ln ≤ k) = false := by simp; rw [h.lnl]; exact hk
  have hkz2 : ¬ (k : Int) < 0 := by omega
  have hkl2 : ¬ (ln : Int) ≤ (k : Int) := by omega
  have hkz : decide ((k : Int) < 0) = false := by simp
  have HM := Hid.mk' hm
  have HR : Hid (x.2 = [] ∨ ∃ g' o', ua = some ⟨g', o', none⟩ ∧ Reads (W.alloc (.cells #[] 29)) g' o' x.2) := by
    obtain ⟨a', cap', e, _, hr⟩ := (hown.alloc (.cells #[] 29)).rs
    rw [hue] at e
    injection e with e1 _ _
    rw [e1]; exact hr
  obtain ⟨hh, hhe⟩ : ∃ hh, W.heap.size = hh := ⟨_, rfl⟩
  have HH := Hid.mk' hhe
  clear h hown hue hm hp hx hk
  go_enter Tryd.func16, Tryd.ntmps16
  go_wp2_with (at_builtin; go_must (refine app_full rfl _ _ rfl (some ⟨hh, 0, none⟩) ua 0 m ucp [] x.2 rfl rfl rfl HM.out (.inl rfl) HR.out (by omega) ?_); intro v' w3 hr3 hr4 hb3; have HQ := Hid.mk' (And.intro hr3 (And.intro hr4 hb3)); clear hr3 hr4 hb3)
  rw [← hhe]
  refine bodyPost_ret (v := .tuple #[v', .bool true]) (by simp [results, Tryd.f16, go_sem]) rfl ⟨_, rfl, ?_, ((Below.refl _ W).alloc (Nat.le_refl _) _).trans (HQ.out.2.2.mono (by simp))⟩
  by_cases h0 : x.2 = []
  · obtain ⟨rfl, rfl⟩ := HQ.out.2.1 h0
    rw [h0]
    refine ⟨rfl, .inr ⟨hh, 0, #[], rfl, Nat.le_of_eq HH.out, ?_, Nat.le_refl _, Nat.zero_le _, rfl, rfl⟩⟩
    rw [← HH.out]
    exact heap_alloc_new _ _
  · have := (HQ.out.1 h0).le (base' := W.heap.size) (by simp)
    simpa using this
end Go.Proofs
namespace Go.Proofs
open Go.RowKit Go.Shelf

set_option maxRecDepth 100000
attribute [local go_sem] Oper.semAt_some
attribute [local go_sem ↓] Go.wp_at_zero Go.wp_at_succ

set_option maxHeartbeats 2000000 in
theorem RT.inno {W : World} {base R : Nat} {A : Option Addr} {n c : Nat} {vals : List Value} {ss : List (List (Int × Int))} {la : Option Addr} {ln lc : Nat} {ats : List (Value × Value)} {L : List (List Bool × List (Int × Int))} (h : RT W base R A n c vals ss la ln lc ats L) (a m : Int) (ha : ¬ (0 ≤ a ∧ a < (L.length : Int) ∧ 0 ≤ m ∧ m < (n : Int))) : Calls Tryd.prog 18 #[.pointer (some ⟨R, 0, none⟩), .int .i64 a, .int .i64 m] W fun e w' => e = .returned (.bool false) ∧ Grown W w' := by
  have c0 : W.cell? ⟨R, 0, none⟩ = some (.slice A n c) := heap_cellv h.blk rfl
  have c1 : W.cell? ⟨R, 1, none⟩ = some (.slice la ln lc) := heap_cellv h.blk rfl
  rw [← h.lnl] at ha
  clear h
  by_cases h0 : 0 ≤ a
  · have h0d : decide (0 ≤ a) = true := by simpa using h0
    by_cases h1 : a < (ln : Int)
    · have h1d : decide (a < (ln : Int)) = true := by simpa using h1
      by_cases h2 : 0 ≤ m
      · have h2d : decide (0 ≤ m) = true := by simpa using h2
        have h3 : ¬ m < (n : Int) := fun e => ha ⟨h0, h1, h2, e⟩
        have h3d : decide (m < (n : Int)) = false := by simpa using h3
        clear ha
        go_enter Tryd.func18, Tryd.ntmps18
        go_wp2
        go_ret
        exact ⟨rfl, Grown.refl _⟩
      · have h2d : decide (0 ≤ m) = false := by simpa using h2
        clear ha
        go_enter Tryd.func18, Tryd.ntmps18
        go_wp2
        go_ret
        exact ⟨rfl, Grown.refl _⟩
    · have h1d : decide (a < (ln : Int)) = false := by simpa using h1
      clear ha
      go_enter Tryd.func18, Tryd.ntmps18
      go_wp2
      go_ret
      exact ⟨rfl, Grown.refl _⟩
  · have h0d : decide (0 ≤ a) = false := by simpa using h0
    clear ha
    go_enter Tryd.func18, Tryd.ntmps18
    go_wp2
    go_ret
    exact ⟨rfl, Grown.refl _⟩
set_option maxHeartbeats 2000000 in
theorem RT.inyes {W : World} {base R : Nat} {A : Option Addr} {n c : Nat} {vals : List Value} {ss : List (List (Int × Int))} {la : Option Addr} {ln lc : Nat} {ats : List (Value × Value)} {L : List (List Bool × List (Int × Int))} (h : RT W base R A n c vals ss la ln lc ats L) {k m : Nat} {x : List Bool × List (Int × Int)} (hx : L[k]? = some x) (hm : m < n) : Calls Tryd.prog 18 #[.pointer (some ⟨R, 0, none⟩), .int .i64 (k : Int), .int .i64 (m : Int)] W fun e w' => e = .returned (.bool (x.1.getD m false)) ∧ Grown W w' := by
  have hk := (List.getElem?_eq_some_iff.1 hx).1
  obtain ⟨p, hp⟩ : ∃ p, ats[k]? = some p := ⟨_, List.getElem?_eq_getElem (by rw [h.ll]; exact hk)⟩
  obtain ⟨hlx, lb, hla, _, ci⟩ := h.at' hp
  clear hlx
  subst hla
  have hxl : x.1.length = n := h.lb x (List.mem_of_getElem? hx)
  obtain ⟨ia, icp, hie, hicp, hrd⟩ := (h.lu k p x hp hx).2.br
  rw [hxl] at hie hicp
  rw [hie] at ci
  obtain ⟨ig, io, hia, hrd2⟩ := hrd.resolve_left (fun e => by rw [e] at hxl; simp at hxl; omega)
  clear hrd
  subst hia
  have cm := hrd2 m (by omega)
  obtain ⟨b, hb⟩ : ∃ b, x.1.getD m false = b := ⟨_, rfl⟩
  rw [hb] at cm ⊢
  have c0 : W.cell? ⟨R, 0, none⟩ = some (.slice A n c) := heap_cellv h.blk rfl
  have c1 : W.cell? ⟨R, 1, none⟩ = some (.slice (some ⟨lb, 0, none⟩) ln lc) := heap_cellv h.blk rfl
  have hkl : (k : Int) < (ln : Int) := by rw [h.lnl]; omega
  have hkd : decide ((k : Int) < (ln : Int)) = true := by simpa using hkl
  have hkn : decide (k < ln) = true := by simp; rw [h.lnl]; exact hk
  have hml : (m : Int) < (n : Int) := by omega
  have hmd : decide ((m : Int) < (n : Int)) = true := by simpa using hml
  have hmn : decide (m < n) = true := by simpa using hm
  clear h hp hx hk hxl hie hb hrd2
  go_enter Tryd.func18, Tryd.ntmps18
  go_wp2
  go_ret
  exact ⟨rfl, Grown.refl _⟩
end Go.Proofs
namespace Go.Proofs
open Go.RowKit Go.Shelf

set_option maxRecDepth 100000
attribute [local go_sem] Oper.semAt_some
attribute [local go_sem ↓] Go.wp_at_zero Go.wp_at_succ

theorem fnd_of {ss : List (List (Int × Int))} {P : List (Int × Int)} (hP : Pcs ss P) {L : List (List Bool × List (Int × Int))} (h : RI ss P L) (u : Int) : (if unB u then fndP (L.map Prod.fst) (inV ss u) else -1) = rofP ss L u := by
  have he : rofP.unD u = unB u := rfl
  unfold rofP
  rw [he]
  cases hb : unB u with
  | false => rfl
  | true =>
    obtain ⟨p, hp, p1, p2⟩ := hP.all u ((unB_iff u).1 hb)
    have hm : inV ss u ∈ L.map Prod.fst := by rw [hP.same p hp u p1 p2]; exact h.has p hp
    simp only [if_true]
    unfold fndP
    rw [if_pos hm]
/-- ours and the document's: the same atoms, the same units, the same sets -/
theorem both_same {ss : List (List (Int × Int))} {LL : List Nat} {L0 : Nat} {all : List (Int × Int)} {s : FS} (hd : Done ss LL L0 all s) {P : List (Int × Int)} (hP : Pcs ss P) {L : List (List Bool × List (Int × Int))} (h : RI ss P L) :
    (∀ u, ofP s.st s.bg u = rofP ss L u) ∧ s.wh.length = L.length ∧ (∀ k (hk : k < L.length) l, RwOk l → (∀ u, inS l u ↔ ofP s.st s.bg u = k) → l = L[k].2) ∧ ∀ k (hk : k < L.length), ∃ u, ofP s.st s.bg u = k ∧ ∀ m, m < ss.length → (L[k].1.getD m false = true ↔ inS (ss.getD m []) u) := by
  obtain ⟨t1, t2⟩ := h.tells hP
  obtain ⟨e1, e2⟩ := hd.tells.all t1 fun _ _ _ _ => Iff.rfl
  refine ⟨e1, e2, fun k hk l hl hu => ?_, fun k hk => ?_⟩
  · exact hl.unique (h.ok _ (List.getElem_mem hk)) fun u => by rw [hu, e1, t2 k hk u]
  · obtain ⟨p, hp, p1, _⟩ := h.fst k hk
    have hpo := hP.ok p hp
    refine ⟨p.1, ?_, fun m hm => ?_⟩
    · rw [e1]
      exact (t2 k hk p.1).1 ((h.un _ (List.getElem_mem hk) p.1).2 ⟨p, hp, Int.le_refl _, hpo, p1⟩)
    · rw [← p1]
      have e : (inV ss p.1).getD m false = decide (hasU ss[m] p.1) := by simp [inV, List.getD, hm]
      have e' : ss.getD m [] = ss[m] := by simp [List.getD, hm]
      rw [e, e', decide_eq_true_eq]
      rfl
theorem rg_take_succ {a b : List (Int × Int)} {i : Nat} (ha : i < a.length) (hb : i < b.length) : a.take (i + 1) = b.take (i + 1) ↔ a.take i = b.take i ∧ rg a i = rg b i := by
  rw [List.take_succ_eq_append_getElem ha, List.take_succ_eq_append_getElem hb, rg_lt ha, rg_lt hb]
  constructor
  · intro h
    have hl : (a.take i).length = (b.take i).length := by simp; omega
    have := List.append_inj h hl
    exact ⟨this.1, by simpa using this.2⟩
  · rintro ⟨h1, h2⟩
    rw [h1, h2]
set_option maxHeartbeats 2000000 in
theorem ranges_walk (va : Option Addr) (na ca : Nat) (vb : Option Addr) (nb cb : Nat) (la lb : List (Int × Int)) (w : World) (ha : Rs w (.slice va na ca) la) (hb : Rs w (.slice vb nb cb) lb) (hn : la.length ≤ 1000000) :
    Calls Tryd.prog 10 #[.slice va na ca, .slice vb nb cb] w fun e w' => e = .returned (.bool (decide (la = lb))) ∧ Grown w w' := by
  obtain ⟨a1, c1, e1, _, ha⟩ := ha
  obtain ⟨a2, c2, e2, _, hb⟩ := hb
  injection e1 with e11 e12 e13
  injection e2 with e21 e22 e23
  subst e11
  subst e21
  clear e13 e23
  have HA := Hid.mk' ha
  have HB := Hid.mk' hb
  have HNA : Hid (la.length = na) := e12.symm
  have HNB : Hid (lb.length = nb) := e22.symm
  have hnI : (na : Int) ≤ 1000000 := by omega
  clear ha hb e12 e22 hn
  by_cases hne : na = nb
  · subst hne
    obtain ⟨r, hr⟩ : ∃ r, decide (la = lb) = r := ⟨_, rfl⟩
    have HR0 := Hid.mk' hr
    rw [hr]
    clear hr
    go_enter Tryd.func10, Tryd.ntmps10
    go_wp2
    go_loopg [5] na (fun q s5 wr => ∃ i : Nat, s5 = .int .i64 (i : Int) ∧ i ≤ na ∧ na - i ≤ q ∧ Hid (Grown w wr ∧ la.take i = lb.take i))
    case atStart => exact ⟨0, rfl, by omega, by omega, Grown.refl _, rfl⟩
    case round =>
      obtain ⟨i, rfl, hi1, hi2, HR⟩ := hrel
      have hiI : (i : Int) ≤ 1000000 := by omega
      by_cases hil : i < na
      · have hilI : (i : Int) < (na : Int) := by omega
        have hia : i < la.length := by rw [HNA.out]; exact hil
        have hib : i < lb.length := by rw [HNB.out]; exact hil
        obtain ⟨ga, oa, hva, hra⟩ := HA.out.resolve_left (fun e => by rw [e] at hia; simp at hia)
        obtain ⟨gb, ob, hvb, hrb⟩ := HB.out.resolve_left (fun e => by rw [e] at hib; simp at hib)
        subst hva
        subst hvb
        obtain ⟨x1, x2⟩ := hra i hia
        obtain ⟨y1, y2⟩ := hrb i hib
        have x1 := HR.out.1.cellv x1
        have x2 := HR.out.1.cellv x2
        have y1 := HR.out.1.cellv y1
        have y2 := HR.out.1.cellv y2
        have HST := Hid.mk' (rg_take_succ hia hib)
        obtain ⟨p, hp⟩ : ∃ p, (rg la i).1 = p := ⟨_, rfl⟩
        obtain ⟨p', hp'⟩ : ∃ p', (rg la i).2 = p' := ⟨_, rfl⟩
        obtain ⟨q, hq⟩ : ∃ q, (rg lb i).1 = q := ⟨_, rfl⟩
        obtain ⟨q', hq'⟩ : ∃ q', (rg lb i).2 = q' := ⟨_, rfl⟩
        rw [hp] at x1
        rw [hp'] at x2
        rw [hq] at y1
        rw [hq'] at y2
        have HRG : Hid (rg la i = (p, p') ∧ rg lb i = (q, q')) := ⟨Prod.ext hp hp', Prod.ext hq hq'⟩
        clear hra hrb hp hp' hq hq'
        by_cases h1 : p = q
        · by_cases h2 : p' = q'
          · have HE : Hid (la.take (i + 1) = lb.take (i + 1)) := HST.out.2 ⟨HR.out.2, by rw [HRG.out.1, HRG.out.2, h1, h2]⟩
            have HG := Hid.mk' HR.out.1
            clear HR HST HRG
            subst h1
            subst h2
            go_wp2
            go_big_quiet (fail)
            go_wp2
            go_roundg (na - (i + 1))
            case measure => omega
            case rel => exact ⟨i + 1, rfl, by omega, Nat.le_refl _, HG.out.drewN _, HE.out⟩
          · have HF : Hid (r = false) := by
              show r = false
              rw [← HR0.out, decide_eq_false_iff_not]
              intro e
              have h3 := HRG.out.1
              have h4 := HRG.out.2
              rw [e, h4] at h3
              injection h3 with h5 h6
              exact h2 h6.symm
            have HG := Hid.mk' HR.out.1
            clear HR HST HRG HR0
            go_wp2
            go_big_quiet (fail)
            go_wp2
            go_ret
            exact ⟨by rw [HF.out]; rfl, HG.out.drewN _⟩
        · have HF : Hid (r = false) := by
            show r = false
            rw [← HR0.out, decide_eq_false_iff_not]
            intro e
            have h3 := HRG.out.1
            have h4 := HRG.out.2
            rw [e, h4] at h3
            injection h3 with h5 h6
            exact h1 h5.symm
          have HG := Hid.mk' HR.out.1
          clear HR HST HRG HR0
          go_wp2
          go_big_quiet (fail)
          go_wp2
          go_ret
          exact ⟨by rw [HF.out]; rfl, HG.out.drewN _⟩
      · have hie : i = na := by omega
        subst hie
        have hge : ¬ (i : Int) < (i : Int) := by omega
        have HT : Hid (r = true) := by
          show r = true
          rw [← HR0.out, decide_eq_true_eq]
          have := HR.out.2
          rw [List.take_of_length_le (by have := HNA.out; omega), List.take_of_length_le (by have := HNB.out; omega)] at this
          exact this
        have HG := Hid.mk' HR.out.1
        clear HR HR0
        go_wp2
        go_ret
        exact ⟨by rw [HT.out]; rfl, HG.out⟩
  · have hd : decide (la = lb) = false := by
      rw [decide_eq_false_iff_not]
      intro e
      have h1 := HNA.out
      have h2 := HNB.out
      rw [e] at h1
      omega
    rw [hd]
    have hneI : ¬ (na : Int) = (nb : Int) := by omega
    clear hd
    go_enter Tryd.func10, Tryd.ntmps10
    go_wp2
    go_ret
    exact ⟨rfl, Grown.refl _⟩
end Go.Proofs
namespace Go.Proofs
open Go.RowKit Go.Shelf

set_option maxRecDepth 100000
attribute [local go_sem] Oper.semAt_some
attribute [local go_sem ↓] Go.wp_at_zero Go.wp_at_succ

/-- an append, its run known, in a region -/
theorem step_run {ops : Array Oper} {o : Oper} {a : Act} {K : Act → World → Prop} {Q : Exit → Act → World → Prop} {E : Prop} {w w' : World} {v' : Value} {s x : Operand} {t : TypeId} (hgd : o.guard = none) (ho : o.op = .call { callee := .builtin .append, args := #[s, x], argTypes := #[t, t] }) {u y : Value} (hs : a.eval s = u) (hx : a.eval x = y) (hr : (Builtin.append_ #[t, t] o.type #[u, y]).run Tryd.prog w = .ok v' w') (h : K (a.put o.dst v') w') : if Region.wanted o (yielded ops a.tmps) = true then Oper.wp Tryd.prog o a w K Q else E := by
  have hw : Region.wanted o (yielded ops a.tmps) = true := by simp [Region.wanted, hgd]
  rw [if_pos hw]
  exact op_append ho hs hx hr h
/-- a copy of a set, in a region -/
theorem step_C {ops : Array Oper} {o : Oper} {a : Act} {K : Act → World → Prop} {Q : Exit → Act → World → Prop} {E : Prop} {w : World} (hgd : o.guard = none) (s x : Operand)
    (ho : o.op = .call { callee := .builtin .append, args := #[s, x], argTypes := #[27, 27] }) (base hh : Nat) (hs : a.eval s = .slice (some ⟨hh, 0, none⟩) 0 0) (hown : OwnR w base (.slice (some ⟨hh, 0, none⟩) 0 0) []) (B : Option Addr) (m c : Nat) (l : List (Int × Int)) (hx : a.eval x = .slice B m c) (hl : l.length = m)
    (hr : l = [] ∨ ∃ g o, B = some ⟨g, o, none⟩ ∧ Reads w g o l) (hn : m ≤ 1000000) (hbase : base ≤ w.heap.size)
    (h : ∀ va vc w', OwnR w' base (.slice va m vc) l → Below base w w' → K (a.put o.dst (.slice va m vc)) w') : if Region.wanted o (yielded ops a.tmps) = true then Oper.wp Tryd.prog o a w K Q else E := by
  by_cases h0 : l = []
  · subst h0
    obtain rfl : m = 0 := by simpa using hl.symm
    exact step_run hgd ho hs hx (append_empty (some ⟨hh, 0, none⟩) B 0 c o.type w) (h _ _ _ hown (Below.refl _ _))
  · obtain ⟨g, o', rfl, hrd⟩ := hr.resolve_left h0
    obtain ⟨i0, hi0, hz0, hz1, hz2⟩ := info_parts info38
    have hp := List.length_pos_iff.2 h0
    refine step_append_lies w hgd s x 27 ho base 29 i0 (.agg #[.int .i64 0, .int .i64 0]) 2 16 Tryd.underlying27 hi0 hz0 hz1 hz2 rfl (by decide) _ 0 [] hs hown ⟨g, o', none⟩ m c (fl l) hx (by rw [fl_length, hl]) (reads_fl hrd) (fl_one _) (by omega) (by unfold maxLen; omega) (by omega) hbase _ rfl ?_
    intro gg cap wn hown1 hgrow _ _
    rw [Nat.zero_add] at hown1 ⊢
    refine h _ _ wn ?_ ((fr_by hgrow).below (fun k hk => (World.ownsRow.lt hown k hk).1) hbase)
    unfold OwnR
    rw [hl]
    simpa using hown1
/-- the sets that were copied -/
structure SC (W : World) (base R : Nat) (sv : Value) (vals : List Value) (ss : List (List (Int × Int))) : Prop where
  tb : base ≤ R
  blk : W.heap[R]? = some (.cells #[sv, .slice none 0 0] 59 (0, 0))
  sl : vals.length = ss.length
  so : W.ownsRow base 27 1 sv vals.length vals
  sr : ∀ (j : Nat) v s, vals[j]? = some v → ss[j]? = some s → OwnR W base v s
/-- a set more -/
theorem SC.push {W W1 W2 : World} {base R : Nat} {sv v v' : Value} {vals : List Value} {ss : List (List (Int × Int))} {s : List (Int × Int)} (h : SC W base R sv vals ss) (hb1 : Below W.heap.size W W1) (hv : OwnR W1 base v s) (h2 : W2.ownsRow base 27 1 v' (vals ++ [v]).length (vals ++ [v])) (hf : Fr W1 W2 (fun k => sv.ownBlock = some k)) :
    W2.heap[R]? = some (.cells #[sv, .slice none 0 0] 59 (0, 0)) ∧ SC (W2.setCell ⟨R, 0, none⟩ v') base R v' (vals ++ [v]) (ss ++ [s]) := by
  have f1 : Fr W W1 (fun _ => False) := fr_below hb1 (Nat.le_refl _) _
  have hblk1 : W1.heap[R]? = some (.cells #[sv, .slice none 0 0] 59 (0, 0)) := (f1.block _ (blk_lt h.blk) fun e => e).trans h.blk
  have hso1 := own_fr h.so f1 fun _ _ e => e
  have hblk2 : W2.heap[R]? = some (.cells #[sv, .slice none 0 0] 59 (0, 0)) := (hf.block _ (blk_lt hblk1) (own_not hso1 hblk1 (by decide))).trans hblk1
  have keep : ∀ {u : Value} {l : List (Int × Int)}, OwnR W1 base u l → OwnR (W2.setCell ⟨R, 0, none⟩ v') base u l := fun {u l} ho => by
    have o2 : OwnR W2 base u l := own_fr ho hf fun b hb e => own_ne hso1 ho (by decide) e hb
    exact own_fr o2 (fr_set _ _ _ _) fun b hb e => own_not o2 hblk2 (by decide) (by rw [← (show b = R from e)]; exact hb)
  refine ⟨hblk2, h.tb, (set_heap hblk2).trans rfl, by simp [h.sl], own_fr h2 (fr_set _ _ _ _) fun b hb e => own_not h2 hblk2 (by decide) (by rw [← (show b = R from e)]; exact hb), fun j x y hx hy => ?_⟩
  have hl := h.sl
  by_cases e : j < vals.length
  · rw [List.getElem?_append_left e] at hx
    rw [List.getElem?_append_left (by omega)] at hy
    exact keep (own_fr (h.sr j x y hx hy) f1 fun _ _ e => e)
  · rw [List.getElem?_append_right (by omega)] at hx
    rw [List.getElem?_append_right (by omega), ← hl] at hy
    obtain ⟨rfl, rfl⟩ : x = v ∧ y = s := by
      have h1 := List.mem_of_getElem? hx
      have h2 := List.mem_of_getElem? hy
      simp at h1 h2
      exact ⟨h1, h2⟩
    exact keep hv
end Go.Proofs
namespace Go.Proofs
open Go.RowKit Go.Shelf

set_option maxRecDepth 100000
attribute [local go_sem] Oper.semAt_some
attribute [local go_sem ↓] Go.wp_at_zero Go.wp_at_succ

/-- the atoms on their way: what lay ahead of them stays, but for the table's block -/
structure PT (w2 W : World) (B : Nat) (sv : Value) (la : Option Addr) (ln lc : Nat) (ats : List (Value × Value)) (L : List (List Bool × List (Int × Int))) : Prop where
  blk : W.heap[B]? = some (.cells #[sv, .slice la ln lc] 59 (0, 0))
  bl : B < w2.heap.size
  lo : W.ownsRow w2.heap.size 65 2 (.slice la ln lc) ats.length (atv ats)
  ll : ats.length = L.length
  lu : ∀ (k : Nat) p x, ats[k]? = some p → L[k]? = some x → OwnR W w2.heap.size p.1 x.2 ∧ OwnB W w2.heap.size p.2 x.1
  nd : ∀ (i j : Nat) p q b, ats[i]? = some p → ats[j]? = some q → p.1.ownBlock = some b → q.1.ownBlock = some b → i = j
  fr : Fr w2 W (fun k => k = B)
theorem PT.below {w2 W : World} {B : Nat} {sv : Value} {la : Option Addr} {ln lc : Nat} {ats : List (Value × Value)} {L : List (List Bool × List (Int × Int))} (h : PT w2 W B sv la ln lc ats L) {W' : World} {m : Nat} (hb : Below m W W') (hm : W.heap.size ≤ m) : PT w2 W' B sv la ln lc ats L := by
  have f1 : Fr W W' (fun _ => False) := fr_below hb hm _
  exact ⟨(f1.block _ (blk_lt h.blk) fun e => e).trans h.blk, h.bl, own_fr h.lo f1 fun _ _ e => e, h.ll, fun k p x hp hx => ⟨own_fr (h.lu k p x hp hx).1 f1 fun _ _ e => e, own_fr (h.lu k p x hp hx).2 f1 fun _ _ e => e⟩, h.nd, h.fr.trans f1 fun _ _ e => e.elim⟩
theorem PT.lnl {w2 W : World} {B : Nat} {sv : Value} {la : Option Addr} {ln lc : Nat} {ats : List (Value × Value)} {L : List (List Bool × List (Int × Int))} (h : PT w2 W B sv la ln lc ats L) : ln = L.length := by
  rw [← h.ll]
  obtain ⟨_, _, e⟩ := own_len h.lo
  injection e with _ e _
/-- an atom more, without units -/
theorem PT.add {w2 W : World} {B : Nat} {sv : Value} {la : Option Addr} {ln lc : Nat} {ats : List (Value × Value)} {L : List (List Bool × List (Int × Int))} (h : PT w2 W B sv la ln lc ats L) {W' : World} {iv : Value} {bs : List Bool} (hiv : OwnB W w2.heap.size iv bs) {gg cap : Nat} (h2 : W'.ownsRow w2.heap.size 65 2 (.slice (some ⟨gg, 0, none⟩) (ln + 1) cap) (ats ++ [((.slice none 0 0 : Value), iv)]).length (atv (ats ++ [((.slice none 0 0 : Value), iv)]))) (hf : Fr W W' (fun k => (Value.slice la ln lc).ownBlock = some k)) :
    W'.heap[B]? = some (.cells #[sv, .slice la ln lc] 59 (0, 0)) ∧ PT w2 (W'.setCell ⟨B, 1, none⟩ (.slice (some ⟨gg, 0, none⟩) (ln + 1) cap)) B sv (some ⟨gg, 0, none⟩) (ln + 1) cap (ats ++ [((.slice none 0 0 : Value), iv)]) (L ++ [(bs, [])]) := by
  have e4 : W'.heap[B]? = some (.cells #[sv, .slice la ln lc] 59 (0, 0)) := (hf.block _ (blk_lt h.blk) (own_not h.lo h.blk (by decide))).trans h.blk
  have keep : ∀ {e size m : Nat} {v : Value} {xs : List Value}, W.ownsRow w2.heap.size e size v m xs → e ≠ 65 → e ≠ 59 → (W'.setCell ⟨B, 1, none⟩ (.slice (some ⟨gg, 0, none⟩) (ln + 1) cap)).ownsRow w2.heap.size e size v m xs := fun ho n1 n2 => by
    have o2 := own_fr ho hf fun b hb e => own_ne h.lo ho (fun e => n1 e.symm) e hb
    exact own_fr o2 (fr_set _ _ _ _) fun b hb e => own_not o2 e4 (fun e => n2 e.symm) (by rw [← (show b = B from e)]; exact hb)
  have hll := h.ll
  refine ⟨e4, (set_heap e4).trans rfl, h.bl, own_fr h2 (fr_set _ _ _ _) fun b hb e => own_not h2 e4 (by decide) (by rw [← (show b = B from e)]; exact hb), by simp [hll], fun k p x hp hx => ?_, fun i j p q b hp hq hpb hqb => ?_, (h.fr.trans hf fun k hk e => ?_).trans (fr_set _ _ _ _) fun _ _ e => e⟩
  · by_cases e : k < ats.length
    · rw [List.getElem?_append_left e] at hp
      rw [List.getElem?_append_left (by omega)] at hx
      obtain ⟨a1, a2⟩ := h.lu k p x hp hx
      exact ⟨keep a1 (by decide) (by decide), keep a2 (by decide) (by decide)⟩
    · rw [List.getElem?_append_right (by omega)] at hp
      rw [List.getElem?_append_right (by omega), ← hll] at hx
      obtain ⟨rfl, rfl⟩ : p = (.slice none 0 0, iv) ∧ x = (bs, []) := by
        have h1 := List.mem_of_getElem? hp
        have h2 := List.mem_of_getElem? hx
        simp at h1 h2
        exact ⟨h1, h2⟩
      exact ⟨OwnR.nil _ _, keep hiv (by decide) (by decide)⟩
  · have at0 : ∀ {i : Nat} {p : Value × Value}, (ats ++ [((.slice none 0 0 : Value), iv)])[i]? = some p → p.1.ownBlock = some b → ats[i]? = some p := fun {i p} hp hb => by
      by_cases e : i < ats.length
      · rw [List.getElem?_append_left e] at hp; exact hp
      · rw [List.getElem?_append_right (by omega)] at hp
        have := List.mem_of_getElem? hp
        simp at this
        subst this
        simp [Value.ownBlock] at hb
    exact h.nd i j p q b (at0 hp hpb) (at0 hq hqb) hpb hqb
  · have := (World.ownsRow.lt h.lo k e).1
    omega
/-- an atom's cells -/
theorem PT.at' {w2 W : World} {B : Nat} {sv : Value} {la : Option Addr} {ln lc : Nat} {ats : List (Value × Value)} {L : List (List Bool × List (Int × Int))} (h : PT w2 W B sv la ln lc ats L) {k : Nat} {p : Value × Value} (hp : ats[k]? = some p) : ∃ lb, la = some ⟨lb, 0, none⟩ ∧ k < ln ∧ W.cell? ⟨lb, k * 2, none⟩ = some p.1 ∧ W.cell? ⟨lb, k * 2 + 1, none⟩ = some p.2 ∧ W.frozen? ⟨lb, k * 2, none⟩ = false := by
  have hk := (List.getElem?_eq_some_iff.1 hp).1
  rcases h.lo.2 with ⟨_, e⟩ | ⟨g, cap, cur, e, _, hg, hc, _, hsz, ht⟩
  · omega
  · injection e with e1 e2 _
    obtain ⟨h1, h2⟩ := atv_at ats hp
    rw [← ht, List.getElem?_take, if_pos (by omega), Array.getElem?_toList] at h1 h2
    exact ⟨g, e1, by omega, heap_cellv hg h1, heap_cellv hg h2, free_of hg⟩
theorem PT.frow {w2 W : World} {B : Nat} {sv : Value} {la : Option Addr} {ln lc : Nat} {ats : List (Value × Value)} {L : List (List Bool × List (Int × Int))} (h : PT w2 W B sv la ln lc ats L) : FR W B la ln lc (L.map Prod.fst) := by
  refine ⟨heap_cellv h.blk rfl, by rw [List.length_map]; exact h.lnl.symm, fun k hk => ?_⟩
  rw [List.length_map] at hk
  obtain ⟨p, hp⟩ : ∃ p, ats[k]? = some p := ⟨_, List.getElem?_eq_getElem (by rw [h.ll]; exact hk)⟩
  obtain ⟨lb, e, _, _, h2, _⟩ := h.at' hp
  refine ⟨lb, 0, p.2, e, by rw [Nat.zero_add]; exact h2, ?_⟩
  rw [List.getElem_map]
  exact (h.lu k p _ hp (List.getElem?_eq_getElem hk)).2.br
theorem atv_set (ats : List (Value × Value)) (k : Nat) (v : Value) {p : Value × Value} (h : ats[k]? = some p) : (atv ats).set (k * 2) v = atv (ats.set k (v, p.2)) := by
  induction ats generalizing k with
  | nil => simp at h
  | cons a l ih =>
    cases k with
    | zero => simp at h; subst h; simp [atv]
    | succ k =>
      have := ih k (by simpa using h)
      rw [show (k + 1) * 2 = k * 2 + 1 + 1 by omega]
      simp only [List.set_cons_succ]
      simp only [atv, List.flatMap_cons, List.cons_append, List.nil_append] at this ⊢
      rw [← this]; rfl
/-- an atom's units are others -/
theorem PT.units {w2 W : World} {B : Nat} {sv : Value} {la : Option Addr} {ln lc : Nat} {ats : List (Value × Value)} {L : List (List Bool × List (Int × Int))} (h : PT w2 W B sv la ln lc ats L) {W' : World} {k : Nat} {p : Value × Value} {x : List Bool × List (Int × Int)} (hp : ats[k]? = some p) (hx : L[k]? = some x) {v' : Value} {l' : List (Int × Int)} (hown : OwnR W' w2.heap.size v' l') (hf : Fr W W' (fun b => p.1.ownBlock = some b)) (hl : Loc W p.1 v') {lb : Nat} (hla : la = some ⟨lb, 0, none⟩) :
    W'.cell? ⟨lb, k * 2, none⟩ = some p.1 ∧ W'.frozen? ⟨lb, k * 2, none⟩ = false ∧ PT w2 (W'.setCell ⟨lb, k * 2, none⟩ v') B sv la ln lc (ats.set k (v', p.2)) (L.set k (x.1, l')) := by
  subst hla
  obtain rfl : ln = ats.length := by rw [h.ll]; exact h.lnl
  obtain ⟨a1, a2⟩ := h.lu k p x hp hx
  have lo' := own_fr h.lo hf fun b hb e => own_ne h.lo a1 (by decide) hb e
  obtain ⟨lcs, hlb⟩ := own_obj lo' (b := lb) rfl
  have ne65 : ∀ {e size m : Nat} {v : Value} {xs : List Value}, W'.ownsRow w2.heap.size e size v m xs → e ≠ 65 → (W'.setCell ⟨lb, k * 2, none⟩ v').ownsRow w2.heap.size e size v m xs := fun ho n1 => own_fr ho (fr_set _ _ _ _) fun b hb e => own_not ho hlb (fun e => n1 e.symm) (by rw [← (show b = lb from e)]; exact hb)
  have hB' : W'.heap[B]? = some (.cells #[sv, .slice (some ⟨lb, 0, none⟩) ats.length lc] 59 (0, 0)) := (hf.block _ (blk_lt h.blk) (own_not a1 h.blk (by decide))).trans h.blk
  have hBl : B ≠ lb := fun e => by rw [e, hlb] at hB'; injection hB' with hB'; injection hB' with _ hB' _; cases hB'
  obtain ⟨lb2, e2, _, c1, _, c3⟩ := h.at' hp
  injection e2 with e2
  injection e2 with e2 _ _
  subst e2
  have hkl := (List.getElem?_eq_some_iff.1 hp).1
  have hcell : W'.cell? ⟨lb, k * 2, none⟩ = some p.1 := by
    rcases lo'.2 with ⟨e, _⟩ | ⟨g, cap, cur, e, _, hg, hc, _, hs, ht⟩
    · cases e
    · injection e with e1 _ _
      injection e1 with e1
      injection e1 with e1 _ _
      subst e1
      refine heap_cellv hg ?_
      have h1 := (atv_at ats hp).1
      rw [← ht, List.getElem?_take, if_pos (by omega), Array.getElem?_toList] at h1
      exact h1
  refine ⟨hcell, lo'.frozenAt _, (fr_set W' lb (k * 2) v').block B (blk_lt hB') hBl |>.trans hB', h.bl, ?_, by simp [h.ll], fun j q y hq hy => ?_, fun i j q r b hq hr hqb hrb => ?_, (h.fr.trans hf fun b hb e => ?_).trans (fr_set _ _ _ _) fun b hb e => ?_⟩
  · have := (lo'.stored (k * 2) v').1
    rw [atv_set ats k v' hp] at this
    rw [List.length_set]
    exact this
  · rw [List.getElem?_set] at hq hy
    by_cases e : k = j
    · subst e
      rw [if_pos rfl, if_pos (by omega)] at hq
      rw [if_pos rfl, if_pos (by rw [← h.ll]; omega)] at hy
      injection hq with hq
      injection hy with hy
      subst hq
      subst hy
      have a2' : OwnB W' w2.heap.size p.2 x.1 := own_fr a2 hf fun b hb e => own_ne a1 a2 (by decide) e hb
      exact ⟨ne65 hown (by decide), ne65 a2' (by decide)⟩
    · rw [if_neg e] at hq hy
      obtain ⟨b1, b2⟩ := h.lu j q y hq hy
      exact ⟨ne65 (own_fr b1 hf fun b hb e2 => e (h.nd k j p q b hp hq e2 hb)) (by decide), ne65 (own_fr b2 hf fun b hb e2 => own_ne a1 b2 (by decide) e2 hb) (by decide)⟩
  · rw [List.getElem?_set] at hq hr
    have nw : ∀ {j : Nat} {q : Value × Value}, k ≠ j → ats[j]? = some q → v'.ownBlock = some b → q.1.ownBlock = some b → False := fun {j q} hkj hq h1 h2 => by
      obtain ⟨y, hy⟩ : ∃ y, L[j]? = some y := ⟨_, List.getElem?_eq_getElem (by rw [← h.ll]; exact (List.getElem?_eq_some_iff.1 hq).1)⟩
      have hlt := (World.ownsRow.lt (h.lu j q y hq hy).1 b h2).2
      exact hkj (h.nd k j p q b hp hq (loc_old hl h1 hlt) h2)
    by_cases ei : k = i
    · by_cases ej : k = j
      · omega
      · rw [if_pos ei, if_pos (by omega)] at hq
        rw [if_neg ej] at hr
        injection hq with hq
        subst hq
        exact (nw ej hr hqb hrb).elim
    · rw [if_neg ei] at hq
      by_cases ej : k = j
      · rw [if_pos ej, if_pos (by omega)] at hr
        injection hr with hr
        subst hr
        exact (nw ei hq hrb hqb).elim
      · rw [if_neg ej] at hr
        exact h.nd i j q r b hq hr hqb hrb
  · have := (World.ownsRow.lt a1 b e).1
    omega
  · have e : b = lb := e
    have := (World.ownsRow.lt lo' lb rfl).1
    omega
end Go.Proofs
namespace Go.Proofs
open Go.RowKit Go.Shelf

set_option maxRecDepth 100000
attribute [local go_sem] Oper.semAt_some
attribute [local go_sem ↓] Go.wp_at_zero Go.wp_at_succ

/-- the units of an atom change in their own row -/
theorem PT.inplace {w2 W : World} {B : Nat} {sv : Value} {la : Option Addr} {ln lc : Nat} {ats : List (Value × Value)} {L : List (List Bool × List (Int × Int))} (h : PT w2 W B sv la ln lc ats L) {W' : World} {k : Nat} {p : Value × Value} {x : List Bool × List (Int × Int)} (hp : ats[k]? = some p) (hx : L[k]? = some x) {l' : List (Int × Int)} (hown : OwnR W' w2.heap.size p.1 l') (hf : Fr W W' (fun b => p.1.ownBlock = some b)) :
    PT w2 W' B sv la ln lc ats (L.set k (x.1, l')) := by
  obtain ⟨a1, a2⟩ := h.lu k p x hp hx
  have hkl : k < L.length := (List.getElem?_eq_some_iff.1 hx).1
  refine ⟨(hf.block _ (blk_lt h.blk) (own_not a1 h.blk (by decide))).trans h.blk, h.bl, own_fr h.lo hf fun b hb e => own_ne h.lo a1 (by decide) hb e, by simp [h.ll], fun j q y hq hy => ?_, h.nd, h.fr.trans hf fun b hb e => ?_⟩
  · rw [List.getElem?_set] at hy
    by_cases e : k = j
    · subst e
      rw [if_pos rfl, if_pos hkl] at hy
      injection hy with hy
      subst hy
      rw [hp] at hq
      injection hq with hq
      subst hq
      exact ⟨hown, own_fr a2 hf fun b hb e => own_ne a1 a2 (by decide) e hb⟩
    · rw [if_neg e] at hy
      obtain ⟨b1, b2⟩ := h.lu j q y hq hy
      exact ⟨own_fr b1 hf fun b hb e2 => e (h.nd k j p q b hp hq e2 hb), own_fr b2 hf fun b hb e2 => own_ne a1 b2 (by decide) e2 hb⟩
  · have := (World.ownsRow.lt a1 b e).1
    omega
theorem mrg_high {T : Int → Prop} {l : List (Int × Int)} {p : Int × Int} (h : ∀ q ∈ l, T q.2) (hp : T p.2) : ∀ q ∈ mrg l p, T q.2 := by
  unfold mrg
  split
  · split
    · intro q hq
      rcases List.mem_append.1 hq with hq | hq
      · exact h q ((List.dropLast_sublist _).subset hq)
      · simp at hq; subst hq; exact hp
    · intro q hq
      rcases List.mem_append.1 hq with hq | hq
      · exact h q hq
      · simp at hq; subst hq; exact hp
  · intro q hq
    simp at hq; subst hq; exact hp
theorem radd_high {T : Int → Prop} {ss : List (List (Int × Int))} {L : List (List Bool × List (Int × Int))} {p : Int × Int} (h : ∀ x ∈ L, ∀ q ∈ x.2, T q.2) (hp : T p.2) : ∀ x ∈ radd ss L p, ∀ q ∈ x.2, T q.2 := by
  unfold radd
  split
  · intro x hx
    obtain ⟨j, hj, rfl⟩ := List.getElem_of_mem hx
    have hj' : j < L.length := by simpa using hj
    rw [List.getElem_modify]
    have := h _ (List.getElem_mem hj')
    split
    · exact mrg_high this hp
    · exact this
  · intro x hx
    rcases List.mem_append.1 hx with hx | hx
    · exact h x hx
    · simp at hx; subst hx
      intro q hq
      simp at hq; subst hq; exact hp
/-- a unit's high end is a piece's -/
theorem rfill_high {T : Int → Prop} (ss : List (List (Int × Int))) {P : List (Int × Int)} (h : ∀ p ∈ P, T p.2) : ∀ k, k ≤ P.length → ∀ x ∈ rfill ss (P.take k), ∀ q ∈ x.2, T q.2
  | 0, _ => by simp [rfill]
  | k + 1, hk => by
    rw [List.take_succ_eq_append_getElem (by omega), rfill_snoc]
    exact radd_high (rfill_high ss h k (by omega)) (h _ (List.getElem_mem _))
end Go.Proofs
