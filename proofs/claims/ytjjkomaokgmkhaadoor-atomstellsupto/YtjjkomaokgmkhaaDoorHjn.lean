/-
  Levels of a tally.
-/
import Derived.RangeFuncNested
import Derived.RangeFuncBound
import Derived.RangeFuncCalls
import Derived.RangeFuncLeaves
import Derived.Shelf.Abstract
import Derived.Shelf.RegionOpen
import Derived.WalkKit
import Derived.WalkSpells
import Derived.WalkLawsBesides
import Derived.OwnWalkIn
import Derived.TacticsInMore
import Derived.LoopNIn
import Derived.LoopIn
import Derived.BigQuiet
import Derived.RegionIn
import Derived.Deep.QuietTactic
import Derived.Deep.RegionWith
import Derived.Lib.OthersKept
import Derived.Maps.AppendAt
import Derived.Lib.SmallJoins
import Derived.Shelf.SlSortCmp.QuietGrown
import Derived.Test.YtjjkomaokgmkhaaDoorHgn
namespace Go.Proofs
open Go.RowKit Go.Shelf

set_option maxRecDepth 100000
attribute [local go_sem] Oper.semAt_some
attribute [local go_sem ↓] Go.wp_at_zero Go.wp_at_succ

theorem setCells_blk {g : Nat} {t : TypeId} {m : Nat × Nat} : ∀ (vs : List Value) (o : Nat) (w : World) (cur : Array Value), w.heap[g]? = some (.cells cur t m) → o + vs.length ≤ cur.size →
    ∃ cur', (w.setCells g o vs).heap[g]? = some (.cells cur' t m) ∧ cur'.size = cur.size ∧ (∀ j, j < o → cur'[j]? = cur[j]?) ∧ ∀ j, j < vs.length → cur'[o + j]? = vs[j]?
  | [], o, w, cur, h, _ => ⟨cur, h, rfl, fun _ _ => rfl, fun j hj => by simp at hj⟩
  | v :: r, o, w, cur, h, hb => by
    simp only [List.length_cons] at hb
    obtain ⟨cur', h1, h2, h3, h4⟩ := setCells_blk r (o + 1) (w.setCell ⟨g, o, none⟩ v) (cur.setIfInBounds o v) (set_heap h) (by simp; omega)
    refine ⟨cur', h1, by simpa using h2, fun j hj => ?_, fun j hj => ?_⟩
    · rw [h3 j (by omega), Array.getElem?_setIfInBounds, if_neg (by omega)]
    · cases j with
      | zero =>
        rw [Nat.add_zero, h3 o (by omega), Array.getElem?_setIfInBounds, if_pos rfl, if_pos (by omega)]
        rfl
      | succ j =>
        have := h4 j (by simpa using hj)
        rw [show o + (j + 1) = o + 1 + j by omega, this]
        rfl
theorem setCells_fr (g : Nat) : ∀ (vs : List Value) (o : Nat) (w : World), Fr w (w.setCells g o vs) (fun k => k = g)
  | [], _, _w => Fr.refl _ _
  | v :: r, o, w => (fr_set w g o v).trans (setCells_fr g r (o + 1) _) fun _ _ e => e
theorem own_cells {w : World} {base n c : Nat} {a : Option Addr} {zs : List Int} (h : OwnI w base (.slice a n c) zs) (hne : zs ≠ []) : ∃ g cur, a = some ⟨g, 0, none⟩ ∧ n = zs.length ∧ base ≤ g ∧ w.heap[g]? = some (.cells cur 3 (0, 0)) ∧ n ≤ c ∧ c ≤ maxLen ∧ cur.size = c ∧ ∀ j, j < zs.length → cur[j]? = some (.int .i64 (zs.getD j 0)) := by
  rcases h.2 with ⟨e, e0⟩ | ⟨g, cap, cur, e, h1, h2, h3, h4, h5, h6⟩
  · exact absurd (List.eq_nil_of_length_eq_zero e0) hne
  · injection e with e1 e2 e3
    subst e1; subst e2; subst e3
    refine ⟨g, cur, rfl, rfl, h1, h2, h3, h4, by omega, fun j hj => ?_⟩
    have := congrArg (·[j]?) h6
    simp only [List.getElem?_take, if_pos (show j < zs.length * 1 by omega), Array.getElem?_toList] at this
    rw [this]
    simp [ints, List.getD_eq_getElem?_getD, hj]
theorem compact_own {w : World} {base : Nat} {v : Value} {zs : List Int} (h : OwnI w base v zs) : Calls Tryd.prog 48 #[v] w fun e w' => ∃ v', e = .returned v' ∧ OwnI w' base v' (Lib.compact zs) ∧ Fr w w' (fun k => v.ownBlock = some k) ∧ v'.ownBlock = v.ownBlock := by
  obtain ⟨a, c, hv⟩ := own_len h
  subst hv
  by_cases hz : zs = []
  · subst hz
    refine (Tryd.slices_Compact_int_empty a c w).mono ?_
    rintro e w' ⟨rfl, rfl⟩
    exact ⟨_, rfl, h, Fr.refl _ _, rfl⟩
  · obtain ⟨g, cur, rfl, _, hb, hg, hnc, hcm, hcs, hat⟩ := own_cells h hz
    have hmx : maxLen ≤ 9223372036854775807 := by decide
    refine (Tryd.slices_Compact_int_cells g 0 zs.length c zs w (Nat.le_refl _) (by omega) hnc (fun j hj => heap_cellv hg (by rw [Nat.zero_add]; exact hat j hj)) (fun j _ => free_of hg)).mono ?_
    rintro e w' ⟨rfl, q, rfl⟩
    rw [List.take_length]
    have hl := compact_len zs
    have hgq : (w.drewN q).heap[g]? = some (.cells cur 3 (0, 0)) := hg
    obtain ⟨cur', k1, k2, _, k4⟩ := setCells_blk ((Lib.compact zs ++ List.replicate (zs.length - (Lib.compact zs).length) 0).map (Value.int .i64)) 0 (w.drewN q) cur hgq (by simp; omega)
    refine ⟨_, rfl, ⟨by simp [ints], .inr ⟨g, c, cur', rfl, hb, k1, by omega, hcm, by omega, ?_⟩⟩, ?_, rfl⟩
    · apply List.ext_getElem?
      intro j
      rw [List.getElem?_take]
      split
      · rename_i hj
        have := k4 j (by simp; omega)
        rw [Nat.zero_add] at this
        rw [Array.getElem?_toList, this, List.getElem?_map, List.getElem?_append_left (by omega)]
        simp [ints]
      · rename_i hj
        symm
        rw [List.getElem?_eq_none]
        simp [ints]; omega
    · exact ((fr_grown ((Grown.refl w).drewN q) _).trans (setCells_fr g _ _ _) fun k _ e => (by rw [e]; rfl))
theorem lev_sizes (below : List Nat) : ∀ (ts : List Nat) (s : List (Nat × Nat) × List Nat), (lev below s ts).1.length ≤ s.1.length + ts.length ∧ (lev below s ts).2.length = s.2.length
  | [], s => ⟨by simp [lev], rfl⟩
  | t :: ts, s => by
    have := lev_sizes below ts (lev1 below s t)
    have h1 : (lev1 below s t).1.length ≤ s.1.length + 1 := by
      unfold lev1 addP
      split <;> simp
    have h2 : (lev1 below s t).2.length = s.2.length := by simp [lev1]
    have e : lev below s (t :: ts) = lev below (lev1 below s t) ts := rfl
    rw [e]
    simp only [List.length_cons]
    omega
/-- how far the levels have come -/
structure Lv (R : List (Nat × Nat) × List (List Nat)) (bel : List Nat) (U : List (List Nat)) (L N0 k : Nat) (psk : List (Nat × Nat)) (upk : List (List Nat)) (tsk : List Nat) : Prop where
  k1 : k ≤ U.length
  len : upk.map List.length = U.map List.length
  e1 : R.1 = (levs psk ((bel :: upk).getD k []) (upk.drop k) tsk).1
  e2 : R.2 = upk.take k ++ (levs psk ((bel :: upk).getD k []) (upk.drop k) tsk).2
  tl : tsk.length ≤ L
  tb : ∀ j ∈ tsk, j < ((bel :: upk).getD k []).length
  pb : psk.length ≤ N0 + L * k
theorem Lv.start {ps : List (Nat × Nat)} {bel : List Nat} {U : List (List Nat)} {ts : List Nat} (hb : ∀ j ∈ ts, j < bel.length) : Lv (levs ps bel U ts) bel U ts.length ps.length 0 ps U ts :=
  ⟨Nat.zero_le _, rfl, rfl, by simp, Nat.le_refl _, hb, by simp⟩
theorem Lv.step {R : List (Nat × Nat) × List (List Nat)} {bel : List Nat} {U : List (List Nat)} {L N0 k : Nat} {psk : List (Nat × Nat)} {upk : List (List Nat)} {tsk : List Nat} (h : Lv R bel U L N0 k psk upk tsk) (hk : k < upk.length)
    (hl : ((bel :: upk).getD k []).length ≤ 2 * upk[k].length) : Lv R bel U L N0 (k + 1) (lev ((bel :: upk).getD k []) (psk, upk[k]) (Lib.compact (tsk.map (· / 2)))).1 (upk.set k (lev ((bel :: upk).getD k []) (psk, upk[k]) (Lib.compact (tsk.map (· / 2)))).2) (Lib.compact (tsk.map (· / 2))) := by
  have hul : upk.length = U.length := by have := congrArg List.length h.len; simpa using this
  have hd : upk.drop k = upk[k] :: upk.drop (k + 1) := List.drop_eq_getElem_cons hk
  have hz := lev_sizes ((bel :: upk).getD k []) (Lib.compact (tsk.map (· / 2))) (psk, upk[k])
  have hc : (Lib.compact (tsk.map (· / 2))).length ≤ L := by have := compact_len (tsk.map (· / 2)); have := h.tl; simp at *; omega
  have e1 := h.e1
  have e2 := h.e2
  rw [hd] at e1 e2
  obtain ⟨q, hq⟩ : ∃ q, lev ((bel :: upk).getD k []) (psk, upk[k]) (Lib.compact (tsk.map (· / 2))) = q := ⟨_, rfl⟩
  have hrow : (bel :: upk.set k q.2).getD (k + 1) [] = q.2 := by simp [List.getD, hk]
  simp only [levs, hq] at e1 e2
  rw [hq] at hz ⊢
  refine ⟨by omega, ?_, ?_, ?_, hc, fun j hj => ?_, ?_⟩
  · rw [← h.len]
    apply List.ext_getElem?
    intro i
    rw [List.getElem?_map, List.getElem?_map, List.getElem?_set]
    split
    · rename_i e
      subst e
      rw [List.getElem?_eq_getElem hk]
      simp [hz.2]
    · rfl
  · rw [hrow, List.drop_set_of_lt (by omega)]
    exact e1
  · rw [hrow, List.drop_set_of_lt (by omega), List.take_add_one, List.getElem?_set_self hk, List.take_set_of_le (Nat.le_refl _)]
    simpa using e2
  · rw [hrow, hz.2]
    obtain ⟨t, ht, rfl⟩ := List.mem_map.1 ((mem_compact _ _).1 hj)
    have := h.tb t ht
    show t / 2 < upk[k].length
    omega
  · have := h.pb
    have : L * (k + 1) = L * k + L := by rw [Nat.mul_succ]
    have := hz.1
    simp only at this
    omega
theorem Lv.fin {R : List (Nat × Nat) × List (List Nat)} {bel : List Nat} {U : List (List Nat)} {L N0 : Nat} {psk : List (Nat × Nat)} {upk : List (List Nat)} {tsk : List Nat} (h : Lv R bel U L N0 U.length psk upk tsk) : R = (psk, upk) := by
  have hul : upk.length = U.length := by have := congrArg List.length h.len; simpa using this
  have e1 := h.e1
  have e2 := h.e2
  rw [List.drop_of_length_le (by omega)] at e1 e2
  simp only [levs] at e1 e2
  rw [List.take_of_length_le (by omega), List.append_nil] at e2
  exact Prod.ext e1 e2
end Go.Proofs
