/-
  Weights of the document where no rule wants more: they are ours.
-/
import Derived.RangeFuncNested
import Derived.RangeFuncBound
import Derived.RangeFuncCalls
import Derived.RangeFuncLeaves
import Derived.Shelf.Abstract
import Derived.Shelf.RegionOpen
import Derived.WalkKit
import Derived.WalkSpells
import Derived.WalkLawsBesides
import Derived.OwnWalkIn
import Derived.TacticsInMore
import Derived.LoopNIn
import Derived.LoopIn
import Derived.BigQuiet
import Derived.RegionIn
import Derived.Deep.QuietTactic
import Derived.Deep.RegionWith
import Derived.Lib.OthersKept
import Derived.Maps.AppendAt
import Derived.Lib.SmallJoins
import Derived.Shelf.SlSortCmp.QuietGrown
import Derived.Test.YtkijbaofhodplaaDoorMgn
namespace Go.Proofs
open Go.RowKit Go.Shelf

set_option maxRecDepth 100000
attribute [local go_sem] Oper.semAt_some
attribute [local go_sem ↓] Go.wp_at_zero Go.wp_at_succ

/-- the document's weights where no rule wants more -/
structure Fx (rs : List Rl) (L W : List Int) : Prop where
  e : W.length = L.length
  b : ∀ k, k < L.length → 1 ≤ bAt W k ∧ bAt W k ≤ 64
  f : ∀ (i : Nat) (hi : i < rs.length) (x : Int × Int), x ∈ fstS rs i → ∀ k, plc L x.1 ≤ k → k < L.length → bAt L k ≤ x.2 → wnt L W rs[i] ≤ bAt W k
theorem touch_ov : ∀ (a b : List (Int × Int)), touchL a b = true → ∃ x ∈ a, ∃ y ∈ b, x.1 ≤ y.2 ∧ y.1 ≤ x.2
  | [], b, h => by cases b <;> simp [touchL, touchF] at h
  | x :: a, [], h => by simp [touchL, touchF] at h
  | x :: a, y :: b, h => by
    rw [touch_cons] at h
    split at h
    · obtain ⟨p, hp, q, hq, h1⟩ := touch_ov a (y :: b) h
      exact ⟨p, List.mem_cons_of_mem _ hp, q, hq, h1⟩
    · split at h
      · obtain ⟨p, hp, q, hq, h1⟩ := touch_ov (x :: a) b h
        exact ⟨p, hp, q, List.mem_cons_of_mem _ hq, h1⟩
      · exact ⟨x, List.mem_cons_self, y, List.mem_cons_self, by omega, by omega⟩
termination_by a b => a.length + b.length
theorem grK_ge {L W : List Int} {hi : Int} (hS : L.Pairwise (· < ·)) : ∀ (f p : Nat) (n : Int) (k : Nat), p ≤ k → k < L.length → bAt L k ≤ hi → k < p + f → bAt W k ≤ grK L W hi f p n
  | 0, p, n, k, h1, _, _, h2 => by omega
  | f + 1, p, n, k, h1, hk, hl, h2 => by
    rw [grK, if_pos ⟨by omega, Int.le_trans (rise_le hS h1 hk) hl⟩]
    by_cases e : p = k
    · subst e
      refine Int.le_trans ?_ (grK_mono f _ _)
      split <;> omega
    · exact grK_ge hS f (p + 1) _ k (by omega) hk hl (by omega)
theorem grt_mono {L W : List Int} : ∀ (s : List (Int × Int)) (n : Int), n ≤ s.foldl (gr1 L W) n
  | [], n => Int.le_refl n
  | x :: s, n => by
    rw [List.foldl_cons]
    exact Int.le_trans (grK_mono _ _ _) (grt_mono s _)
theorem grt_ge {L W : List Int} (hS : L.Pairwise (· < ·)) : ∀ (s : List (Int × Int)) (n : Int) (x : Int × Int), x ∈ s → ∀ k, plc L x.1 ≤ k → k < L.length → bAt L k ≤ x.2 → bAt W k ≤ s.foldl (gr1 L W) n
  | [], n, x, h, k, _, _, _ => by cases h
  | y :: s, n, x, h, k, h1, h2, h3 => by
    rw [List.foldl_cons]
    rcases List.mem_cons.1 h with rfl | h
    · exact Int.le_trans (grK_ge hS _ _ _ k h1 h2 h3 (by omega)) (grt_mono s _)
    · exact grt_ge hS s _ x h k h1 h2 h3
theorem grt_one_le {L W : List Int} (hS : L.Pairwise (· < ·)) {u : Int} (hu : u ∈ L) (h0 : 0 ≤ bAt W (plc L u)) : grt L W [(u, u)] ≤ bAt W (plc L u) := by
  refine grt_le _ h0 fun x hx j h1 h2 h3 => ?_
  simp at hx
  subst hx
  have ha := plc_at hS hu
  by_cases e : plc L u = j
  · rw [e]; exact Int.le_refl _
  · have := rise_lt hS (show plc L u < j by simp at h1; omega) h2
    simp at h3
    omega
theorem bkI_may {rs : List Rl} : ∀ {k : Nat} {b : Pb}, b ∈ bkI rs k → ∃ r ∈ rs, ∃ p ∈ backP r, p.k ≠ 2 ∧ b.us = mayB p
  | 0, b, hb => by simp [bkI] at hb
  | k + 1, b, hb => by
    rw [bkI] at hb
    rcases List.mem_append.1 hb with hb | hb
    · exact bkI_may hb
    · obtain ⟨p, h1, h2, h3⟩ := pbs_mem2 hb
      cases hk : rs[k]? with
      | none => rw [hk] at h1; simp at h1
      | some r =>
        rw [hk] at h1
        exact ⟨r, List.mem_of_getElem? hk, p, by simpa using h1, h2, h3⟩
theorem kind_ok {rs : List Rl} (hO : ∀ r ∈ rs, Ok r) {r : Rl} (hr : r ∈ rs) {p : Pc} (hp : p ∈ backP r) : p.k = 1 ∨ p.k = 2 ∨ p.k = 3 := by
  rcases pc_ok ((hO r hr).pc p (List.mem_of_mem_drop hp)) with ⟨h1, _⟩ | ⟨h1, _⟩ | ⟨h1, _⟩ <;> omega
theorem mayB_some {r : Rl} (hO : Ok r) {p : Pc} (hp : p ∈ backP r) (h2 : p.k ≠ 2) : mayB p ≠ [] := by
  rcases pc_ok (hO.pc p (List.mem_of_mem_drop hp)) with ⟨h1, hw, _⟩ | ⟨h1, _⟩ | ⟨h1, _, h3, h4, hm⟩
  · unfold mayB
    rw [if_neg (by omega)]
    simp
  · exact absurd h1 h2
  · unfold mayB
    rw [if_pos h1]
    unfold matB at hm
    simp only [Bool.and_eq_true, decide_eq_true_eq] at hm
    have hy : p.y.toNat < r.key.length := by omega
    have hk : keyAt r.key p.y = r.key[p.y.toNat] := by simp [keyAt, hy]
    have := lenU_ok (List.all_eq_true.1 hO.kS _ (List.getElem_mem hy))
    intro e
    rw [e, hk] at hm
    have h0 := hm.2
    rw [h0] at this
    simp [lenU, tot] at this
theorem gs_of {L W : List Int} {rs : List Rl} (hO : ∀ r ∈ rs, Ok r) (hS : Srt (0 :: bords rs) L) (hW : ∀ k, k < L.length → 1 ≤ bAt W k) {r : Rl} (hr : r ∈ rs) (n : Nat) : ∀ l : List Pc, (∀ p ∈ l, p ∈ backP r) → gs (grt L W) (pbs n l) n ≤ pcS L W l
  | [], _ => by simp [pcS, pbs, gs]
  | p :: l, hl => by
    have ih := gs_of (W := W) hO hS hW hr n l fun q hq => hl q (List.mem_cons_of_mem _ hq)
    have hp := hl p List.mem_cons_self
    simp only [pcS, pbs]
    rcases kind_ok hO hr hp with h1 | h1 | h1
    · rw [if_neg (by omega)]
      have hm : p.u ∈ L := (hS.m _).2 (List.mem_cons_of_mem _ (mem_may hr hp (.inl h1) (x := (p.u, p.u)) (by rw [mayB, if_neg (by omega)]; simp)))
      have h0 := hW _ (plc_lt p.u (List.length_pos_of_mem hm))
      have := grt_one_le (W := W) hS.p hm (by omega)
      have e : mayB p = [(p.u, p.u)] := by unfold mayB; rw [if_neg (by omega)]
      simp only [gs, if_pos, e]
      rw [pcW, if_pos h1]
      omega
    · rw [if_pos h1, pcW, if_neg (by omega), if_neg (by omega)]; omega
    · rw [if_neg (by omega)]
      have e : mayB p = p.tl := by unfold mayB; rw [if_pos h1]
      simp only [gs, if_pos, e]
      rw [pcW, if_neg (by omega), if_pos h1]
      omega
theorem wsum_gs {g : List (Int × Int) → Int} : ∀ {l : List Pb}, (∀ b ∈ l, b.wt ≤ g b.us) → ∀ n, wsum l n ≤ gs g l n
  | [], _, n => by simp [gs, wsum]
  | b :: l, h, n => by
    have h1 := wsum_gs (fun x hx => h x (List.mem_cons_of_mem _ hx)) n
    have h2 := h b List.mem_cons_self
    simp only [gs, wsum]
    split <;> omega
def wntI (L W : List Int) (rs : List Rl) (i : Nat) : Int := (rs[i]?.map (wnt L W)).getD 0
theorem wntI_at {L W : List Int} {rs : List Rl} {i : Nat} (h : i < rs.length) : wntI L W rs i = wnt L W rs[i] := by simp [wntI, h]
theorem fst_mem {rs : List Rl} {i : Nat} (hi : i < rs.length) {x : Int × Int} (hx : x ∈ fstS rs i) : x.1 ∈ bords rs ∧ x.2 + 1 ∈ bords rs := by
  rw [fstS_at hi] at hx
  exact ⟨mem_bords (List.getElem_mem hi) (List.mem_append_left _ (List.mem_flatMap.2 ⟨x, hx, by simp⟩)), mem_bords (List.getElem_mem hi) (List.mem_append_left _ (List.mem_flatMap.2 ⟨x, hx, by simp⟩))⟩
/-- such weights are weights of the rules: so ours are found, and are no greater -/
theorem Fx.fea {rs : List Rl} {L W : List Int} (h : Fx rs L W) (hS : Srt (0 :: bords rs) L) (hA : (allE rs).2 = 0) (hcp : ∀ r ∈ rs, copB r = false) :
    ∃ st, wgh rs = (some st, 0, 0) ∧ ∀ i (hi : i < rs.length), at0 st.ws i ≤ max 1 (wnt L W rs[i]) := by
  have hok := allE_ok hA
  have hO := hok.2
  have hpos : 0 < L.length := List.length_pos_of_mem ((hS.m 0).2 (by simp))
  have husb : ∀ j, j < (bkI rs rs.length).length → ∃ r ∈ rs, ∃ p ∈ backP r, p.k ≠ 2 ∧ (((bkI rs rs.length).map Pb.us)[j]?).getD [] = mayB p := fun j hj => by
    obtain ⟨r, hr, p, hp, h2, e⟩ := bkI_may (List.getElem_mem hj)
    refine ⟨r, hr, p, hp, h2, ?_⟩
    rw [List.getElem?_map, List.getElem?_eq_getElem hj]
    simpa using e
  have hmL : ∀ {r : Rl} (_ : r ∈ rs) {p : Pc} (_ : p ∈ backP r) (_ : p.k ≠ 2) {y : Int × Int} (_ : y ∈ mayB p), y.1 ∈ L ∧ y.1 ≤ y.2 := fun {r} hr {p} hp h2 {y} hy =>
    ⟨(hS.m _).2 (List.mem_cons_of_mem _ (mem_may hr hp (by have := kind_ok hO hr hp; omega) hy)), ((mayB_good (hO r hr) hp h2).1 y hy).1⟩
  have hsol : Sol rs (csI rs) ((bkI rs rs.length).map Pb.us) ((bkI rs rs.length).map Pb.r) (fun i => max 1 (wntI L W rs i)) (fun j => grt L W ((((bkI rs rs.length).map Pb.us)[j]?).getD [])) := by
    refine ⟨fun i j hi hj hT => ?_, fun st2 h1 h2 h3 i hi => ?_, fun i hi => ?_⟩
    · rw [csI_len] at hi
      simp only [List.length_map] at hj
      obtain ⟨r, hr, p, hp, h2, e⟩ := husb j hj
      rw [e] at hT ⊢
      obtain ⟨x, hx, y, hy, h4, h5⟩ := touch_ov _ _ hT
      have hxw := ((key_good hO hi).1 x hx).1
      obtain ⟨hyL, hyw⟩ := hmL hr hp h2 hy
      have hxL : x.1 ∈ L := (hS.m _).2 (List.mem_cons_of_mem _ (fst_mem hi hx).1)
      obtain ⟨u, hu, hux, huy, hu1, hu2⟩ : ∃ u ∈ L, x.1 ≤ u ∧ y.1 ≤ u ∧ u ≤ x.2 ∧ u ≤ y.2 := by
        by_cases hc : x.1 ≤ y.1
        · exact ⟨y.1, hyL, hc, Int.le_refl _, h5, hyw⟩
        · exact ⟨x.1, hxL, Int.le_refl _, by omega, hxw, h4⟩
      have hk := plc_lt u hpos
      have hku := plc_at hS.p hu
      have hge : ∀ v ∈ L, v ≤ u → plc L v ≤ plc L u := fun v hv hvu => by
        have hv1 := plc_at hS.p hv
        rcases Nat.lt_or_ge (plc L u) (plc L v) with hlt | hlt
        · have := rise_lt hS.p hlt (plc_lt v hpos)
          omega
        · exact hlt
      have h6 := h.f i hi x hx (plc L u) (hge _ hxL hux) hk (by omega)
      have h7 := grt_ge (W := W) hS.p (mayB p) 0 y hy (plc L u) (hge _ hyL huy) hk (by omega)
      have h8 := (h.b _ hk).1
      have h9 : bAt W (plc L u) ≤ grt L W (mayB p) := h7
      show max 1 (wntI L W rs i) ≤ grt L W (mayB p)
      rw [wntI_at hi]
      omega
    · rw [csI_len] at hi
      have h4 : wsum st2.bk i ≤ gs (grt L W) st2.bk i := wsum_gs (fun b hb => by
        obtain ⟨j, hj, rfl⟩ := List.getElem_of_mem hb
        have hl2 : st2.bk.length = (bkI rs rs.length).length := by simpa using congrArg List.length h1
        have := h3 j (by simp; omega)
        unfold wtAt at this
        rw [List.getElem?_eq_getElem hj, ← h1, List.getElem?_map, List.getElem?_eq_getElem hj] at this
        simpa using this) i
      have h5 : gs (grt L W) st2.bk i = gs (grt L W) (pbs i (backP rs[i])) i := by
        rw [gs_same h2 h1, gs_bkI, if_pos hi, List.getElem?_eq_getElem hi]
        rfl
      have h6 := gs_of (W := W) hO hS (fun k hk => (h.b k hk).1) (List.getElem_mem hi) i (backP rs[i]) fun p hp => hp
      show at0 (csI rs) i + wsum st2.bk i ≤ max 1 (wntI L W rs i)
      rw [csI_val hi, wntI_at hi]
      unfold wnt
      omega
    · rw [csI_len] at hi
      show max 1 (wntI L W rs i) ≤ 64
      rw [wntI_at hi]
      have hne : fstS rs i ≠ [] := by
        have hr := hO _ (List.getElem_mem hi)
        have h0 := hr.k0
        have := List.all_eq_true.1 hr.kS _ (List.getElem_mem h0)
        rw [fstS_at hi, show keyAt rs[i].key 0 = rs[i].key[0] by simp [keyAt, h0]]
        intro e
        rw [e] at this
        simp [okS] at this
      obtain ⟨x, hx⟩ := List.exists_mem_of_ne_nil _ hne
      have hxL : x.1 ∈ L := (hS.m _).2 (List.mem_cons_of_mem _ (fst_mem hi hx).1)
      have hk := plc_lt x.1 hpos
      have h1 := h.f i hi x hx (plc L x.1) (Nat.le_refl _) hk (by rw [plc_at hS.p hxL]; exact ((key_good hO hi).1 x hx).1)
      have h2 := (h.b _ hk).2
      omega
  have hbd : Bd (csI rs) ((bkI rs rs.length).map Pb.us) (fun i => max 1 (wntI L W rs i)) (fun j => grt L W ((((bkI rs rs.length).map Pb.us)[j]?).getD [])) (stK rs rs.length) := by
    refine ⟨fun i hi => ?_, fun j hj => ?_⟩
    · rw [csI_len] at hi
      have h2 : at0 (stK rs rs.length).ws i = 1 := by
        rw [stK_all]
        simp [at0, hi]
      show at0 _ i ≤ max 1 _
      omega
    · simp only [List.length_map] at hj
      have h2 : wtAt (stK rs rs.length).bk j = 1 := by
        rw [stK_all]
        show wtAt (bkI rs rs.length) j = 1
        unfold wtAt
        rw [List.getElem?_eq_getElem hj]
        exact (bkI_mem (List.getElem_mem hj)).2.1
      obtain ⟨r, hr, p, hp, h3, e⟩ := husb j hj
      show wtAt _ j ≤ grt L W _
      rw [e, h2]
      obtain ⟨y, hy⟩ := List.exists_mem_of_ne_nil _ (mayB_some (hO r hr) hp h3)
      obtain ⟨hyL, hyw⟩ := hmL hr hp h3 hy
      have hk := plc_lt y.1 hpos
      have := grt_ge (W := W) hS.p (mayB p) 0 y hy (plc L y.1) (Nat.le_refl _) hk (by rw [plc_at hS.p hyL]; exact hyw)
      exact Int.le_trans (h.b _ hk).1 this
  have hres := settleAll_least hsol (csI_len _) rs.length 0 _ (by omega) (run_start hO hok.1) hbd
  obtain ⟨o, R, hR⟩ : ∃ o R, settleAll rs rs.length 0 (stK rs rs.length) = (o, R) := ⟨_, _, rfl⟩
  rw [hR] at hres
  obtain ⟨h1, h2⟩ := hres
  simp only at h1
  subst h1
  refine ⟨R, by rw [wgh_of hA hcp, hR], fun i hi => ?_⟩
  have := h2.w i (by rw [csI_len]; exact hi)
  rw [← wntI_at hi]
  exact this
theorem plc_of {L : List Int} (hp : L.Pairwise (· < ·)) (h0 : 0 ∈ L) {u : Int} (hu : 0 ≤ u) : plc L u < L.length ∧ bAt L (plc L u) ≤ u ∧ ∀ v ∈ L, v ≤ u → v ≤ bAt L (plc L u) := by
  have hpos := List.length_pos_of_mem h0
  have hz : bAt L 0 ≤ u := by
    obtain ⟨q, hq, e⟩ := List.getElem_of_mem h0
    have h1 := rise_le hp (Nat.zero_le q) hq
    rw [bAt_lt hq, e] at h1
    omega
  have hs := plcF_spec L u L.length 0 L.length (by omega) hpos (Nat.le_refl _) hz (.inl rfl)
  rw [← plc] at hs
  refine ⟨hs.1, hs.2.1, fun v hv hvu => ?_⟩
  obtain ⟨q, hq, e⟩ := List.getElem_of_mem hv
  have e' : bAt L q = v := by rw [bAt_lt hq, e]
  rcases Nat.lt_or_ge (plc L u) q with hlt | hge
  · rcases hs.2.2 with h3 | h3
    · omega
    · have := rise_le hp (show plc L u + 1 ≤ q by omega) hq
      omega
  · rw [← e']
    exact rise_le hp hge hs.1
theorem wgtK_congr {rs : List Rl} {ws : List Int} {u v : Int} : ∀ n, (∀ i, i < n → hasB (fstS rs i) u = hasB (fstS rs i) v) → wgtK rs ws u n = wgtK rs ws v n
  | 0, _ => rfl
  | n + 1, h => by
    rw [wgtK, wgtK, wgtK_congr n fun i hi => h i (by omega), h n (by omega)]
/-- what the document's scale tells of a unit is what ours tells -/
theorem Fx.weight {rs : List Rl} {L W : List Int} (h : Fx rs L W) (hB : ∀ st, Fin rs st → WB rs st L W) (hS : Srt (0 :: bords rs) L) {st : St} (hw : wgh rs = (some st, 0, 0)) {u : Int} (hu : 0 ≤ u) : bAt W (plc L u) = wK rs st u := by
  have hF := wgh_fin hw
  have hA : (allE rs).2 = 0 := by
    unfold wgh at hw
    by_cases h0 : (allE rs).2 ≠ 0
    · rw [if_pos h0] at hw; injection hw with h1; cases h1
    · exact Classical.not_not.1 h0
  obtain ⟨st2, hw2, hle⟩ := h.fea hS hA hF.cp
  rw [hw] at hw2
  injection hw2 with hw2
  injection hw2 with hw2
  subst hw2
  have h0L : (0 : Int) ∈ L := (hS.m 0).2 (by simp)
  obtain ⟨hk, hb, hlast⟩ := plc_of hS.p h0L hu
  have hmem : ∀ i, i < rs.length → ∀ x ∈ fstS rs i, (x.1 ≤ u ∧ u ≤ x.2 ↔ x.1 ≤ bAt L (plc L u) ∧ bAt L (plc L u) ≤ x.2) := fun i hi x hx => by
    obtain ⟨m1, m2⟩ := fst_mem hi hx
    have m1 : x.1 ∈ L := (hS.m _).2 (List.mem_cons_of_mem _ m1)
    have m2 : x.2 + 1 ∈ L := (hS.m _).2 (List.mem_cons_of_mem _ m2)
    constructor
    · rintro ⟨a1, a2⟩
      exact ⟨hlast _ m1 a1, by omega⟩
    · rintro ⟨a1, a2⟩
      refine ⟨by omega, ?_⟩
      by_cases hc : u ≤ x.2
      · exact hc
      · have := hlast _ m2 (by omega)
        omega
  have hcong : wK rs st u = wK rs st (bAt L (plc L u)) := by
    unfold wK
    refine wgtK_congr _ fun i hi => ?_
    unfold hasB
    congr 1
    refine decide_eq_decide.2 ⟨?_, ?_⟩
    · rintro ⟨x, hx, h1⟩
      exact ⟨x, hx, (hmem i hi x hx).1 h1⟩
    · rintro ⟨x, hx, h1⟩
      exact ⟨x, hx, (hmem i hi x hx).2 h1⟩
  have h1 := ((hB st hF).b _ hk).2
  have h2 : wK rs st u ≤ bAt W (plc L u) := by
    unfold wK
    rcases wgtK_is (rs := rs) (ws := st.ws) (u := u) rs.length with e | ⟨i, hi, h1, e⟩
    · rw [e]; exact (h.b _ hk).1
    · rw [e]
      unfold hasB at h1
      simp only [Bool.and_eq_true, decide_eq_true_eq] at h1
      obtain ⟨x, hx, h2⟩ := h1.2
      obtain ⟨b1, b2⟩ := (hmem i hi x hx).1 h2
      have m1 : x.1 ∈ L := (hS.m _).2 (List.mem_cons_of_mem _ (fst_mem hi hx).1)
      have hpl : plc L x.1 ≤ plc L u := by
        rcases Nat.lt_or_ge (plc L u) (plc L x.1) with hlt | hlt
        · have := rise_lt hS.p hlt (plc_lt x.1 (by omega))
          rw [plc_at hS.p m1] at this
          omega
        · exact hlt
      have h3 := h.f i hi x hx _ hpl hk b2
      have h4 := hle i hi
      have h5 := (h.b _ hk).1
      omega
  rw [hcong] at h2 ⊢
  omega
end Go.Proofs
