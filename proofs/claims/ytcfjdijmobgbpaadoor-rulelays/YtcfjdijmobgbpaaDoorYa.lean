/-
  RuleUnits: what is known of what a rule writes; what lies where.
-/
import Derived.RangeFuncNested
import Derived.RangeFuncBound
import Derived.RangeFuncCalls
import Derived.RangeFuncLeaves
import Derived.Shelf.Abstract
import Derived.Shelf.RegionOpen
import Derived.WalkKit
import Derived.WalkSpells
import Derived.WalkLawsBesides
import Derived.OwnWalkIn
import Derived.TacticsInMore
import Derived.LoopNIn
import Derived.LoopIn
import Derived.BigQuiet
import Derived.RegionIn
import Derived.Deep.QuietTactic
import Derived.Deep.RegionWith
import Derived.Lib.OthersKept
import Derived.Maps.AppendAt
import Derived.Lib.SmallJoins
import Derived.Test.YtcfjdijmobgbpaaDoorXb
namespace Go.Proofs
open Go.RowKit Go.Shelf

set_option maxRecDepth 100000
attribute [local go_sem] Oper.semAt_some
theorem wd_unit {u : Int} (h : isU u) : wd u ≠ 0 := by
  unfold isU at h
  by_cases h1 : (0 ≤ u ∧ u ≤ 127) ∨ (1114240 ≤ u ∧ u ≤ 1114367)
  · rw [wd_1 h1]; decide
  · by_cases h2 : 128 ≤ u ∧ u ≤ 2047
    · rw [wd_2 h2]; decide
    · by_cases h3 : 2048 ≤ u ∧ u ≤ 65535
      · rw [wd_3 (by omega)]; decide
      · rw [wd_4 (by omega)]; decide
theorem hasB_unit {l : List (Int × Int)} {u : Int} (h : hasB l u = true) : wd u ≠ 0 := by
  simp only [hasB, Bool.and_eq_true, decide_eq_true_eq] at h
  exact wd_unit (good_units ((validB_iff l).1 h.1).2 h.2)
theorem st_at {ls : List (List (Int × Int))} {us : List Int} (h : stB ls us = true) {j : Nat} (h1 : j < ls.length) (h2 : j < us.length) : hasB ls[j] us[j] = true := by
  simp only [stB, Bool.and_eq_true, decide_eq_true_eq] at h
  have := List.all_eq_true.1 h.2 (ls[j], us[j]) (by
    rw [List.mem_iff_getElem]
    exact ⟨j, by rw [List.length_zip]; omega, List.getElem_zip⟩)
  exact this
/-- what is known of the unit that a piece writes -/
structure Wr (key : List (List (Int × Int))) (us : List Int) (p : Pc) (u : Int) : Prop where
  w : wd u ≠ 0
  k : p.k = 1 ∨ p.k = 2 ∨ p.k = 3
  k1 : p.k = 1 → u = p.u
  k2 : p.k = 2 → ∃ (j : Nat) (hj : j < us.length), p.y = j ∧ us[j] = u
  k3 : p.k = 3 → hasB p.tl u = true
theorem wr_any {r : Rl} {us : List Int} (h : layB r us = true) {p : Pc} (hp : p ∈ r.res) : Wr r.key us p (wrt r.key us p) := by
  simp only [layB, Bool.and_eq_true, decide_eq_true_eq] at h
  have hok := chk_ok h.1
  have hl := st_len h.2
  rcases pc_ok (hok.pc p hp) with ⟨h1, h2, _, _⟩ | ⟨h1, _, _, h4, h5⟩ | ⟨h1, _, h3, h4, h5⟩
  · have e : wrt r.key us p = p.u := by unfold wrt; rw [if_neg (by omega), if_neg (by omega)]
    rw [e]
    exact ⟨h2, .inl h1, fun _ => rfl, fun k => by omega, fun k => by omega⟩
  · obtain ⟨j, hj⟩ : ∃ j : Nat, p.y = (j : Int) := ⟨p.y.toNat, by omega⟩
    have hjk : j < r.key.length := by omega
    have hju : j < us.length := by omega
    have e : wrt r.key us p = us[j] := by
      unfold wrt
      rw [if_neg (by omega), if_pos h1, hj]
      simp [unitAt, hju]
    rw [e]
    exact ⟨hasB_unit (st_at h.2 hjk hju), .inr (.inl h1), fun k => by omega, fun _ => ⟨j, hju, hj, rfl⟩, fun k => by omega⟩
  · obtain ⟨j, hj⟩ : ∃ j : Nat, p.y = (j : Int) := ⟨p.y.toNat, by omega⟩
    have hjk : j < r.key.length := by omega
    have hju : j < us.length := by omega
    have e1 : keyAt r.key (j : Int) = r.key[j] := by simp [keyAt, hjk]
    have e2 : unitAt us (j : Int) = us[j] := by simp [unitAt, hju]
    have e : wrt r.key us p = partU r.key[j] p.tl us[j] := by
      unfold wrt
      rw [if_pos h1, hj, e1, e2]
    rw [hj, e1] at h5
    simp only [matB, Bool.and_eq_true, decide_eq_true_eq] at h5
    have hS := List.all_eq_true.1 hok.kS r.key[j] (List.getElem_mem hjk)
    have hS2 := hS
    simp only [okS, Bool.and_eq_true] at hS2
    have hP : Paired r.key[j] p.tl := ⟨hS2.1, h5.1, lenU_ok hS, h5.2⟩
    have hh := st_at h.2 hjk hju
    have hh2 := hh
    simp only [hasB, Bool.and_eq_true, decide_eq_true_eq] at hh2
    have hq := (part_some hP hh2.2).2
    have hb : hasB p.tl (partU r.key[j] p.tl us[j]) = true := by simp [hasB, h5.1, hq]
    rw [e]
    exact ⟨hasB_unit hb, .inr (.inr h1), fun k => by omega, fun k => by omega, fun _ => hb⟩
/-- a rule that lies in a block -/
structure RC (W : World) (B : Nat) (bg : Bool) (av kv pv : Value) (en : Bool) (rv : Value) (cu : Int) : Prop where
  c0 : W.cell? ⟨B, 0, none⟩ = some (.bool bg)
  c1 : W.cell? ⟨B, 1, none⟩ = some av
  c2 : W.cell? ⟨B, 2, none⟩ = some kv
  c3 : W.cell? ⟨B, 3, none⟩ = some pv
  c4 : W.cell? ⟨B, 4, none⟩ = some (.bool en)
  c5 : W.cell? ⟨B, 5, none⟩ = some rv
  c6 : W.cell? ⟨B, 6, none⟩ = some (.int .i64 cu)
theorem RC.below {W W' : World} {B : Nat} {bg : Bool} {av kv pv : Value} {en : Bool} {rv : Value} {cu : Int} {n : Nat} (h : RC W B bg av kv pv en rv cu) (hb : Below n W W') (hn : W.heap.size ≤ n) : RC W' B bg av kv pv en rv cu :=
  ⟨cell_below h.c0 hb hn, cell_below h.c1 hb hn, cell_below h.c2 hb hn, cell_below h.c3 hb hn, cell_below h.c4 hb hn, cell_below h.c5 hb hn, cell_below h.c6 hb hn⟩
theorem rc_new (w : World) (bg : Bool) (av kv pv : Value) (en : Bool) (rv : Value) (cu : Int) : RC (w.alloc (.cells #[.bool bg, av, kv, pv, .bool en, rv, .int .i64 cu] 25)) w.heap.size bg av kv pv en rv cu :=
  ⟨cell_new rfl rfl, cell_new rfl rfl, cell_new rfl rfl, cell_new rfl rfl, cell_new rfl rfl, cell_new rfl rfl, cell_new rfl rfl⟩
/-- what lies where in the walk of RuleUnits -/
structure UF (w : World) (r : Rl) (av kv pv rv uv : Value) (us : List Int) (W : World) : Prop where
  bel : Below w.heap.size w W
  tab : Tab W
  rr : RR W av kv pv rv r
  iu : IR W uv us
  rc : RC W w.heap.size r.bg av kv pv r.en rv r.cu
theorem UF.below {w : World} {r : Rl} {av kv pv rv uv : Value} {us : List Int} {W W' : World} (p : UF w r av kv pv rv uv us W) (hb : Below W.heap.size W W') : UF w r av kv pv rv uv us W' :=
  ⟨p.bel.trans (hb.mono p.bel.size), p.tab.below hb p.tab.pos, p.rr.below hb (Nat.le_refl _), p.iu.below hb (Nat.le_refl _), p.rc.below hb (Nat.le_refl _)⟩
theorem UF.grown {w : World} {r : Rl} {av kv pv rv uv : Value} {us : List Int} {W W' : World} (p : UF w r av kv pv rv uv us W) (hb : Grown W W') : UF w r av kv pv rv uv us W' := p.below hb.below
theorem uf_start {w : World} {r : Rl} {av kv pv rv uv : Value} {us : List Int} (hT : Tab w) (h : RR w av kv pv rv r) (hu : IR w uv us) : UF w r av kv pv rv uv us (w.alloc (.cells #[.bool r.bg, av, kv, pv, .bool r.en, rv, .int .i64 r.cu] 25)) := by
  have hg : Grown w (w.alloc (.cells #[.bool r.bg, av, kv, pv, .bool r.en, rv, .int .i64 r.cu] 25)) := (Grown.refl _).alloc _
  exact ⟨hg.below, hT.grown hg, h.grown hg, hu.grown hg, rc_new _ _ _ _ _ _ _ _⟩
set_option maxHeartbeats 8000000 in
theorem units_no (r : Rl) (av kv pv rv uv : Value) (us : List Int) (w : World) (hT : Tab w) (h : RR w av kv pv rv r) (hu : IR w uv us) (hn : chk r ≠ 0 ∨ r.key.length ≠ us.length) :
    Calls Tryd.prog 5 #[.agg #[.bool r.bg, av, kv, pv, .bool r.en, rv, .int .i64 r.cu], uv] w fun e w' => e = .returned (.bool true) ∧ Below w.heap.size w w' := by
  have hlay : layB r us = false := by
    by_cases h1 : chk r = 0
    · have h2 : r.key.length ≠ us.length := hn.resolve_left (fun e => e h1)
      simp [layB, stB, h2]
    · simp [layB, h1]
  have P0 : Hid (UF w r av kv pv rv uv us (w.alloc (.cells #[.bool r.bg, av, kv, pv, .bool r.en, rv, .int .i64 r.cu] 25))) := uf_start hT h hu
  have HSh : Hid (∀ W, Hid (UF w r av kv pv rv uv us W) → Calls Tryd.prog 9 #[] W fun e w' => e = .returned (.bool true) ∧ Hid (UF w r av kv pv rv uv us w')) := fun W p => (shown_any W p.out.tab).mono fun e w' ⟨h1, h2⟩ => ⟨h1, p.out.below h2⟩
  have HL : Hid (∀ W, Hid (UF w r av kv pv rv uv us W) → Calls Tryd.prog 21 #[.agg #[.bool r.bg, av, kv, pv, .bool r.en, rv, .int .i64 r.cu], uv] W fun e w' => e = .returned (.tuple #[.slice none 0 0, .slice none 0 0]) ∧ Hid (UF w r av kv pv rv uv us w')) := fun W p => (lays_no r av kv pv rv uv us W p.out.tab p.out.rr p.out.iu hlay).mono fun e w' ⟨h1, h2⟩ => ⟨h1, p.out.grown h2⟩
  have HC : Hid (∀ W, Hid (UF w r av kv pv rv uv us W) → Calls Tryd.prog 14 #[.agg #[.bool r.bg, av, kv, pv, .bool r.en, rv, .int .i64 r.cu]] W fun e w' => e = .returned (.int .i64 (chk r)) ∧ Hid (UF w r av kv pv rv uv us w')) := fun W p => (check_any r av kv pv rv W p.out.tab p.out.rr).mono fun e w' ⟨h1, h2⟩ => ⟨h1, p.out.grown h2⟩
  obtain ⟨aa, an, ac, rfl⟩ := h.a.sl
  obtain ⟨ka, kc, rfl, _, _⟩ := h.k
  obtain ⟨pa, pn, pc, rfl⟩ := h.p.sl
  obtain ⟨ra, rn, rc, rfl⟩ := h.r.sl
  obtain ⟨ua, uc, rfl, _, _⟩ := hu
  obtain ⟨kn, hkn⟩ : ∃ kn, r.key.length = kn := ⟨_, rfl⟩
  obtain ⟨un, hun⟩ : ∃ un, us.length = un := ⟨_, rfl⟩
  rw [hkn] at P0 HSh HL HC hn ⊢
  rw [hun] at P0 HSh HL HC hn ⊢
  clear h hT hlay hkn hun
  by_cases h1 : chk r = 0
  · have h2 : kn ≠ un := hn.resolve_left (fun e => e h1)
    have h2' : ((un : Int) == (kn : Int)) = false := by simp; omega
    rw [h1] at HC
    clear hn h1 h2
    go_enter Tryd.func5, Tryd.ntmps5
    go_wp2_with fail
    refine (HSh.out _ P0).mono ?_
    rintro e w1 ⟨rfl, P1⟩
    obtain ⟨c0, c1, c2, c3, c4, c5, c6⟩ := P1.out.rc
    go_wp2_with fail
    refine (HL.out _ P1).mono ?_
    rintro e w2 ⟨rfl, P2⟩
    clear P0 P1 c0 c1 c2 c3 c4 c5 c6
    obtain ⟨c0, c1, c2, c3, c4, c5, c6⟩ := P2.out.rc
    go_wp2_with fail
    refine (HC.out _ P2).mono ?_
    rintro e w3 ⟨rfl, P3⟩
    clear P2 c0 c1 c2 c3 c4 c5 c6
    obtain ⟨c0, c1, c2, c3, c4, c5, c6⟩ := P3.out.rc
    go_wp2
    go_loopw [7, 8] (fun vs vi wr => vs = .bool false ∧ vi = .int .i64 0 ∧ wr = w3) (fun _ _ _ => 0)
    case atStart => exact ⟨rfl, rfl, rfl⟩
    case round =>
      obtain ⟨rfl, rfl, rfl⟩ := hrel
      by_cases h0 : un = 0
      · subst h0
        go_wp2
        go_ret
        exact ⟨rfl, P3.out.bel⟩
      · have h0' : (0 : Int) < (un : Int) := by omega
        have h0'' : 0 < un := by omega
        go_wp2
        go_ret
        exact ⟨rfl, P3.out.bel⟩
  · have h1' : (chk r == 0) = false := by simpa using h1
    generalize chk r = q at HC h1'
    clear hn h1
    go_enter Tryd.func5, Tryd.ntmps5
    go_wp2_with fail
    refine (HSh.out _ P0).mono ?_
    rintro e w1 ⟨rfl, P1⟩
    obtain ⟨c0, c1, c2, c3, c4, c5, c6⟩ := P1.out.rc
    go_wp2_with fail
    refine (HL.out _ P1).mono ?_
    rintro e w2 ⟨rfl, P2⟩
    clear P0 P1 c0 c1 c2 c3 c4 c5 c6
    obtain ⟨c0, c1, c2, c3, c4, c5, c6⟩ := P2.out.rc
    go_wp2_with fail
    refine (HC.out _ P2).mono ?_
    rintro e w3 ⟨rfl, P3⟩
    clear P2 c0 c1 c2 c3 c4 c5 c6
    go_wp2
    go_loopw [7, 8] (fun vs vi wr => vs = .bool false ∧ vi = .int .i64 0 ∧ wr = w3) (fun _ _ _ => 0)
    case atStart => exact ⟨rfl, rfl, rfl⟩
    case round =>
      obtain ⟨rfl, rfl, rfl⟩ := hrel
      by_cases h0 : un = 0
      · subst h0
        go_wp2
        go_ret
        exact ⟨rfl, P3.out.bel⟩
      · have h0' : (0 : Int) < (un : Int) := by omega
        have h0'' : 0 < un := by omega
        go_wp2
        go_ret
        exact ⟨rfl, P3.out.bel⟩
end Go.Proofs
