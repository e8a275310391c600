/-
  Lists in memory of their own, with a mark behind them: lent, still.
-/
import Derived.RangeFuncNested
import Derived.RangeFuncBound
import Derived.RangeFuncCalls
import Derived.RangeFuncLeaves
import Derived.Shelf.Abstract
import Derived.Shelf.RegionOpen
import Derived.WalkKit
import Derived.WalkSpells
import Derived.WalkLawsBesides
import Derived.OwnWalkIn
import Derived.TacticsInMore
import Derived.LoopNIn
import Derived.LoopIn
import Derived.BigQuiet
import Derived.RegionIn
import Derived.Deep.QuietTactic
import Derived.Deep.RegionWith
import Derived.Lib.OthersKept
import Derived.Maps.AppendAt
import Derived.Lib.SmallJoins
import Derived.Laws.CopyOwn
import Derived.Laws.MakeOwn
import Derived.Test.YtmgkolelcflcbaaDoorRf
import Derived.Test.YtmgkolelcflcbaaDoorVl
namespace Go.Proofs
open Go.RowKit Go.Shelf

set_option maxRecDepth 100000
attribute [local go_sem] Oper.semAt_some

theorem make2 (n : Nat) (hn : n ≤ 8796093022208) : ∃ Z : List Value, Z.length = (n + 1) * 2 ∧ ∀ W : World, (Instr.makeSlice 22 (.int .i64 ((n : Int) + 1)) (.int .i64 ((n : Int) + 1))).run Tryd.prog W = .ok (.slice (some ⟨W.heap.size, 0, none⟩) (n + 1) (n + 1)) (W.alloc (.cells Z.toArray 38)) := by
  obtain ⟨i0, hi, hz0, hz1, hz2⟩ := info_parts info38
  refine ⟨(madeCells (Value.agg #[.int .i64 0, .int .i64 0]).cells ((n + 1) * 2)).toList, by simp [size_madeCells], fun W => ?_⟩
  have h := run_make (P := Tryd.prog) W 22 38 i0 (.agg #[.int .i64 0, .int .i64 0]) Tryd.underlying22 hi hz0 .i64 .i64 ((n : Int) + 1) ((n : Int) + 1) (by omega) (Int.le_refl _) (by rw [hz2]; omega) (by omega)
  rw [h, show ((n : Int) + 1).toNat = n + 1 by omega, hz1, Array.toArray_toList]
theorem run_copy2 (w : World) (g dLen dCap : Nat) (a : Addr) (sLen sCap : Nat) (cur : Array Value) (t : TypeId) (cs : List Value)
    (hg : w.heap[g]? = some (.cells cur t (0, 0))) (hn : cs.length = Nat.min sLen dLen * 2)
    (hsrc : ∀ j v, cs[j]? = some v → w.cell? (a.add j) = some v) (hfit : 0 + cs.length ≤ cur.size) (h1 : ∀ v ∈ cs, v.oneCell' = true) :
    (Builtin.copy_ #[22, 22] 3 #[.slice (some ⟨g, 0, none⟩) dLen dCap, .slice (some a) sLen sCap]).run Tryd.prog w =
      .ok (goInt (Nat.min sLen dLen)) (w.setRow g (cs ++ cur.toList.drop cs.length).toArray) := by
  obtain ⟨i0, hi, hz0, hz1, hz2⟩ := info_parts info38
  have hl := run_loadCells_list (P := Tryd.prog) w a cs hsrc
  have hst := run_storeCells_at Tryd.prog g 0 t cs 0 cur w hg (by simpa using hfit) h1
  simp [Builtin.copy_, run_underlying Tryd.underlying22, Builtin.lenOf, Builtin.firstCells, sizeOf, typeInfo, hi, hz1, ← hn, hl, hst]
theorem run_copy2_zero (w : World) (g dLen dCap : Nat) (a : Option Addr) (sCap : Nat) :
    (Builtin.copy_ #[22, 22] 3 #[.slice (some ⟨g, 0, none⟩) dLen dCap, .slice a 0 sCap]).run Tryd.prog w = .ok (goInt 0) w := by
  obtain ⟨i0, hi, -, -, -⟩ := info_parts info38
  have hl : ∀ (x : Addr), (loadCells x 0).run Tryd.prog w = .ok #[] w := fun x => by simpa using run_loadCells_list (P := Tryd.prog) w x [] (by simp)
  cases a <;> simp [Builtin.copy_, run_underlying Tryd.underlying22, Builtin.lenOf, Builtin.firstCells, sizeOf, typeInfo, hi, storeCells, hl]
/-- a copy into a fresh row of one more -/
theorem copy2_own (W : World) (g n cap : Nat) (a : Option Addr) (Z : List Value) (l : List (Int × Int)) (hg : W.heap[g]? = some (.cells Z.toArray 38 (0, 0))) (hl : l.length = n) (hZ : Z.length = (n + 1) * 2) (hv : Rs W (.slice a n cap) l) (B : Nat) (hB : B ≤ g) :
    ∃ w2, (Builtin.copy_ #[22, 22] 3 #[.slice (some ⟨g, 0, none⟩) (n + 1) (n + 1), .slice a n cap]).run Tryd.prog W = .ok (.int .i64 n) w2 ∧ w2.heap[g]? = some (.cells (fl l ++ Z.drop (fl l).length).toArray 38 (0, 0)) ∧ Below B W w2 := by
  have hfl : (fl l).length = n * 2 := by rw [fl_length, hl]
  by_cases h0 : n = 0
  · have hl0 : l = [] := List.eq_nil_of_length_eq_zero (by omega)
    subst h0 hl0
    exact ⟨W, run_copy2_zero W g 1 1 a cap, by simpa [fl] using hg, Below.refl _ _⟩
  · obtain ⟨a', c', e, hcap, hc⟩ := hv
    injection e with e1 e2 e3
    subst e1 e3
    obtain ⟨gs, os, rfl, hr⟩ := hc.resolve_left (fun e => by rw [e] at hl; simp at hl; omega)
    have hrun := run_copy2 W g (n + 1) (n + 1) ⟨gs, os, none⟩ n cap Z.toArray 38 (fl l) hg (by rw [hfl]; congr 1; exact (Nat.min_eq_left (by omega)).symm) (fun j u hj => by
      have hjl : j < n * 2 := by rw [← hfl]; exact (List.getElem?_eq_some_iff.1 hj).1
      have hadd : (⟨gs, os, none⟩ : Addr).add j = ⟨gs, os + j, none⟩ := by unfold Addr.add; split <;> simp_all
      rw [hadd]
      obtain ⟨i, hi⟩ : ∃ i, j = i * 2 ∨ j = i * 2 + 1 := ⟨j / 2, by omega⟩
      have hil : i < l.length := by omega
      have h1 := hr i hil
      have h2 := fl_at l hil
      rcases hi with rfl | rfl
      · rw [h2.1] at hj; injection hj with hj; subst hj; exact h1.1
      · rw [h2.2] at hj; injection hj with hj; subst hj; rw [← Nat.add_assoc]; exact h1.2) (by simp [hfl, hZ]; omega) (fl_one l)
    refine ⟨W.setRow g (fl l ++ Z.drop (fl l).length).toArray, by rw [hrun]; simp [goInt], setRow_heap W g _ _ 38 _ hg, below_setRow (Below.refl _ W) hB _⟩
theorem cells_setS {w : World} {g : Nat} {cur : Array Value} {t : TypeId} {j : Nat} {u : Value} (h : w.heap[g]? = some (.cells cur t (0, 0))) : (w.setCell ⟨g, j, none⟩ u).heap[g]? = some (.cells (cur.setIfInBounds j u) t (0, 0)) := by
  have hlt := (Array.getElem?_eq_some_iff.1 h).1
  have h' : w.heap[g] = .cells cur t (0, 0) := by simpa [Array.getElem?_eq_getElem hlt] using h
  show (w.heap.modify g _)[g]? = _
  rw [Array.getElem?_eq_getElem (by simpa using hlt), Array.getElem_modify_self, h']
  rfl
theorem set_two (A Z : List Value) (u v : Value) (hZ : Z.length = 2) : (((A ++ Z).toArray.setIfInBounds A.length u).setIfInBounds (A.length + 1) v).toList = A ++ [u, v] := by
  match Z, hZ with
  | [z0, z1], _ =>
    simp only [Array.toList_setIfInBounds]
    rw [List.set_append_right _ _ (Nat.le_refl _), Nat.sub_self, List.set_cons_zero, List.set_append_right _ _ (by omega), show A.length + 1 - A.length = 1 by omega]
    rfl
set_option maxHeartbeats 4000000 in
theorem lent_any (v : Value) (l : List (Int × Int)) (w : World) (hv : Rs w v l) (hl : l.length ≤ 8796093022207) :
    Calls Tryd.prog 9 #[v] w fun e w' => e = .returned (.slice (some ⟨w.heap.size, 0, none⟩) (l.length + 1) (l.length + 1)) ∧ OwnR w' w.heap.size (.slice (some ⟨w.heap.size, 0, none⟩) (l.length + 1) (l.length + 1)) (l ++ [(-77, -77)]) ∧ Below w.heap.size w w' := by
  have hv' := hv
  obtain ⟨a, cap, rfl, hcap, hc⟩ := hv
  obtain ⟨n, hn⟩ : ∃ n, l.length = n := ⟨_, rfl⟩
  have HN : Hid (l.length = n) := hn
  rw [hn] at hv' hl hcap
  rw [hn]
  obtain ⟨Z, hZl, hmk⟩ := make2 n (by omega)
  have hmk1 := hmk w
  obtain ⟨h, hh⟩ : ∃ h, w.heap.size = h := ⟨_, rfl⟩
  have HH : Hid (w.heap.size = h) := hh
  rw [hh] at hmk1
  rw [hh]
  obtain ⟨w2, hcp, hrow, hb2⟩ := copy2_own (w.alloc (.cells Z.toArray 38)) h n cap a Z l (by rw [← hh]; exact heap_alloc_new w _) HN.out hZl (hv'.below ((Below.refl _ w).alloc (Nat.le_refl _) _) (Nat.le_refl _)) h (Nat.le_refl _)
  have HB2 : Hid (Below h w w2) := ((Below.refl _ w).alloc (Nat.le_of_eq hh.symm) _).trans hb2
  have hfl : (fl l).length = n * 2 := by rw [fl_length, hn]
  have hZd : (Z.drop (fl l).length).length = 2 := by rw [List.length_drop, hfl]; omega
  obtain ⟨Zd, hzd⟩ : ∃ Zd, Z.drop (fl l).length = Zd := ⟨_, rfl⟩
  rw [hzd] at hrow hZd
  clear hzd
  obtain ⟨z0, z1, c0, c1⟩ : ∃ z0 z1, w2.cell? ⟨h, n * 2, none⟩ = some z0 ∧ w2.cell? ⟨h, n * 2 + 1, none⟩ = some z1 := by
    have e : ∀ j, j < (fl l ++ Zd).length → ∃ z, w2.cell? ⟨h, j, none⟩ = some z := fun j hj => ⟨(fl l ++ Zd)[j], by simp only [World.cell?, hrow]; simp [List.getElem?_eq_getElem hj]⟩
    have hlen : (fl l ++ Zd).length = n * 2 + 2 := by rw [List.length_append, hZd, hfl]
    obtain ⟨z0, e0⟩ := e (n * 2) (by omega)
    obtain ⟨z1, e1⟩ := e (n * 2 + 1) (by omega)
    exact ⟨z0, z1, e0, e1⟩
  have f0 : w2.frozen? ⟨h, n * 2, none⟩ = false := by simp [World.frozen?, hrow]
  have f1 : w2.frozen? ⟨h, n * 2 + 1, none⟩ = false := by simp [World.frozen?, hrow]
  have HOWN : Hid (OwnR ((w2.setCell ⟨h, n * 2, none⟩ (.int .i64 (-77))).setCell ⟨h, n * 2 + 1, none⟩ (.int .i64 (-77))) h (.slice (some ⟨h, 0, none⟩) (n + 1) (n + 1)) (l ++ [(-77, -77)])) := by
    have hs := set_two (fl l) Zd (.int .i64 (-77)) (.int .i64 (-77)) hZd
    rw [hfl] at hs
    refine ⟨by rw [fl_length], .inr ⟨h, n + 1, _, by rw [List.length_append, hn]; rfl, Nat.le_refl _, cells_setS (cells_setS hrow), by rw [List.length_append, hn]; exact Nat.le_refl _, by unfold maxLen; omega, ?_, ?_⟩⟩
    · rw [← Array.length_toList, hs, List.length_append, hfl]; simp; omega
    · rw [hs, fl_append, List.take_of_length_le (by rw [List.length_append, List.length_append, hfl, hn]; simp; omega)]
      rfl
  clear hv' hc hmk hb2 hrow hZd hfl hZl hh hn
  go_enter Tryd.func9, Tryd.ntmps9
  go_wp2
  go_ret
  exact ⟨rfl, HOWN.out, (HB2.out.setCell (p := ⟨h, n * 2, none⟩) (Nat.le_refl _) _).setCell (p := ⟨h, n * 2 + 1, none⟩) (Nat.le_refl _) _⟩
theorem rg_left {a b : List (Int × Int)} {j : Nat} (hj : j < a.length) : rg (a ++ b) j = rg a j := by simp only [rg]; rw [List.getElem?_append_left hj]
theorem rg_mark {a : List (Int × Int)} {x : Int × Int} : rg (a ++ [x]) a.length = x := by simp [rg]
/-- what is lent, without its mark -/
theorem lent_rs {w : World} {g : Nat} {l : List (Int × Int)} (h : Reads w g 0 (l ++ [(-77, -77)])) (c : Nat) (hc : l.length ≤ c) : Rs w (.slice (some ⟨g, 0, none⟩) l.length c) l :=
  ⟨_, c, rfl, hc, .inr ⟨g, 0, rfl, fun j hj => by have := h j (by simp; omega); rw [rg_left hj] at this; exact this⟩⟩
set_option maxHeartbeats 4000000 in
theorem still_any (g : Nat) (v : Value) (l : List (Int × Int)) (w : World) (h : Reads w g 0 (l ++ [(-77, -77)])) (hv : Rs w v l) (hl : l.length ≤ 8796093022207) :
    Calls Tryd.prog 21 #[.slice (some ⟨g, 0, none⟩) (l.length + 1) (l.length + 1), v] w fun e w' => e = .returned (.bool true) ∧ Grown w w' := by
  have hr := lent_rs h (l.length + 1) (by omega)
  have hm := h l.length (by simp)
  rw [rg_mark, Nat.zero_add] at hm
  have hv' := hv
  obtain ⟨a, cap, rfl, hcap, -⟩ := hv
  have HR := ranges_any _ _ l l w hr hv' (by omega)
  rw [show decide (l = l) = true by simp] at HR
  obtain ⟨n, hn⟩ : ∃ n, l.length = n := ⟨_, rfl⟩
  rw [hn] at HR hm hl hcap
  rw [hn]
  have HRR : Hid (Calls Tryd.prog 40 #[.slice (some ⟨g, 0, none⟩) n (n + 1), .slice a n cap] w fun e w' => e = .returned (.bool true) ∧ Grown w w') := HR
  have HM : Hid (w.cell? ⟨g, n * 2, none⟩ = some (.int .i64 (-77)) ∧ w.cell? ⟨g, n * 2 + 1, none⟩ = some (.int .i64 (-77))) := hm
  clear HR hm hr hv' h hn
  go_enter Tryd.func21, Tryd.ntmps21
  go_wp2_with fail
  refine HRR.out.mono ?_
  rintro e w1 ⟨rfl, hG⟩
  have c0 := hG.cellv HM.out.1
  have c1 := hG.cellv HM.out.2
  have HG : Hid (Grown w w1) := hG
  clear hG HRR HM
  go_wp2
  go_ret
  exact ⟨rfl, HG.out⟩
end Go.Proofs
