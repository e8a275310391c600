/-
  Maps by numbers: what is looked up, what is put in.
-/
import Derived.RangeFuncNested
import Derived.RangeFuncBound
import Derived.RangeFuncCalls
import Derived.RangeFuncLeaves
import Derived.Shelf.Abstract
import Derived.Shelf.RegionOpen
import Derived.WalkKit
import Derived.WalkSpells
import Derived.WalkLawsBesides
import Derived.OwnWalkIn
import Derived.TacticsInMore
import Derived.LoopNIn
import Derived.LoopIn
import Derived.BigQuiet
import Derived.RegionIn
import Derived.Deep.QuietTactic
import Derived.Deep.RegionWith
import Derived.Lib.OthersKept
import Derived.Maps.AppendAt
import Derived.Lib.SmallJoins
import Derived.Shelf.SlSortCmp.QuietGrown
import Derived.Maps.Own
import Derived.Maps.OwnSet
import Derived.Maps.Views
import Derived.Test.YtkijbaofhodplaaDoorWe
namespace Go.Proofs
open Go.RowKit Go.Shelf

set_option maxRecDepth 100000
attribute [local go_sem] Oper.semAt_some
attribute [local go_sem ↓] Go.wp_at_zero Go.wp_at_succ
/-- how a map's element is held -/
def heldR (v : Value) : Option (DataW Value × List MemPlace) := some (.held v, [])
def InI (k : Int) : Prop := -9223372036854775808 ≤ k ∧ k ≤ 9223372036854775807
/-- a map by numbers, of at most N entries -/
def IMap (W : World) (m N : Nat) (f : Int → Option Value) : Prop :=
  ∃ (n : Nat) (D : DataW Value), W.ownsMap Tryd.prog 3 heldR m n D ∧ n ≤ N ∧ ∀ k : Int, Maps.has D (.int .i64 k) = (f k).isSome ∧ ∀ v, f k = some v → ∀ z, D.atKey (.int .i64 k) z = .held v
theorem key3 : Maps.Keyed Tryd.prog 3 := Maps.int_keyed Tryd.underlying3
theorem keyI {k : Int} (h : InI k) : keyOf Tryd.prog 3 (.int .i64 k) = some (.int .i64 k) := Maps.keyOf_int_mk Tryd.underlying3 (by
  obtain ⟨h1, h2⟩ := h
  simp [Lit.wf, IntKind.min, IntKind.max, IntKind.bits, IntKind.signed]
  omega)
theorem IMap.made (w : World) : IMap (w.alloc (.map #[] 0)) w.heap.size 0 (fun _ => none) :=
  ⟨0, .map [], World.ownsMap_made w _ _ _, Nat.le_refl _, fun k => ⟨by simp [Maps.has], fun v h => by cases h⟩⟩
theorem IMap.kept {W W' : World} {m N : Nat} {f : Int → Option Value} (h : IMap W m N f) (hm : ∀ o, W.heap[m]? = some o → W'.heap[m]? = some o) : IMap W' m N f := by
  obtain ⟨n, D, ⟨es, c, hb, hF⟩, hn, hK⟩ := h
  exact ⟨n, D, ⟨es, c, hm _ hb, hF⟩, hn, hK⟩
theorem IMap.mono {W : World} {m N N' : Nat} {f : Int → Option Value} (h : IMap W m N f) (hn : N ≤ N') : IMap W m N' f := by
  obtain ⟨n, D, h1, h2, h3⟩ := h
  exact ⟨n, D, h1, by omega, h3⟩
theorem IMap.isMap {W : World} {m N : Nat} {f : Int → Option Value} (h : IMap W m N f) : ∃ es c, W.heap[m]? = some (.map es c) := by
  obtain ⟨n, D, ⟨es, c, hb, _⟩, _⟩ := h
  exact ⟨es, c, hb⟩
theorem IMap.look {W : World} {m N : Nat} {f : Int → Option Value} (h : IMap W m N f) {t e : TypeId} {z : Value} (ht : Tryd.prog.underlying t = some (.map 3 e)) (hz : (zeroValue e).run Tryd.prog W = .ok z W) {k : Int} (hk : InI k) :
    (Instr.lookup t (.map (some m)) (.int .i64 k) false).run Tryd.prog W = .ok ((f k).getD z) W := by
  obtain ⟨n, D, hD, _, hK⟩ := h
  obtain ⟨v, ps, hrun, hv⟩ := hD.lookup key3 ht hz (zd := .held z) (zp := []) rfl (keyI hk)
  rw [hrun]
  unfold heldR at hv
  simp only [Option.some.injEq, Prod.mk.injEq] at hv
  cases hf : f k with
  | none =>
    have h1 := (hK k).1
    rw [hf] at h1
    rw [Maps.atKey_of_not_has h1] at hv
    injection hv.1 with e1
    rw [e1]; rfl
  | some x =>
    rw [(hK k).2 x hf] at hv
    injection hv.1 with e1
    rw [e1]; rfl
theorem IMap.look_ok {W : World} {m N : Nat} {f : Int → Option Value} (h : IMap W m N f) {t e : TypeId} {z : Value} (ht : Tryd.prog.underlying t = some (.map 3 e)) (hz : (zeroValue e).run Tryd.prog W = .ok z W) {k : Int} (hk : InI k) :
    (Instr.lookup t (.map (some m)) (.int .i64 k) true).run Tryd.prog W = .ok (.tuple #[(f k).getD z, .bool (f k).isSome]) W := by
  obtain ⟨n, D, hD, _, hK⟩ := h
  obtain ⟨v, ps, hrun, hv⟩ := hD.look_ok key3 ht hz (zd := .held z) (zp := []) rfl (keyI hk)
  rw [hrun, (hK k).1]
  unfold heldR at hv
  simp only [Option.some.injEq, Prod.mk.injEq] at hv
  cases hf : f k with
  | none =>
    have h1 := (hK k).1
    rw [hf] at h1
    rw [Maps.atKey_of_not_has h1] at hv
    injection hv.1 with e1
    rw [e1]; rfl
  | some x =>
    rw [(hK k).2 x hf] at hv
    injection hv.1 with e1
    rw [e1]; rfl
def updM (f : Int → Option Value) (k : Int) (v : Value) : Int → Option Value := fun x => if x = k then some v else f x
theorem IMap.store {W : World} {m N : Nat} {f : Int → Option Value} (h : IMap W m N f) (hN : N < 1000000000000000000) {t e : TypeId} (ht : Tryd.prog.underlying t = some (.map 3 e)) {k : Int} (hk : InI k) (v : Value) :
    ∃ w', (Instr.mapUpdate t (.map (some m)) (.int .i64 k) v).run Tryd.prog W = .ok () w' ∧ IMap w' m (N + 1) (updM f k v) ∧ W.mapTurned w' m := by
  obtain ⟨n, D, hD, hn, hK⟩ := h
  obtain ⟨w', hrun, hD', ht⟩ := hD.store key3 ht (by unfold maxLen; omega) (keyI hk) (d := .held v) (ps := []) rfl
  have hmap := hD.isMap
  have hkl : WideAt.IsKeyLit (.int .i64 k) := by simp [WideAt.IsKeyLit]
  refine ⟨w', hrun, ⟨n + 1, _, hD', by omega, fun x => ?_⟩, ht⟩
  by_cases hx : x = k
  · subst hx
    have e1 : updM f x v x = some v := by simp [updM]
    rw [e1, Maps.has_put_same hmap hkl]
    refine ⟨rfl, fun u hu z => ?_⟩
    cases hu
    exact Maps.atKey_put_same hmap hkl _ _
  · have e1 : updM f k v x = f x := by simp [updM, hx]
    have hne : (Lit.int .i64 x) ≠ Lit.int .i64 k := fun e => hx (by injection e)
    rw [e1, Maps.has_put_other hne]
    refine ⟨(hK x).1, fun u hu z => ?_⟩
    rw [Maps.atKey_put_other hne]
    exact (hK x).2 u hu z
theorem turned_other {W W' : World} {m b : Nat} (h : W.mapTurned W' m) (hb : b ≠ m) : W'.heap[b]? = W.heap[b]? := by
  obtain ⟨es, clock, es', clock', h1, rfl⟩ := h
  exact ChangeMaps.heap_setBlock_other h1 _ hb
theorem turned_below {W W' : World} {m n : Nat} (h : W.mapTurned W' m) (hn : n ≤ m) : Below n W W' := by
  have hg := h.grown
  obtain ⟨es, clock, es', clock', h1, _⟩ := h
  exact (Below.refl _ W).grown hg (Nat.le_trans hn (Nat.le_of_lt (Array.getElem?_eq_some_iff.1 h1).1)) (fun k hk => by cases hk; exact hn)
theorem turned_size {W W' : World} {m : Nat} (h : W.mapTurned W' m) : W'.heap.size = W.heap.size := by
  obtain ⟨es, clock, es', clock', h1, rfl⟩ := h
  simp [ChangeMaps.setBlock]
end Go.Proofs
