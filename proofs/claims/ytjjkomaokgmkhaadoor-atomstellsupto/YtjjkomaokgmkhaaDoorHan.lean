/-
  Maps by pairs of numbers, and by numbers.
-/
import Derived.RangeFuncNested
import Derived.RangeFuncBound
import Derived.RangeFuncCalls
import Derived.RangeFuncLeaves
import Derived.Shelf.Abstract
import Derived.Shelf.RegionOpen
import Derived.WalkKit
import Derived.WalkSpells
import Derived.WalkLawsBesides
import Derived.OwnWalkIn
import Derived.TacticsInMore
import Derived.LoopNIn
import Derived.LoopIn
import Derived.BigQuiet
import Derived.RegionIn
import Derived.Deep.QuietTactic
import Derived.Deep.RegionWith
import Derived.Lib.OthersKept
import Derived.Maps.AppendAt
import Derived.Lib.SmallJoins
import Derived.Shelf.SlSortCmp.QuietGrown
import Derived.DeepKeys5
import Derived.Maps.Own
import Derived.Maps.OwnOps
import Derived.Maps.OwnSet
import Derived.Test.YtjjkomaokgmkhaaDoorGbn
namespace Go.Proofs
open Go.RowKit Go.Shelf

set_option maxRecDepth 100000
attribute [local go_sem] Oper.semAt_some
attribute [local go_sem ↓] Go.wp_at_zero Go.wp_at_succ
def pval (p : Nat × Nat) : Value := .agg #[.int .u64 p.1, .int .u64 p.2]
def klit (p : Nat × Nat) : Lit := .string (keyBytes [.int .u64 p.1, .int .u64 p.2])
theorem rows93 : 93 < Tryd.prog.types.size := of_decide_eq_true (by kernel_rfl)
theorem key93 : Maps.Keyed Tryd.prog 93 := Maps.Keyed.of_law (deep_law_laid (by kernel_rfl) (m := 200) (by decide) rows93 (by kernel_rfl) (by kernel_rfl))
theorem wf64 {a : Nat} (ha : a < 18446744073709551616) : (Lit.int .u64 (a : Int)).wf = true := by
  simp [Lit.wf, IntKind.min, IntKind.max, IntKind.bits, IntKind.signed]; omega
theorem keyP {p : Nat × Nat} (ha : p.1 < 18446744073709551616) (hb : p.2 < 18446744073709551616) : keyOf Tryd.prog 93 (pval p) = some (klit p) := by
  obtain ⟨a, b⟩ := p
  simp only at ha hb
  have h1 : (Tryd.prog.keyType 93 && (pval (a, b)).formed Tryd.prog 93) = true := by kernel_rfl
  have hd : Tryd.prog.types.size + 1 = 132 + 1 + 1 := by kernel_rfl
  have wa := wf64 ha
  have wb := wf64 hb
  have h3 : Tryd.prog.keyLits (Tryd.prog.types.size + 1) 93 (pval (a, b)).cells.toList = some [.int .u64 a, .int .u64 b] := by
    rw [hd]
    have c1 : Tryd.prog.cellsOf 93 = 2 := by kernel_rfl
    have c2 : Tryd.prog.cellsOf 70 = 1 := by kernel_rfl
    have f1 : ∀ n : Nat, (Lit.int .u64 (n : Int)).wf = true → Tryd.prog.keyLits (132 + 1) 70 [.int .u64 (n : Int)] = some [.int .u64 (n : Int)] := fun n hn => by
      unfold Program.keyLits
      rw [Tryd.underlying70]
      simp [hn]
    have e : (pval (a, b)).cells.toList = [.int .u64 (a : Int), .int .u64 (b : Int)] := rfl
    rw [e]
    unfold Program.keyLits
    rw [Tryd.underlying93]
    simp [c1, c2, f1 a wa, f1 b wb]
  unfold keyOf
  rw [Tryd.underlying93]
  simp only
  rw [if_pos h1, h3]
  rfl
theorem klit_inj {p q : Nat × Nat} (ha : p.1 < 18446744073709551616) (hb : p.2 < 18446744073709551616) (ha' : q.1 < 18446744073709551616) (hb' : q.2 < 18446744073709551616) (h : klit p = klit q) : p = q := by
  have h1 := keyP ha hb
  have h2 := keyP ha' hb'
  rw [← h] at h2
  have e := key93.inj h1 h2
  unfold pval at e
  injection e with e
  obtain ⟨a, b⟩ := p
  obtain ⟨c, d⟩ := q
  simp at e
  simp; omega

/-- how a map's element is held -/
def heldR (v : Value) : Option (DataW Value × List MemPlace) := some (.held v, [])
/-- keys of a type: what they are, and what they read as -/
structure Kz {κ : Type} (kt : TypeId) (ok : κ → Prop) (kv : κ → Value) (kl : κ → Lit) : Prop where
  keyed : Maps.Keyed Tryd.prog kt
  key : ∀ p, ok p → keyOf Tryd.prog kt (kv p) = some (kl p)
  inj : ∀ p q, ok p → ok q → kl p = kl q → p = q
def ok2 (p : Nat × Nat) : Prop := p.1 < 18446744073709551616 ∧ p.2 < 18446744073709551616
def ok1 (n : Nat) : Prop := n < 18446744073709551616
def uval (n : Nat) : Value := .int .u64 n
theorem kz93 : Kz 93 ok2 pval klit := ⟨key93, fun _ h => keyP h.1 h.2, fun _ _ h h' e => klit_inj h.1 h.2 h'.1 h'.2 e⟩
theorem kz70 : Kz 70 ok1 uval (fun n => .int .u64 (n : Int)) := ⟨Maps.int_keyed Tryd.underlying70, fun _ h => Maps.keyOf_int_mk Tryd.underlying70 (wf64 h), fun p q _ _ e => by injection e with _ e; omega⟩
section
variable {κ : Type} {kt : TypeId} {ok : κ → Prop} {kv : κ → Value} {kl : κ → Lit}
/-- a map, of at most N entries, as a function of its keys -/
def GMap (kt : TypeId) (ok : κ → Prop) (kl : κ → Lit) (W : World) (m N : Nat) (f : κ → Option Value) : Prop :=
  ∃ (n : Nat) (D : DataW Value), W.ownsMap Tryd.prog kt heldR m n D ∧ n ≤ N ∧ ∀ k, ok k → Maps.has D (kl k) = (f k).isSome ∧ ∀ v, f k = some v → ∀ z, D.atKey (kl k) z = .held v
theorem GMap.made (w : World) : GMap kt ok kl (w.alloc (.map #[] 0)) w.heap.size 0 (fun _ => none) :=
  ⟨0, .map [], World.ownsMap_made w _ _ _, Nat.le_refl _, fun k _ => ⟨by simp [Maps.has], fun v h => by cases h⟩⟩
theorem GMap.kept {W W' : World} {m N : Nat} {f : κ → Option Value} (h : GMap kt ok kl W m N f) (hm : ∀ o, W.heap[m]? = some o → W'.heap[m]? = some o) : GMap kt ok kl W' m N f := by
  obtain ⟨n, D, ⟨es, c, hb, hF⟩, hn, hK⟩ := h
  exact ⟨n, D, ⟨es, c, hm _ hb, hF⟩, hn, hK⟩
theorem GMap.isMap {W : World} {m N : Nat} {f : κ → Option Value} (h : GMap kt ok kl W m N f) : ∃ es c, W.heap[m]? = some (.map es c) := by
  obtain ⟨n, D, ⟨es, c, hb, _⟩, _⟩ := h
  exact ⟨es, c, hb⟩
theorem GMap.look_ok (K : Kz kt ok kv kl) {W : World} {m N : Nat} {f : κ → Option Value} (h : GMap kt ok kl W m N f) {t e : TypeId} {z : Value} (ht : Tryd.prog.underlying t = some (.map kt e)) (hz : (zeroValue e).run Tryd.prog W = .ok z W) {k : κ} (hk : ok k) :
    (Instr.lookup t (.map (some m)) (kv k) true).run Tryd.prog W = .ok (.tuple #[(f k).getD z, .bool (f k).isSome]) W := by
  obtain ⟨n, D, hD, _, hK⟩ := h
  obtain ⟨v, ps, hrun, hv⟩ := hD.look_ok K.keyed ht hz (zd := .held z) (zp := []) rfl (K.key k hk)
  rw [hrun, (hK k hk).1]
  unfold heldR at hv
  simp only [Option.some.injEq, Prod.mk.injEq] at hv
  cases hf : f k with
  | none =>
    have h1 := (hK k hk).1
    rw [hf] at h1
    rw [Maps.atKey_of_not_has h1] at hv
    injection hv.1 with e1
    rw [e1]; rfl
  | some x =>
    rw [(hK k hk).2 x hf] at hv
    injection hv.1 with e1
    rw [e1]; rfl
def updM [DecidableEq κ] (f : κ → Option Value) (k : κ) (v : Value) : κ → Option Value := fun x => if x = k then some v else f x
theorem GMap.store [DecidableEq κ] (K : Kz kt ok kv kl) {W : World} {m N : Nat} {f : κ → Option Value} (h : GMap kt ok kl W m N f) (hN : N < 1000000000000000000) {t e : TypeId} (ht : Tryd.prog.underlying t = some (.map kt e)) {k : κ} (hk : ok k) (v : Value) :
    ∃ w', (Instr.mapUpdate t (.map (some m)) (kv k) v).run Tryd.prog W = .ok () w' ∧ GMap kt ok kl w' m (N + 1) (updM f k v) ∧ W.mapTurned w' m := by
  obtain ⟨n, D, hD, hn, hK⟩ := h
  obtain ⟨w', hrun, hD', ht⟩ := hD.store K.keyed ht (by unfold maxLen; omega) (K.key k hk) (d := .held v) (ps := []) rfl
  have hmap := hD.isMap
  have hkl : WideAt.IsKeyLit (kl k) := K.keyed.key (K.key k hk)
  refine ⟨w', hrun, ⟨n + 1, _, hD', by omega, fun x hxo => ?_⟩, ht⟩
  by_cases hx : x = k
  · subst hx
    have e1 : updM f x v x = some v := by simp [updM]
    rw [e1, Maps.has_put_same hmap hkl]
    refine ⟨rfl, fun u hu z => ?_⟩
    cases hu
    exact Maps.atKey_put_same hmap hkl _ _
  · have e1 : updM f k v x = f x := by simp [updM, hx]
    have hne : kl x ≠ kl k := fun e => hx (K.inj x k hxo hk e)
    rw [e1, Maps.has_put_other hne]
    refine ⟨(hK x hxo).1, fun u hu z => ?_⟩
    rw [Maps.atKey_put_other hne]
    exact (hK x hxo).2 u hu z
end
theorem turned_other {W W' : World} {m b : Nat} (h : W.mapTurned W' m) (hb : b ≠ m) : W'.heap[b]? = W.heap[b]? := by
  obtain ⟨es, clock, es', clock', h1, rfl⟩ := h
  exact ChangeMaps.heap_setBlock_other h1 _ hb
theorem turned_fr {W W' : World} {m : Nat} (h : W.mapTurned W' m) : Fr W W' (fun k => k = m) := by
  have hg := h.grown
  exact ⟨hg.os, hg.tape, hg.output, hg.size, fun k _ hk => turned_other h hk⟩
end Go.Proofs
