/-
  Regions that draw their order: what is waited for has been done.
-/
import Derived.RangeFuncNested
import Derived.RangeFuncBound
import Derived.RangeFuncCalls
import Derived.RangeFuncLeaves
import Derived.Shelf.Abstract
import Derived.Shelf.RegionOpen
import Derived.WalkKit
import Derived.WalkSpells
import Derived.WalkLawsBesides
import Derived.OwnWalkIn
import Derived.TacticsInMore
import Derived.LoopNIn
import Derived.LoopIn
import Derived.BigQuiet
import Derived.RegionIn
import Derived.Deep.QuietTactic
import Derived.Deep.RegionWith
import Derived.Lib.OthersKept
import Derived.Maps.AppendAt
import Derived.Lib.SmallJoins
import Derived.Shelf.SlSortCmp.QuietGrown
import Derived.Test.YtjjkomaokgmkhaaDoorGbn
namespace Go.Proofs
open Go.RowKit Go.Shelf

set_option maxRecDepth 100000
attribute [local go_sem] Oper.semAt_some
attribute [local go_sem ↓] Go.wp_at_zero Go.wp_at_succ

/-- what an operation waits for has been done -/
def Clo (ops : Array Oper) (p : Nat → Bool) : Prop := ∀ (j : Nat) (oj : Oper), ops[j]? = some oj → p j = true → ∀ i, (oj.after.any fun e => Region.binds .any e && e.on == i) = true → p i = true
/-- one operation, whenever it comes up: all that was waited for has been done -/
def CStep (P : Program) (ops : Array Oper) (Q : Exit → Act → World → Prop) (J : (Nat → Bool) → (Nat → Value) → World → Prop) (a0 : Act) (i : Nat) (o : Oper) : Prop :=
  ∀ (a : Act) (w : World) (p : Nat → Bool) (vs : Nat → Value), J p vs w → (∀ j, (o.after.any fun e => Region.binds .any e && e.on == j) = true → p j = true) → p i = false → Clo ops p → (∀ (j : Nat) (oj : Oper) (d : Tmp), p j = true → ops[j]? = some oj → oj.dst = some d → a.tmps.getD d undef = vs j) → (∀ d, (ops.all fun p => !decide (p.dst = some d)) = true → a.tmps.getD d undef = a0.tmps.getD d undef) →
    ∀ K : Act → World → Prop, (∀ v w', J (fun j => p j || j == i) (fun j => if j = i then v else vs j) w' → K (a.put o.dst v) w') → if Region.wanted o (yielded ops a.tmps) = true then Oper.wp P o a w K Q else K (a.put o.dst undef) w
def CSteps (P : Program) (ops : Array Oper) (Q : Exit → Act → World → Prop) (J : (Nat → Bool) → (Nat → Value) → World → Prop) (a0 : Act) : List Oper → Nat → Prop
  | [], _ => True
  | o :: l, k => CStep P ops Q J a0 k o ∧ CSteps P ops Q J a0 l (k + 1)
theorem csteps_i {P : Program} {ops : Array Oper} {Q : Exit → Act → World → Prop} {J : (Nat → Bool) → (Nat → Value) → World → Prop} {a0 : Act} : ∀ (l : List Oper) (k : Nat), (∀ j o, l[j]? = some o → ops[k + j]? = some o) → CSteps P ops Q J a0 l k → ISteps P ops Q (fun p vs w => J p vs w ∧ Clo ops p) a0 l k
  | [], _, _, _ => trivial
  | o :: l, k, hl, h => by
    refine ⟨fun a w p vs hJ hdep hpi hval hfr K hK => h.1 a w p vs hJ.1 hdep hpi hJ.2 hval hfr K (fun v w' hj => hK v w' ⟨hj, ?_⟩), csteps_i l (k + 1) (fun j o' hj => by
      have := hl (j + 1) o' (by simpa using hj)
      rwa [show k + 1 + j = k + (j + 1) by omega]) h.2⟩
    intro j oj hoj hp i hi
    by_cases e : j = k
    · subst e
      have h0 := hl 0 o (by simp)
      rw [Nat.add_zero] at h0
      rw [hoj] at h0
      injection h0 with h0
      subst h0
      simp [hdep i hi]
    · have h1 : p j = true := by simpa [e] using hp
      simp [hJ.2 j oj hoj h1 i hi]
theorem wp_region_clo {P : Program} {id : Nat} {l : List Oper} {Q : Exit → Act → World → Prop} {a0 : Act} {w0 : World} (hm : P.follows .mixedOrders = true) (h1 : onceB l = true) (h2 : earlyB 0 l = true) (h3 : (l.all fun o => match o.dst with | none => true | some d => decide (d < a0.tmps.size)) = true)
    (J : (Nat → Bool) → (Nat → Value) → World → Prop) (h0 : J (fun _ => false) (fun _ => undef) w0.drew) (hst : CSteps P l.toArray Q J a0 l 0) (hfin : ∀ vs w, J (fun j => decide (j < l.length)) vs w → Q .normal (putL vs l 0 a0) w) : (Code.region id l.toArray true).wp P Q a0 w0 :=
  wp_region_inv hm h1 h2 h3 (fun p vs w => J p vs w ∧ Clo l.toArray p) ⟨h0, fun _ _ _ h => by cases h⟩ (csteps_i l 0 (fun j o hj => by simpa using hj) hst) fun vs w h => hfin vs w h.1
/-- a region in which one operation A changes memory, and then one operation S -/
structure JA (X : World) (val : Nat → Option Value) (E : Nat → Value → World → Prop) (A S : Nat) (PA : Value → World → Prop) (PS : World → Prop) (p : Nat → Bool) (vs : Nat → Value) (W : World) : Prop where
  v : ∀ i x, val i = some x → p i = true → vs i = x
  e : p A = false → p S = false → ∀ i, p i = true → E i (vs i) W
  g : p A = false → p S = false → Grown X W
  a : p A = true → p S = false → PA (vs A) W
  s : p S = true → PS W
section
variable {X : World} {val : Nat → Option Value} {E : Nat → Value → World → Prop} {A S : Nat} {PA : Value → World → Prop} {PS : World → Prop} {p : Nat → Bool} {vs : Nat → Value} {W W' : World}
theorem JA.start : JA X val E A S PA PS (fun _ => false) (fun _ => undef) X.drew := ⟨fun _ _ _ h => (by cases h), fun _ _ _ h => (by cases h), fun _ _ => (Grown.refl X).drew, fun h => (by cases h), fun h => (by cases h)⟩
/-- an operation that changes nothing -/
theorem JA.pure (h : JA X val E A S PA PS p vs W) (i : Nat) {x : Value} (hA : i ≠ A) (hS : i ≠ S) (hx : val i = some x) (he : ∀ v W, E i v W) : JA X val E A S PA PS (fun j => p j || j == i) (fun j => if j = i then x else vs j) W := by
  have e1 : (p A || A == i) = p A := by simp [Ne.symm hA]
  have e2 : (p S || S == i) = p S := by simp [Ne.symm hS]
  refine ⟨fun j y hy hp => ?_, fun ha hs j hp => ?_, fun ha hs => h.g (e1 ▸ ha) (e2 ▸ hs), fun ha hs => ?_, fun hs => h.s (e2 ▸ hs)⟩
  · by_cases e : j = i
    · subst e; rw [if_pos rfl]; rw [hx] at hy; injection hy
    · rw [if_neg e]; exact h.v j y hy (by simpa [e] using hp)
  · by_cases e : j = i
    · subst e; exact he _ _
    · rw [if_neg e]; exact h.e (e1 ▸ ha) (e2 ▸ hs) j (by simpa [e] using hp)
  · rw [if_neg (Ne.symm hA)]; exact h.a (e1 ▸ ha) (e2 ▸ hs)
/-- an operation that lays a block, ahead of A -/
theorem JA.grow (hE : ∀ i v W W', E i v W → Grown W W' → E i v W') (h : JA X val E A S PA PS p vs W) (i : Nat) {x : Value} (hA : i ≠ A) (hS : i ≠ S) (pa : p A = false) (ps : p S = false) (hx : ∀ y, val i = some y → x = y) (hg : Grown W W') (he : E i x W') : JA X val E A S PA PS (fun j => p j || j == i) (fun j => if j = i then x else vs j) W' := by
  have e1 : (p A || A == i) = p A := by simp [Ne.symm hA]
  have e2 : (p S || S == i) = p S := by simp [Ne.symm hS]
  refine ⟨fun j y hy hp => ?_, fun ha hs j hp => ?_, fun ha hs => (h.g pa ps).trans hg, fun ha hs => ?_, fun hs => ?_⟩
  · by_cases e : j = i
    · subst e; rw [if_pos rfl]; exact hx y hy
    · rw [if_neg e]; exact h.v j y hy (by simpa [e] using hp)
  · by_cases e : j = i
    · subst e; rw [if_pos rfl]; exact he
    · rw [if_neg e]; exact hE _ _ _ _ (h.e pa ps j (by simpa [e] using hp)) hg
  · rw [e1, pa] at ha; cases ha
  · rw [e2, ps] at hs; cases hs
/-- the operation A -/
theorem JA.atA (h : JA X val E A S PA PS p vs W) {x : Value} (hne : A ≠ S) (ps : p S = false) (hv : val A = none) (hp : PA x W') : JA X val E A S PA PS (fun j => p j || j == A) (fun j => if j = A then x else vs j) W' := by
  have e2 : (p S || S == A) = p S := by simp [Ne.symm hne]
  refine ⟨fun j y hy hp => ?_, fun ha => ?_, fun ha => ?_, fun _ _ => by rw [if_pos rfl]; exact hp, fun hs => ?_⟩
  · by_cases e : j = A
    · subst e; rw [hv] at hy; cases hy
    · rw [if_neg e]; exact h.v j y hy (by simpa [e] using hp)
  · simp at ha
  · simp at ha
  · rw [e2, ps] at hs; cases hs
/-- the operation S -/
theorem JA.atS (h : JA X val E A S PA PS p vs W) {x : Value} (hv : val S = none) (hp : PS W') : JA X val E A S PA PS (fun j => p j || j == S) (fun j => if j = S then x else vs j) W' := by
  refine ⟨fun j y hy hp => ?_, fun _ hs => ?_, fun _ hs => ?_, fun _ hs => ?_, fun _ => hp⟩
  · by_cases e : j = S
    · subst e; rw [hv] at hy; cases hy
    · rw [if_neg e]; exact h.v j y hy (by simpa [e] using hp)
  · simp at hs
  · simp at hs
  · simp at hs
end
end Go.Proofs
