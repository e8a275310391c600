/-
  A region that draws its order, whose operations lay blocks: what is known of a value may speak of the values that its operation waits for.
-/
import Derived.Test.YtcfjdijmobgbpaaDoorGi
namespace Go.Proofs
open Go.RowKit

/-- operation o waits for number j -/
def depB (o : Oper) (j : Nat) : Bool := o.after.any fun e => Region.binds .any e && e.on == j
/-- one operation, whenever it comes up -/
def MStep (P : Program) (ops : Array Oper) (Q : Exit → Act → World → Prop) (I : Nat → (Nat → Value) → World → Prop) (a0 : Act) (w0 : World) (i : Nat) (o : Oper) : Prop :=
  ∀ (a : Act) (w : World) (vs : Nat → Value), Ext w0 w → (∀ j, depB o j = true → I j vs w) → (∀ (j : Nat) (oj : Oper) (d : Tmp), depB o j = true → ops[j]? = some oj → oj.dst = some d → a.tmps.getD d undef = vs j) → (∀ d, (ops.all fun p => !decide (p.dst = some d)) = true → a.tmps.getD d undef = a0.tmps.getD d undef) →
    ∀ K : Act → World → Prop, (∀ v w', Ext w w' → I i (fun j => if j = i then v else vs j) w' → K (a.put o.dst v) w') → if Region.wanted o (yielded ops a.tmps) = true then Oper.wp P o a w K Q else K (a.put o.dst undef) w
def MSteps (P : Program) (ops : Array Oper) (Q : Exit → Act → World → Prop) (I : Nat → (Nat → Value) → World → Prop) (a0 : Act) (w0 : World) : List Oper → Nat → Prop
  | [], _ => True
  | o :: l, k => MStep P ops Q I a0 w0 k o ∧ MSteps P ops Q I a0 w0 l (k + 1)
theorem isteps_many {P : Program} {all : List Oper} {Q : Exit → Act → World → Prop} {I : Nat → (Nat → Value) → World → Prop} {a0 : Act} {w0 : World} (hI : ∀ i vs w w', I i vs w → Ext w w' → I i vs w') (hV : ∀ i o vs us w, all[i]? = some o → (∀ j, j = i ∨ depB o j = true → us j = vs j) → I i vs w → I i us w) (hE : ∀ (i : Nat) (o : Oper), all[i]? = some o → ∀ j, depB o j = true → j < i) :
    ∀ (m : List Oper) (k : Nat), (∀ j, m[j]? = all[k + j]?) → MSteps P all.toArray Q I a0 w0 m k →
      ISteps P all.toArray Q (fun p vs w => Ext w0 w ∧ ∀ (i : Nat) (o : Oper), all[i]? = some o → p i = true → I i vs w ∧ ∀ j, depB o j = true → p j = true) a0 m k
  | [], _, _, _ => trivial
  | x :: m, k, hm, hs => by
    refine ⟨?_, isteps_many hI hV hE m (k + 1) (fun j => by have := hm (j + 1); rw [List.getElem?_cons_succ] at this; rw [this]; congr 1; omega) hs.2⟩
    have hx : all[k]? = some x := by simpa using (hm 0).symm
    intro a w p vs ⟨hw, hi⟩ hdep hpi hval hfr K hK
    have hlen : k < all.length := (List.getElem?_eq_some_iff.1 hx).1
    refine hs.1 a w vs hw (fun j hj => ?_) (fun j oj d hj hoj hod => hval j oj d (hdep j hj) hoj hod) hfr K (fun v w' hww hv => hK v w' ⟨hw.trans hww, fun i o ho hip => ?_⟩)
    · have hjk := hE k x hx j hj
      have hjl : j < all.length := by omega
      exact (hi j all[j] (List.getElem?_eq_getElem hjl) (hdep j hj)).1
    · by_cases e : i = k
      · subst e
        rw [hx] at ho
        cases ho
        exact ⟨hv, fun j hj => by simp [hdep j hj]⟩
      · have hip' : p i = true := by simpa [e] using hip
        obtain ⟨h1, h2⟩ := hi i o ho hip'
        refine ⟨hI i _ _ _ (hV i o vs _ w ho (fun j hj => ?_) h1) hww, fun j hj => by simp [h2 j hj]⟩
        have hne : j ≠ k := by
          rcases hj with rfl | hj
          · exact e
          · intro e2
            have := h2 j hj
            rw [e2, hpi] at this
            cases this
        show (if j = k then v else vs j) = vs j
        rw [if_neg hne]
theorem wp_region_many {P : Program} {id : Nat} {all : List Oper} {Q : Exit → Act → World → Prop} {a0 : Act} {w0 : World} (hm : P.follows .mixedOrders = true) (h1 : onceB all = true) (h2 : earlyB 0 all = true) (h3 : (all.all fun o => match o.dst with | none => true | some d => decide (d < a0.tmps.size)) = true)
    (I : Nat → (Nat → Value) → World → Prop) (hI : ∀ i vs w w', I i vs w → Ext w w' → I i vs w') (hV : ∀ i o vs us w, all[i]? = some o → (∀ j, j = i ∨ depB o j = true → us j = vs j) → I i vs w → I i us w)
    (hst : MSteps P all.toArray Q I a0 w0 all 0) (hfin : ∀ vs w, Ext w0 w → (∀ i, i < all.length → I i vs w) → Q .normal (putL vs all 0 a0) w) : (Code.region id all.toArray true).wp P Q a0 w0 := by
  have hE : ∀ (i : Nat) (o : Oper), all[i]? = some o → ∀ j, depB o j = true → j < i := fun i o ho j hj => by
    unfold depB at hj
    rw [Array.any_eq_true'] at hj
    obtain ⟨e, hme, h⟩ := hj
    simp only [Bool.and_eq_true, beq_iff_eq] at h
    have := early_of h2 i o (by simpa using ho) e hme h.1
    omega
  refine wp_region_inv hm h1 h2 h3 (fun p vs w => Ext w0 w ∧ ∀ (i : Nat) (o : Oper), all[i]? = some o → p i = true → I i vs w ∧ ∀ j, depB o j = true → p j = true) ⟨⟨rfl, rfl, rfl, Nat.le_refl _, fun _ _ => rfl⟩, fun _ _ _ h => by cases h⟩ (isteps_many hI hV hE all 0 (fun j => by simp) hst) ?_
  intro vs w ⟨hw, hi⟩
  exact hfin vs w hw (fun i hil => (hi i all[i] (List.getElem?_eq_getElem hil) (by simp [hil])).1)
end Go.Proofs
