/-
  names: how a rule is appended to the last pass, whatever the order.
-/
import Derived.WalkKit
import Derived.WalkMore
import Derived.Test.YtbacejefgpaabaaDoorGx
import Derived.Test.YtbacejefgpaabaaDoorNn
namespace Go.Proofs
open Go.RowKit Go.Shelf

set_option maxRecDepth 100000

theorem step_skip {P : Program} {ops : Array Oper} {o : Oper} {a : Act} {w w' : World} {K : Act → World → Prop} {Q : Exit → Act → World → Prop} {E : Prop} (hg : o.guard = none) (hs : ∀ cs b, o.op ≠ .select cs b) (ρ : Operand → Value) (hρ : ∀ x ∈ o.op.operands, a.eval x = ρ x) (hrun : (execOp ρ o).run P w = .ok .skip w') (h : K (a.put o.dst undef) w') :
    if Region.wanted o (yielded ops a.tmps) = true then Oper.wp P o a w K Q else E := by
  have hw : Region.wanted o (yielded ops a.tmps) = true := by simp [Region.wanted, hg]
  rw [if_pos hw]
  unfold Oper.wp
  rw [execOp_congr o hs hρ, hrun]
  exact h
/-- what has been done of 'last.Rules = append(last.Rules, r)' -/
structure JR (wc : World) (base : Nat) (ptr v0 rv : Value) (ob : Obj) (nE : Nat) (xs : List Value) (st : Addr) (p : Nat → Bool) (vs : Nat → Value) (w : World) : Prop where
  ad : ∀ j, j = 0 ∨ j = 1 ∨ j = 2 ∨ j = 3 ∨ j = 8 ∨ j = 9 → p j = true → vs j = ptr
  v4 : p 4 = true → vs 4 = v0
  v5 : p 5 = true → vs 5 = rv
  v6 : p 6 = true → vs 6 = .slice (some ⟨wc.heap.size, 0, none⟩) 1 1
  o7 : p 7 = true → p 4 = true ∧ p 6 = true
  o6 : p 6 = true → p 5 = true
  o10 : p 10 = true → p 7 = true
  w0 : p 6 = false → w = wc.drew
  w1 : p 6 = true → p 7 = false → w = wc.drew.alloc ob
  w2 : p 7 = true → ∃ gg cap' w3, vs 7 = .slice (some ⟨gg, 0, none⟩) (nE + 1) cap' ∧ w3.ownsRow base 59 7 (.slice (some ⟨gg, 0, none⟩) (nE + 1) cap') (nE + 1) xs ∧ (wc.drew.alloc ob).grownBy w3 v0.ownBlock ∧ (v0.ownBlock = some gg ∨ gg = wc.heap.size + 1) ∧ (p 10 = false → w = w3) ∧ (p 10 = true → w = w3.setCell st (.slice (some ⟨gg, 0, none⟩) (nE + 1) cap'))
section
variable {wc : World} {base : Nat} {ptr v0 rv : Value} {ob : Obj} {nE : Nat} {xs : List Value} {st : Addr} {p : Nat → Bool} {vs : Nat → Value} {w : World}
theorem JR.start : JR wc base ptr v0 rv ob nE xs st (fun _ => false) (fun _ => undef) wc.drew :=
  ⟨fun _ _ h => absurd h (by decide), fun h => absurd h (by decide), fun h => absurd h (by decide), fun h => absurd h (by decide), fun h => absurd h (by decide), fun h => absurd h (by decide), fun h => absurd h (by decide), fun _ => rfl, fun h => absurd h (by decide), fun h => absurd h (by decide)⟩
theorem por {p : Nat → Bool} {k i : Nat} (h : k ≠ i) : (p k || k == i) = p k := by simp [h]
theorem vor {vs : Nat → Value} {v : Value} {k i : Nat} (h : k ≠ i) : (if k = i then v else vs k) = vs k := if_neg h
theorem JR.addr (h : JR wc base ptr v0 rv ob nE xs st p vs w) {i : Nat} (hi : i = 0 ∨ i = 1 ∨ i = 2 ∨ i = 3 ∨ i = 8 ∨ i = 9) : JR wc base ptr v0 rv ob nE xs st (fun j => p j || j == i) (fun j => if j = i then ptr else vs j) w := by
  have h4 : 4 ≠ i := by omega
  have h5 : 5 ≠ i := by omega
  have h6 : 6 ≠ i := by omega
  have h7 : 7 ≠ i := by omega
  have h10 : 10 ≠ i := by omega
  refine ⟨fun j hj hp => ?_, ?_, ?_, ?_, ?_, ?_, ?_, ?_, ?_, ?_⟩
  · by_cases e : j = i
    · exact if_pos e
    · simp only [por e] at hp
      simp only [vor e]
      exact h.ad j hj hp
  · simp only [por h4, vor h4]; exact h.v4
  · simp only [por h5, vor h5]; exact h.v5
  · simp only [por h6, vor h6]; exact h.v6
  · simp only [por h4, por h6, por h7]; exact h.o7
  · simp only [por h5, por h6]; exact h.o6
  · simp only [por h7, por h10]; exact h.o10
  · simp only [por h6]; exact h.w0
  · simp only [por h6, por h7]; exact h.w1
  · simp only [por h7, por h10, vor h7]; exact h.w2
theorem JR.load4 (h : JR wc base ptr v0 rv ob nE xs st p vs w) : JR wc base ptr v0 rv ob nE xs st (fun j => p j || j == 4) (fun j => if j = 4 then v0 else vs j) w := by
  refine ⟨fun j hj hp => ?_, fun _ => rfl, ?_, ?_, ?_, ?_, ?_, ?_, ?_, ?_⟩
  · have e : j ≠ 4 := by omega
    simp only [por e] at hp
    simp only [vor e]
    exact h.ad j hj hp
  · simpa using h.v5
  · simpa using h.v6
  · intro h7; have := h.o7 (by simpa using h7); simp [this.2]
  · simpa using h.o6
  · simpa using h.o10
  · simpa using h.w0
  · simpa using h.w1
  · simpa using h.w2
theorem JR.load5 (h : JR wc base ptr v0 rv ob nE xs st p vs w) : JR wc base ptr v0 rv ob nE xs st (fun j => p j || j == 5) (fun j => if j = 5 then rv else vs j) w := by
  refine ⟨fun j hj hp => ?_, ?_, fun _ => rfl, ?_, ?_, ?_, ?_, ?_, ?_, ?_⟩
  · have e : j ≠ 5 := by omega
    simp only [por e] at hp
    simp only [vor e]
    exact h.ad j hj hp
  · simpa using h.v4
  · simpa using h.v6
  · simpa using h.o7
  · intro h6; simp
  · simpa using h.o10
  · simpa using h.w0
  · simpa using h.w1
  · simpa using h.w2
theorem JR.build6 (h : JR wc base ptr v0 rv ob nE xs st p vs w) (h5 : p 5 = true) (h6 : p 6 = false) : w = wc.drew ∧ JR wc base ptr v0 rv ob nE xs st (fun j => p j || j == 6) (fun j => if j = 6 then .slice (some ⟨wc.heap.size, 0, none⟩) 1 1 else vs j) (wc.drew.alloc ob) := by
  have h7 : p 7 = false := by
    cases e : p 7 with
    | false => rfl
    | true => have := (h.o7 e).2; rw [h6] at this; cases this
  have h10 : p 10 = false := by
    cases e : p 10 with
    | false => rfl
    | true => have := h.o10 e; rw [h7] at this; cases this
  refine ⟨h.w0 h6, fun j hj hp => ?_, ?_, ?_, fun _ => rfl, ?_, ?_, ?_, ?_, ?_, ?_⟩
  · have e : j ≠ 6 := by omega
    simp only [por e] at hp
    simp only [vor e]
    exact h.ad j hj hp
  · simpa using h.v4
  · simpa using h.v5
  · intro e; simp [h7] at e
  · intro _; simp [h5]
  · intro e; simp [h10] at e
  · intro e; simp at e
  · intro _ _; rfl
  · intro e; simp [h7] at e
theorem JR.app7 (h : JR wc base ptr v0 rv ob nE xs st p vs w) (h4 : p 4 = true) (h6 : p 6 = true) (h7 : p 7 = false) {gg cap' : Nat} {w3 : World} (ho : w3.ownsRow base 59 7 (.slice (some ⟨gg, 0, none⟩) (nE + 1) cap') (nE + 1) xs) (hg : (wc.drew.alloc ob).grownBy w3 v0.ownBlock) (ha : v0.ownBlock = some gg ∨ gg = wc.heap.size + 1) :
    JR wc base ptr v0 rv ob nE xs st (fun j => p j || j == 7) (fun j => if j = 7 then .slice (some ⟨gg, 0, none⟩) (nE + 1) cap' else vs j) w3 := by
  have h10 : p 10 = false := by
    cases e : p 10 with
    | false => rfl
    | true => have := h.o10 e; rw [h7] at this; cases this
  refine ⟨fun j hj hp => ?_, ?_, ?_, ?_, ?_, ?_, ?_, ?_, ?_, ?_⟩
  · have e : j ≠ 7 := by omega
    simp only [por e] at hp
    simp only [vor e]
    exact h.ad j hj hp
  · simpa using h.v4
  · simpa using h.v5
  · simpa using h.v6
  · intro _; simp [h4, h6]
  · simpa using h.o6
  · intro e; simp
  · intro e; simp [h6] at e
  · intro _ e; simp at e
  · intro _
    refine ⟨gg, cap', w3, by simp, ho, hg, ha, fun _ => rfl, fun e => ?_⟩
    simp [h10] at e
theorem JR.store10 (h : JR wc base ptr v0 rv ob nE xs st p vs w) (h7 : p 7 = true) (h10 : p 10 = false) : ∃ gg cap', vs 7 = .slice (some ⟨gg, 0, none⟩) (nE + 1) cap' ∧ (wc.drew.alloc ob).grownBy w v0.ownBlock ∧ ∀ u, JR wc base ptr v0 rv ob nE xs st (fun j => p j || j == 10) (fun j => if j = 10 then u else vs j) (w.setCell st (.slice (some ⟨gg, 0, none⟩) (nE + 1) cap')) := by
  obtain ⟨gg, cap', w3, e7, ho, hg, ha, hw, _⟩ := h.w2 h7
  obtain rfl := hw h10
  refine ⟨gg, cap', e7, hg, fun u => ⟨fun j hj hp => ?_, ?_, ?_, ?_, ?_, ?_, ?_, ?_, ?_, ?_⟩⟩
  · have e : j ≠ 10 := by omega
    simp only [por e] at hp
    simp only [vor e]
    exact h.ad j hj hp
  · simpa using h.v4
  · simpa using h.v5
  · simpa using h.v6
  · simpa using h.o7
  · simpa using h.o6
  · intro _; simp [h7]
  · intro e; have := (h.o7 h7).2; simp [this] at e
  · intro _ e; simp [h7] at e
  · intro _
    exact ⟨gg, cap', w, by simpa using e7, ho, hg, ha, fun e => by simp at e, fun _ => rfl⟩
end
end Go.Proofs
