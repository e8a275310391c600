/-
  A region that draws its order, whose operations lay blocks: as text Gf, for pointers, and with two operations behind all others that do something else.
-/
import Derived.Test.YtcfjdijmobgbpaaDoorGf
namespace Go.Proofs
open Go.RowKit

/-- the block of a pointer -/
def ptrOf : Value → Nat
  | .pointer (some a) => a.block
  | _ => 0
/-- one operation, whenever it comes up -/
def YStep (P : Program) (ops : Array Oper) (Q : Exit → Act → World → Prop) (I : Nat → (Nat → Value) → World → Prop) (mk : Nat → Bool) (a0 : Act) (w0 : World) (i : Nat) (o : Oper) : Prop :=
  ∀ (a : Act) (w : World) (vs : Nat → Value), Ext w0 w → (∀ j, depB o j = true → I j vs w) → (∀ (j : Nat) (oj : Oper) (d : Tmp), depB o j = true → ops[j]? = some oj → oj.dst = some d → a.tmps.getD d undef = vs j) → (∀ d, (ops.all fun p => !decide (p.dst = some d)) = true → a.tmps.getD d undef = a0.tmps.getD d undef) →
    ∀ K : Act → World → Prop, (∀ v w', Ext w w' → I i (fun j => if j = i then v else vs j) w' → (mk i = true → w.heap.size ≤ ptrOf v ∧ ptrOf v < w'.heap.size) → K (a.put o.dst v) w') → if Region.wanted o (yielded ops a.tmps) = true then Oper.wp P o a w K Q else K (a.put o.dst undef) w
def YSteps (P : Program) (ops : Array Oper) (Q : Exit → Act → World → Prop) (I : Nat → (Nat → Value) → World → Prop) (mk : Nat → Bool) (a0 : Act) (w0 : World) : List Oper → Nat → Prop
  | [], _ => True
  | o :: l, k => YStep P ops Q I mk a0 w0 k o ∧ YSteps P ops Q I mk a0 w0 l (k + 1)
/-- what holds as far as the operations are done -/
def YJ (all : List Oper) (I : Nat → (Nat → Value) → World → Prop) (mk : Nat → Bool) (w0 : World) (p : Nat → Bool) (vs : Nat → Value) (w : World) : Prop :=
  (Ext w0 w ∧ ∀ (i : Nat) (o : Oper), all[i]? = some o → p i = true → I i vs w ∧ ∀ j, depB o j = true → p j = true) ∧ (∀ i, i < all.length → p i = true → mk i = true → ptrOf (vs i) < w.heap.size) ∧ ∀ i j, i < all.length → j < all.length → p i = true → p j = true → i ≠ j → mk i = true → mk j = true → ptrOf (vs i) ≠ ptrOf (vs j)
theorem ysteps_inv {P : Program} {all : List Oper} {Q : Exit → Act → World → Prop} {I : Nat → (Nat → Value) → World → Prop} {mk : Nat → Bool} {a0 : Act} {w0 : World} (hI : ∀ i vs w w', I i vs w → Ext w w' → I i vs w') (hV : ∀ i o vs us w, all[i]? = some o → (∀ j, j = i ∨ depB o j = true → us j = vs j) → I i vs w → I i us w) (hE : ∀ (i : Nat) (o : Oper), all[i]? = some o → ∀ j, depB o j = true → j < i) :
    ∀ (m : List Oper) (k : Nat), (∀ j y, m[j]? = some y → all[k + j]? = some y) → YSteps P all.toArray Q I mk a0 w0 m k → ISteps P all.toArray Q (YJ all I mk w0) a0 m k
  | [], _, _, _ => trivial
  | x :: m, k, hm, hs => by
    refine ⟨?_, ysteps_inv hI hV hE m (k + 1) (fun j y hy => by have := hm (j + 1) y (by rw [List.getElem?_cons_succ]; exact hy); rwa [show k + (j + 1) = k + 1 + j by omega] at this) hs.2⟩
    have hx : all[k]? = some x := by simpa using hm 0 x rfl
    intro a w p vs ⟨⟨hw, hi⟩, h2, h3⟩ hdep hpi hval hfr K hK
    have hlen : k < all.length := (List.getElem?_eq_some_iff.1 hx).1
    refine hs.1 a w vs hw (fun j hj => ?_) (fun j oj d hj hoj hod => hval j oj d (hdep j hj) hoj hod) hfr K (fun v w' hww hv hmk => hK v w' ⟨⟨hw.trans hww, fun i o ho hip => ?_⟩, fun i hil hip hmi => ?_, fun i j hil hjl hip hjp hij hmi hmj => ?_⟩)
    · have hjk := hE k x hx j hj
      have hjl : j < all.length := by omega
      exact (hi j all[j] (List.getElem?_eq_getElem hjl) (hdep j hj)).1
    · by_cases e : i = k
      · subst e
        rw [hx] at ho
        cases ho
        exact ⟨hv, fun j hj => by simp [hdep j hj]⟩
      · have hip' : p i = true := by simpa [e] using hip
        obtain ⟨h4, h5⟩ := hi i o ho hip'
        refine ⟨hI i _ _ _ (hV i o vs _ w ho (fun j hj => ?_) h4) hww, fun j hj => by simp [h5 j hj]⟩
        have hne : j ≠ k := by
          rcases hj with rfl | hj
          · exact e
          · intro e2
            have := h5 j hj
            rw [e2, hpi] at this
            cases this
        show (if j = k then v else vs j) = vs j
        rw [if_neg hne]
    · show ptrOf (if i = k then v else vs i) < w'.heap.size
      by_cases e : i = k
      · subst e; rw [if_pos rfl]; exact (hmk hmi).2
      · rw [if_neg e]
        exact Nat.lt_of_lt_of_le (h2 i hil (by simpa [e] using hip) hmi) hww.size
    · show ptrOf (if i = k then v else vs i) ≠ ptrOf (if j = k then v else vs j)
      by_cases e : i = k
      · subst e
        rw [if_pos rfl, if_neg (fun h => hij h.symm)]
        have := h2 j hjl (by simpa [show j ≠ i from fun h => hij h.symm] using hjp) hmj
        have := (hmk hmi).1
        omega
      · rw [if_neg e]
        by_cases e2 : j = k
        · subst e2
          rw [if_pos rfl]
          have := h2 i hil (by simpa [e] using hip) hmi
          have := (hmk hmj).1
          omega
        · rw [if_neg e2]
          exact h3 i j hil hjl (by simpa [e] using hip) (by simpa [e2] using hjp) hij hmi hmj
/-- what holds with two last operations -/
def YJ2 (all : List Oper) (I : Nat → (Nat → Value) → World → Prop) (mk : Nat → Bool) (w0 : World) (n : Nat) (L1 L2 : (Nat → Value) → World → Prop) (p : Nat → Bool) (vs : Nat → Value) (w : World) : Prop :=
  (p n = false ∧ p (n + 1) = false ∧ YJ all I mk w0 p vs w) ∨ (p n = true ∧ p (n + 1) = false ∧ (∀ i, i < n → p i = true) ∧ L1 vs w) ∨ (p (n + 1) = true ∧ (∀ i, i < n + 1 → p i = true) ∧ L2 vs w)
theorem ysteps_two {P : Program} {all : List Oper} {Q : Exit → Act → World → Prop} {I : Nat → (Nat → Value) → World → Prop} {mk : Nat → Bool} {a0 : Act} {w0 : World} {n : Nat} {o1 o2 : Oper} {L1 L2 : (Nat → Value) → World → Prop}
    (hs1 : IStep P all.toArray Q (YJ2 all I mk w0 n L1 L2) a0 n o1) (hs2 : IStep P all.toArray Q (YJ2 all I mk w0 n L1 L2) a0 (n + 1) o2) :
    ∀ (m : List Oper) (k : Nat), k + m.length = n → ISteps P all.toArray Q (YJ all I mk w0) a0 m k → ISteps P all.toArray Q (YJ2 all I mk w0 n L1 L2) a0 (m ++ [o1, o2]) k
  | [], k, hk, _ => by
    have : k = n := by simpa using hk
    subst this
    exact ⟨hs1, hs2, trivial⟩
  | x :: m, k, hk, hs => by
    refine ⟨?_, ysteps_two hs1 hs2 m (k + 1) (by simp only [List.length_cons] at hk; omega) hs.2⟩
    have hkn : k < n := by simp only [List.length_cons] at hk; omega
    intro a w p vs hJ hdep hpi hval hfr K hK
    rcases hJ with ⟨h0, h1, hF⟩ | ⟨_, _, hall, _⟩ | ⟨_, hall, _⟩
    · refine hs.1 a w p vs hF hdep hpi hval hfr K (fun v w' hF' => hK v w' (.inl ⟨?_, ?_, hF'⟩))
      · have : n ≠ k := by omega
        simp [h0, this]
      · have : n + 1 ≠ k := by omega
        simp [h1, this]
    · have := hall k hkn
      rw [hpi] at this
      cases this
    · have := hall k (by omega)
      rw [hpi] at this
      cases this
theorem wp_region_two {P : Program} {id : Nat} {all : List Oper} {Q : Exit → Act → World → Prop} {a0 : Act} {w0 : World} (n : Nat) {o1 o2 : Oper} (ho1 : all[n]? = some o1) (ho2 : all[n + 1]? = some o2) (hl : all.length = n + 2) (hm : P.follows .mixedOrders = true) (h1 : onceB all = true) (h2 : earlyB 0 all = true) (h3 : (all.all fun o => match o.dst with | none => true | some d => decide (d < a0.tmps.size)) = true)
    (h4 : ((List.range n).all fun j => depB o1 j || (List.range n).any fun i => depB o1 i && (match all[i]? with | some o => depB o j | none => false)) = true) (h5 : ((List.range (n + 1)).all fun j => depB o2 j) = true)
    (I : Nat → (Nat → Value) → World → Prop) (mk : Nat → Bool) (hI : ∀ i vs w w', I i vs w → Ext w w' → I i vs w') (hV : ∀ i o vs us w, all[i]? = some o → (∀ j, j = i ∨ depB o j = true → us j = vs j) → I i vs w → I i us w) (L1 L2 : (Nat → Value) → World → Prop)
    (hL1 : ∀ vs us w, (∀ i, i < n → us i = vs i) → L1 vs w → L1 us w) (hL2 : ∀ vs us w, (∀ i, i < n → us i = vs i) → L2 vs w → L2 us w)
    (hst : YSteps P all.toArray Q I mk a0 w0 (all.take n) 0)
    (hs1 : ∀ (a : Act) (w : World) (vs : Nat → Value), Ext w0 w → (∀ i, i < n → I i vs w) → (∀ i j, i < n → j < n → i ≠ j → mk i = true → mk j = true → ptrOf (vs i) ≠ ptrOf (vs j)) → (∀ (j : Nat) (oj : Oper) (d : Tmp), j < n → all[j]? = some oj → oj.dst = some d → a.tmps.getD d undef = vs j) → (∀ d, (all.toArray.all fun p => !decide (p.dst = some d)) = true → a.tmps.getD d undef = a0.tmps.getD d undef) →
      ∀ K : Act → World → Prop, (∀ v w', L1 vs w' → K (a.put o1.dst v) w') → if Region.wanted o1 (yielded all.toArray a.tmps) = true then Oper.wp P o1 a w K Q else K (a.put o1.dst undef) w)
    (hs2 : ∀ (a : Act) (w : World) (vs : Nat → Value), L1 vs w → (∀ (j : Nat) (oj : Oper) (d : Tmp), j < n → all[j]? = some oj → oj.dst = some d → a.tmps.getD d undef = vs j) → (∀ d, (all.toArray.all fun p => !decide (p.dst = some d)) = true → a.tmps.getD d undef = a0.tmps.getD d undef) →
      ∀ K : Act → World → Prop, (∀ v w', L2 vs w' → K (a.put o2.dst v) w') → if Region.wanted o2 (yielded all.toArray a.tmps) = true then Oper.wp P o2 a w K Q else K (a.put o2.dst undef) w)
    (hfin : ∀ vs w, L2 vs w → Q .normal (putL vs all 0 a0) w) : (Code.region id all.toArray true).wp P Q a0 w0 := by
  have hE : ∀ (i : Nat) (o : Oper), all[i]? = some o → ∀ j, depB o j = true → j < i := fun i o ho j hj => by
    unfold depB at hj
    rw [Array.any_eq_true'] at hj
    obtain ⟨e, hme, h⟩ := hj
    simp only [Bool.and_eq_true, beq_iff_eq] at h
    have := early_of h2 i o (by simpa using ho) e hme h.1
    omega
  have h0 : YJ all I mk w0 (fun _ => false) (fun _ => undef) w0.drew := by
    unfold YJ
    refine ⟨⟨⟨rfl, rfl, rfl, Nat.le_refl _, fun _ _ => rfl⟩, ?_⟩, ?_, ?_⟩
    · intro _ _ _ h; cases h
    · intro _ _ h; cases h
    · intro _ _ _ _ h; cases h
  have e : all.take n ++ [o1, o2] = all := by
    have hlt : n < all.length := by omega
    have hlt1 : n + 1 < all.length := by omega
    have hd : all.drop n = [o1, o2] := by
      rw [List.drop_eq_getElem_cons hlt, List.drop_eq_getElem_cons hlt1, List.drop_eq_nil_of_le (by omega)]
      have k1 := (List.getElem?_eq_some_iff.1 ho1).2
      have k2 := (List.getElem?_eq_some_iff.1 ho2).2
      rw [k1, k2]
    rw [← hd, List.take_append_drop]
  have hlen : (all.take n).length = n := by rw [List.length_take]; omega
  have hsteps : ISteps P all.toArray Q (YJ2 all I mk w0 n L1 L2) a0 (all.take n ++ [o1, o2]) 0 := by
    refine ysteps_two ?_ ?_ (all.take n) 0 (by omega) (ysteps_inv hI hV hE (all.take n) 0 ?_ hst)
    · intro a w p vs hJ hdep hpi hval hfr K hK
      rcases hJ with ⟨_, hp1, ⟨hw, hi⟩, _, hd⟩ | ⟨hp, _⟩ | ⟨_, hall, _⟩
      · have hall : ∀ i, i < n → p i = true := fun i hil => by
          rw [List.all_eq_true] at h4
          have h6 := h4 i (by simpa using hil)
          rw [Bool.or_eq_true] at h6
          rcases h6 with h6 | h6
          · exact hdep i h6
          · rw [List.any_eq_true] at h6
            obtain ⟨k, hk, h7⟩ := h6
            rw [Bool.and_eq_true] at h7
            have hkl : k < all.length := by have := List.mem_range.1 hk; omega
            have e7 : all[k]? = some all[k] := List.getElem?_eq_getElem hkl
            rw [e7] at h7
            exact (hi k all[k] e7 (hdep k h7.1)).2 i h7.2
        refine hs1 a w vs hw (fun i hil => (hi i all[i] (List.getElem?_eq_getElem (by omega)) (hall i hil)).1) (fun i j hil hjl hij hmi hmj => hd i j (by omega) (by omega) (hall i hil) (hall j hjl) hij hmi hmj) (fun j oj d hjl hoj hod => hval j oj d (hall j hjl) (by simpa using hoj) hod) hfr K (fun v w' hv => hK v w' (.inr (.inl ⟨by simp, ?_, fun i hil => by simp [hall i hil], ?_⟩)))
        · simp [hp1]
        · refine hL1 vs _ w' (fun i hil => ?_) hv
          show (if i = n then v else vs i) = vs i
          rw [if_neg (by omega)]
      · rw [hpi] at hp; cases hp
      · have := hall n (by omega)
        rw [hpi] at this
        cases this
    · intro a w p vs hJ hdep hpi hval hfr K hK
      have hall : ∀ i, i < n + 1 → p i = true := fun i hil => hdep i (by
        rw [List.all_eq_true] at h5
        exact h5 i (by simpa using hil))
      rcases hJ with ⟨hp, _⟩ | ⟨_, _, _, h⟩ | ⟨hp, _⟩
      · have := hall n (by omega)
        rw [hp] at this
        cases this
      · refine hs2 a w vs h (fun j oj d hjl hoj hod => hval j oj d (hall j (by omega)) (by simpa using hoj) hod) hfr K (fun v w' hv => hK v w' (.inr (.inr ⟨by simp, fun i hil => by simp [hall i hil], ?_⟩)))
        refine hL2 vs _ w' (fun i hil => ?_) hv
        show (if i = n + 1 then v else vs i) = vs i
        rw [if_neg (by omega)]
      · rw [hpi] at hp; cases hp
    · intro j y hy
      rw [Nat.zero_add]
      rw [List.getElem?_take] at hy
      split at hy
      · exact hy
      · cases hy
  rw [e] at hsteps
  refine wp_region_inv hm h1 h2 h3 (YJ2 all I mk w0 n L1 L2) (.inl ⟨rfl, rfl, h0⟩) hsteps ?_
  intro vs w hJ
  rcases hJ with ⟨hp, _⟩ | ⟨_, hp, _⟩ | ⟨_, _, h⟩
  · simp [hl] at hp
  · simp [hl] at hp
  · exact hfin vs w h
end Go.Proofs
