/-
  Regions that draw their order: one relation for the whole region.
-/
import Derived.Orders
import Derived.RegionTactic
import Derived.Below
import Derived.Great.BuildSlice
namespace Go.Proofs
open Go.RowKit

/-- what lies stays -/
abbrev Ext (w w' : World) : Prop := Below w.heap.size w w'
theorem Ext.trans {a b c : World} (h : Ext a b) (k : Ext b c) : Ext a c := Below.trans h (Below.mono k h.size)
def put1 (ops : Array Oper) (vs : Nat → Value) (a : Act) (i : Nat) : Act := match ops[i]? with
  | some o => a.put o.dst (vs i)
  | none => a
/-- the values are put in the order of the text -/
def putL (vs : Nat → Value) : List Oper → Nat → Act → Act
  | [], _, a => a
  | o :: l, k, a => putL vs l (k + 1) (a.put o.dst (vs k))
/-- each place of the frame is written once -/
def Once (ops : Array Oper) : Prop := ∀ (i j : Nat) (o p : Oper), ops[i]? = some o → ops[j]? = some p → i ≠ j → ∀ d, o.dst = some d → p.dst ≠ some d
def onceB (ops : List Oper) : Bool := match ops with
  | [] => true
  | o :: l => (match o.dst with | none => true | some d => l.all fun p => !decide (p.dst = some d)) && onceB l
/-- each waits for earlier ones alone -/
def Early (ops : Array Oper) : Prop := ∀ (i : Nat) (o : Oper), ops[i]? = some o → ∀ e ∈ o.after, Region.binds .any e = true → e.on < i
def earlyB (k : Nat) (ops : List Oper) : Bool := match ops with
  | [] => true
  | o :: l => (o.after.all fun e => !Region.binds .any e || decide (e.on < k)) && earlyB (k + 1) l
theorem early_of {ops : List Oper} (h : earlyB 0 ops = true) : Early ops.toArray := by
  have key : ∀ (l : List Oper) (k : Nat), earlyB k l = true → ∀ (i : Nat) (o : Oper), l[i]? = some o → ∀ e ∈ o.after, Region.binds .any e = true → e.on < k + i := by
    intro l
    induction l with
    | nil => intro k _ i o h; simp at h
    | cons x l ih =>
      intro k hk i o ho e he hb
      simp only [earlyB, Bool.and_eq_true, Array.all_eq_true_iff_forall_mem] at hk
      cases i with
      | zero =>
        simp at ho
        subst ho
        have := hk.1 e he
        simp [hb] at this
        omega
      | succ i =>
        have := ih (k + 1) hk.2 i o (by simpa using ho) e he hb
        omega
  intro i o ho e he hb
  have := key ops 0 h i o (by simpa using ho) e he hb
  omega
theorem once_of {ops : List Oper} (h : onceB ops = true) : Once ops.toArray := by
  have key : ∀ (l : List Oper), onceB l = true → ∀ (i j : Nat) (o p : Oper), l[i]? = some o → l[j]? = some p → i < j → ∀ d, ¬ (o.dst = some d ∧ p.dst = some d) := by
    intro l
    induction l with
    | nil => intro _ i j o p h; simp at h
    | cons x l ih =>
      intro hk i j o p ho hp hij d ⟨h1, h2⟩
      simp only [onceB, Bool.and_eq_true] at hk
      cases j with
      | zero => omega
      | succ j =>
        cases i with
        | zero =>
          simp at ho
          subst ho
          have h3 := hk.1
          rw [h1] at h3
          simp only [List.all_eq_true] at h3
          have := h3 p (List.mem_of_getElem? (by simpa using hp))
          simp [h2] at this
        | succ i => exact ih hk.2 i j o p (by simpa using ho) (by simpa using hp) (by omega) d ⟨h1, h2⟩
  intro i j o p ho hp hij d h1 h2
  rcases Nat.lt_or_gt_of_ne hij with h3 | h3
  · exact key ops h i j o p (by simpa using ho) (by simpa using hp) h3 d ⟨h1, h2⟩
  · exact key ops h j i p o (by simpa using hp) (by simpa using ho) h3 d ⟨h2, h1⟩
section
variable {ops : Array Oper} {vs : Nat → Value}
theorem put1_comm (hd : Once ops) (x y : Nat) (z : Act) : put1 ops vs (put1 ops vs z x) y = put1 ops vs (put1 ops vs z y) x := by
  by_cases h : x = y
  · subst h; rfl
  · unfold put1
    cases hx : ops[x]? with
    | none => rfl
    | some o =>
      cases hy : ops[y]? with
      | none => rfl
      | some p => exact Act.put_comm z (vs x) (vs y) (fun d h1 => hd x y o p hx hy h d h1)
theorem put_size (a : Act) (d : Option Tmp) (v : Value) : (a.put d v).tmps.size = a.tmps.size := by
  cases d <;> simp [Act.put]
theorem fold_size (l : List Nat) (a : Act) : (l.foldl (put1 ops vs) a).tmps.size = a.tmps.size := by
  induction l generalizing a with
  | nil => rfl
  | cons i l ih =>
    rw [List.foldl_cons, ih]
    unfold put1
    split
    · exact put_size _ _ _
    · rfl
theorem fold_get (hd : Once ops) {l : List Nat} {i : Nat} (hi : i ∈ l) {o : Oper} (ho : ops[i]? = some o) {d : Tmp} (hod : o.dst = some d) {a : Act} (hs : d < a.tmps.size) : (l.foldl (put1 ops vs) a).tmps.getD d undef = vs i := by
  have hp : l.Perm (l.erase i ++ [i]) := (List.perm_cons_erase hi).trans (List.perm_append_singleton i (l.erase i)).symm
  rw [hp.foldl_eq' (fun x _ y _ z => put1_comm hd x y z), List.foldl_append]
  have hz : d < ((l.erase i).foldl (put1 ops vs) a).tmps.size := by rw [fold_size]; exact hs
  show (put1 ops vs ((l.erase i).foldl (put1 ops vs) a) i).tmps.getD d undef = vs i
  generalize (l.erase i).foldl (put1 ops vs) a = z at hz
  simp [put1, ho, Act.put, hod, hz]
theorem fold_other {l : List Nat} {d : Tmp} (h : ∀ (i : Nat) (o : Oper), ops[i]? = some o → o.dst ≠ some d) (a : Act) : (l.foldl (put1 ops vs) a).tmps.getD d undef = a.tmps.getD d undef := by
  induction l generalizing a with
  | nil => rfl
  | cons i l ih =>
    rw [List.foldl_cons, ih]
    unfold put1
    split
    · rename_i o ho
      cases hd : o.dst with
      | none => rfl
      | some e =>
        have hne : e ≠ d := fun he => h i o ho (by rw [hd, he])
        simp [Act.put, Array.getElem?_setIfInBounds_ne hne]
    · rfl
theorem fold_congr {us : Nat → Value} {l : List Nat} (h : ∀ i ∈ l, us i = vs i) (a : Act) : l.foldl (put1 ops us) a = l.foldl (put1 ops vs) a := by
  induction l generalizing a with
  | nil => rfl
  | cons i l ih =>
    rw [List.foldl_cons, List.foldl_cons]
    have : put1 ops us a i = put1 ops vs a i := by unfold put1; rw [h i List.mem_cons_self]
    rw [this]
    exact ih (fun j hj => h j (List.mem_cons_of_mem _ hj)) _
end
theorem fold_range (vs : Nat → Value) (ops : Array Oper) : ∀ (l : List Oper) (k : Nat) (a : Act), (∀ j, l[j]? = ops[k + j]?) → (List.range' k l.length).foldl (put1 ops vs) a = putL vs l k a
  | [], _, _, _ => rfl
  | o :: l, k, a, h => by
    have h0 : ops[k]? = some o := by simpa using (h 0).symm
    rw [List.length_cons, List.range'_succ, List.foldl_cons]
    show _ = putL vs l (k + 1) (a.put o.dst (vs k))
    rw [← fold_range vs ops l (k + 1) (a.put o.dst (vs k)) (fun j => by have := h (j + 1); rw [List.getElem?_cons_succ] at this; rw [this]; congr 1; omega)]
    congr 1
    unfold put1
    rw [h0]
/-- one operation, whenever it comes up -/
def GStep (P : Program) (ops : Array Oper) (Q : Exit → Act → World → Prop) (I : Nat → Value → World → Prop) (a0 : Act) (w0 : World) (i : Nat) (o : Oper) : Prop :=
  ∀ (a : Act) (w : World), Ext w0 w → (∀ j, (o.after.any fun e => Region.binds .any e && e.on == j) = true → ∀ (oj : Oper) (d : Tmp), ops[j]? = some oj → oj.dst = some d → I j (a.tmps.getD d undef) w) → (∀ d, (ops.all fun p => !decide (p.dst = some d)) = true → a.tmps.getD d undef = a0.tmps.getD d undef) →
    ∀ K : Act → World → Prop, (∀ v w', Ext w w' → I i v w' → K (a.put o.dst v) w') → if Region.wanted o (yielded ops a.tmps) = true then Oper.wp P o a w K Q else K (a.put o.dst undef) w
def GSteps (P : Program) (ops : Array Oper) (Q : Exit → Act → World → Prop) (I : Nat → Value → World → Prop) (a0 : Act) (w0 : World) : List Oper → Nat → Prop
  | [], _ => True
  | o :: l, k => GStep P ops Q I a0 w0 k o ∧ GSteps P ops Q I a0 w0 l (k + 1)
theorem gsteps_at {P : Program} {ops : Array Oper} {Q : Exit → Act → World → Prop} {I : Nat → Value → World → Prop} {a0 : Act} {w0 : World} : ∀ (l : List Oper) (k : Nat), GSteps P ops Q I a0 w0 l k → ∀ (i : Nat) (o : Oper), l[i]? = some o → GStep P ops Q I a0 w0 (k + i) o
  | [], _, _, i, o, h => by simp at h
  | x :: l, k, hs, i, o, h => by
    cases i with
    | zero => simp at h; subst h; exact hs.1
    | succ i =>
      have := gsteps_at l (k + 1) hs.2 i o (by simpa using h)
      rwa [show k + 1 + i = k + (i + 1) by omega] at this
theorem wpAny_grows {P : Program} {ops : Array Oper} {Q : Exit → Act → World → Prop} {I : Nat → Value → World → Prop} {a0 : Act} {w0 : World} (hd : Once ops) (he : Early ops) (hsz : ∀ (i : Nat) (o : Oper) (d : Tmp), ops[i]? = some o → o.dst = some d → d < a0.tmps.size) (hI : ∀ i v w w', I i v w → Ext w w' → I i v w')
    (hst : ∀ (i : Nat) (o : Oper), ops[i]? = some o → GStep P ops Q I a0 w0 i o) (hfin : ∀ vs w, Ext w0 w → (∀ i, i < ops.size → I i (vs i) w) → Q .normal (putL vs ops.toList 0 a0) w) :
    ∀ (fuel : Nat) (listed : Array Bool) (w : World) (l m : List Nat) (vs : Nat → Value), m.length = fuel → (l ++ m).Perm (List.range ops.size) → (∀ i, i < ops.size → listed.getD i true = decide (i ∈ l)) → listed.size = ops.size → Ext w0 w → (∀ i ∈ l, I i (vs i) w) →
      wpAny P .any ops Q fuel listed (l.foldl (put1 ops vs) a0) w := by
  have fin : ∀ (l m : List Nat) (vs : Nat → Value) (w : World), m = [] → (l ++ m).Perm (List.range ops.size) → Ext w0 w → (∀ i ∈ l, I i (vs i) w) → Q .normal (l.foldl (put1 ops vs) a0) w := by
    intro l m vs w hm hp hw hl
    subst hm
    rw [List.append_nil] at hp
    rw [hp.foldl_eq' (fun x _ y _ z => put1_comm hd x y z)]
    have : List.range ops.size = List.range' 0 ops.toList.length := by rw [Array.length_toList, List.range_eq_range']
    rw [this, fold_range vs ops ops.toList 0 a0 (fun j => by simp)]
    exact hfin vs w hw (fun i hi => hl i (hp.mem_iff.2 (by simpa using hi)))
  have nodup : ∀ (l m : List Nat), (l ++ m).Perm (List.range ops.size) → (l ++ m).Nodup := fun l m hp => hp.nodup_iff.2 List.nodup_range
  have stuck : ∀ (l m : List Nat) (listed : Array Bool), (l ++ m).Perm (List.range ops.size) → (∀ i, i < ops.size → listed.getD i true = decide (i ∈ l)) → listed.size = ops.size → Region.ready .any ops listed = [] → m = [] := by
    intro l m listed hp hl hs hr
    have all : ∀ i, i < ops.size → i ∈ l := by
      intro i
      induction i using Nat.strongRecOn with
      | _ i ih =>
        intro hi
        refine Classical.byContradiction fun hn => ?_
        have hmem : i ∈ Region.ready .any ops listed := by
          rw [mem_ready]
          refine ⟨by rw [hl i hi]; simp [hn], ops[i], by simp [hi], fun e hme hb => ?_⟩
          have hlt := he i ops[i] (by simp [hi]) e hme hb
          have h1 := ih e.on hlt (by omega)
          have h2 := hl e.on (by omega)
          rw [decide_eq_true h1] at h2
          have h3 : e.on < listed.size := by omega
          simpa [h3] using h2
        rw [hr] at hmem
        cases hmem
    cases m with
    | nil => rfl
    | cons x m =>
      have hx : x < ops.size := by
        have : x ∈ List.range ops.size := hp.mem_iff.1 (by simp)
        simpa using this
      have h1 := all x hx
      have h2 := nodup l (x :: m) hp
      rw [List.nodup_append] at h2
      exact absurd rfl (h2.2.2 x h1 x (by simp))
  intro fuel
  induction fuel with
  | zero =>
    intro listed w l m vs hm hp hl hs hw hi
    have hm0 := List.eq_nil_of_length_eq_zero hm
    refine ⟨?_, fin l m vs w hm0 hp hw hi⟩
    rw [List.eq_nil_iff_forall_not_mem]
    intro j hj
    rw [mem_ready] at hj
    obtain ⟨h1, o, ho, _⟩ := hj
    have hlt := (Array.getElem?_eq_some_iff.1 ho).1
    rw [hl j hlt] at h1
    subst hm0
    rw [List.append_nil] at hp
    exact absurd (hp.mem_iff.2 (by simpa using hlt)) (of_decide_eq_false h1)
  | succ fuel ih =>
    intro listed w l m vs hm hp hl hs hw hi
    refine ⟨fun hr => fin l m vs w (stuck l m listed hp hl hs hr) hp hw hi, fun i hir => ?_⟩
    rw [mem_ready] at hir
    obtain ⟨h1, o, ho, hall⟩ := hir
    have hlt := (Array.getElem?_eq_some_iff.1 ho).1
    rw [hl i hlt] at h1
    have hil : i ∉ l := of_decide_eq_false h1
    have him : i ∈ m := by
      have : i ∈ l ++ m := hp.mem_iff.2 (by simpa using hlt)
      rw [List.mem_append] at this
      exact this.resolve_left hil
    refine wpOp_step ho (fun K hK => hst i o ho _ w hw ?_ ?_ K (fun v w' hww hv => hK _ _ ?_))
    · intro j hj oj d hoj hod
      have hjl : j ∈ l := by
        rw [Array.any_eq_true'] at hj
        obtain ⟨e, hme, h2⟩ := hj
        simp only [Bool.and_eq_true, beq_iff_eq] at h2
        obtain ⟨hb, rfl⟩ := h2
        have h3 := hall e hme hb
        have hjlt := (Array.getElem?_eq_some_iff.1 hoj).1
        have h4 := hl e.on hjlt
        have h5 : e.on < listed.size := by omega
        have h6 : listed.getD e.on true = true := by simpa [h5] using h3
        rw [h6] at h4
        exact of_decide_eq_true h4.symm
      rw [fold_get hd hjl hoj hod (hsz j oj d hoj hod)]
      exact hi j hjl
    · intro d hfree
      refine fold_other (fun k p hp2 h2 => ?_) a0
      rw [Array.all_eq_true_iff_forall_mem] at hfree
      have := hfree p (Array.mem_of_getElem? hp2)
      simp [h2] at this
    · let us : Nat → Value := fun j => if j = i then v else vs j
      have hus : ∀ j ∈ l, us j = vs j := fun j hj => by
        show (if j = i then v else vs j) = vs j
        rw [if_neg (fun e => hil (by rw [← e]; exact hj))]
      have hui : us i = v := by show (if i = i then v else vs i) = v; rw [if_pos rfl]
      have e1 : (l.foldl (put1 ops vs) a0).put o.dst v = (l ++ [i]).foldl (put1 ops us) a0 := by
        rw [List.foldl_append, fold_congr hus]
        show _ = put1 ops us _ i
        unfold put1
        rw [ho, hui]
      rw [e1]
      refine ih (listed.setIfInBounds i true) w' (l ++ [i]) (m.erase i) us (by rw [List.length_erase_of_mem him]; omega) ?_ ?_ (by simpa using hs) (hw.trans hww) ?_
      · rw [List.append_assoc]
        exact (List.Perm.append_left l (List.perm_cons_erase him).symm).trans hp
      · intro j hj
        by_cases hji : j = i
        · subst hji
          have h5 : j < listed.size := by omega
          simp [h5]
        · have h5 : j < listed.size := by omega
          have := hl j hj
          simp only [Array.getD_eq_getD_getElem?] at this ⊢
          rw [Array.getElem?_setIfInBounds_ne (fun e => hji e.symm), this]
          simp [hji]
      · intro j hj
        rw [List.mem_append] at hj
        rcases hj with hj | hj
        · rw [hus j hj]
          exact hI j _ _ _ (hi j hj) hww
        · obtain rfl : j = i := by simpa using hj
          rw [hui]
          exact hv
theorem wp_region_grows {P : Program} {id : Nat} {l : List Oper} {Q : Exit → Act → World → Prop} {a0 : Act} {w0 : World} (hm : P.follows .mixedOrders = true) (h1 : onceB l = true) (h2 : earlyB 0 l = true) (h3 : (l.all fun o => match o.dst with | none => true | some d => decide (d < a0.tmps.size)) = true)
    (I : Nat → Value → World → Prop) (hI : ∀ i v w w', I i v w → Ext w w' → I i v w') (hst : GSteps P l.toArray Q I a0 w0 l 0) (hfin : ∀ vs w, Ext w0 w → (∀ i, i < l.length → I i (vs i) w) → Q .normal (putL vs l 0 a0) w) : (Code.region id l.toArray true).wp P Q a0 w0 := by
  refine wp_region_any hm ?_
  have h := wpAny_grows (P := P) (ops := l.toArray) (Q := Q) (I := I) (a0 := a0) (w0 := w0) (once_of h1) (early_of h2) (fun i o d ho hod => by
      have := List.all_eq_true.1 h3 o (List.mem_of_getElem? (by simpa using ho))
      rw [hod] at this
      exact of_decide_eq_true this) hI (fun i o ho => by
      have := gsteps_at l 0 hst i o (by simpa using ho)
      rwa [Nat.zero_add] at this) (fun vs w hw hi => hfin vs w hw (fun i hl => hi i (by simpa using hl)))
      l.toArray.size (Array.replicate l.toArray.size false) { w0 with drawn := w0.drawn + 1 } [] (List.range l.toArray.size) (fun _ => undef) (by simp) (by simp) (fun i hi => by simp at hi; simp [hi]) (by simp) ⟨rfl, rfl, rfl, Nat.le_refl _, fun _ _ => rfl⟩ (by simp)
  exact h
/-- an operation whose run is known where its operands have these values -/
theorem step_value {P : Program} {ops : Array Oper} {o : Oper} {a : Act} {w w' : World} {K : Act → World → Prop} {Q : Exit → Act → World → Prop} {E : Prop} {v : Value} (hg : o.guard = none) (hs : ∀ cs b, o.op ≠ .select cs b) (ρ : Operand → Value) (hρ : ∀ x ∈ o.op.operands, a.eval x = ρ x) (hrun : (execOp ρ o).run P w = .ok (.value v) w') (h : K (a.put o.dst v) w') :
    if Region.wanted o (yielded ops a.tmps) = true then Oper.wp P o a w K Q else E := by
  have hw : Region.wanted o (yielded ops a.tmps) = true := by simp [Region.wanted, hg]
  rw [if_pos hw]
  unfold Oper.wp
  rw [execOp_congr o hs hρ, hrun]
  exact h
/-- values of some places of the frame -/
def rho (l : List (Tmp × Value)) : Operand → Value
  | .tmp t => (l.lookup t).getD undef
  | .const v => v
  | .global g => .pointer (some ⟨g, 0, none⟩)
  | .func f => .func (.func f) #[] #[]
theorem rho_of {a : Act} {l : List (Tmp × Value)} {xs : Array Operand} (h : ∀ p ∈ l, a.tmps.getD p.1 undef = p.2) (hx : (xs.all fun x => match x with | .tmp t => (l.lookup t).isSome | _ => true) = true) : ∀ x ∈ xs, a.eval x = rho l x := by
  intro x hm
  rw [Array.all_eq_true_iff_forall_mem] at hx
  have h1 := hx x hm
  cases x with
  | tmp t =>
    simp only at h1
    obtain ⟨v, hv⟩ := Option.isSome_iff_exists.1 h1
    show a.tmps.getD t undef = (l.lookup t).getD undef
    rw [hv]
    have : ∀ (m : List (Tmp × Value)), m.lookup t = some v → (t, v) ∈ m := by
      intro m
      induction m with
      | nil => intro h; cases h
      | cons y m ih =>
        intro h
        rw [List.lookup_cons] at h
        split at h
        · rename_i he
          have : t = y.1 := by simpa using he
          cases h
          rw [this]
          exact List.mem_cons_self
        · exact List.mem_cons_of_mem _ (ih h)
    exact h (t, v) (this l hv)
  | const v => rfl
  | global g => rfl
  | func f => rfl
theorem flat_get {s : Nat} (hs : 0 < s) : ∀ (vs : List Value), (∀ v ∈ vs, v.cells.size = s) → ∀ k : Nat, (vs.flatMap (fun v => v.cells.toList))[k]? = (vs[k / s]?).bind (fun v => v.cells[k % s]?)
  | [], _, k => by simp
  | v :: vs, h, k => by
    have hv := h v List.mem_cons_self
    rw [List.flatMap_cons]
    by_cases hk : k < s
    · rw [List.getElem?_append_left (by simpa [hv] using hk), Nat.div_eq_of_lt hk, Nat.mod_eq_of_lt hk]
      simp
    · rw [List.getElem?_append_right (by simp [hv]; omega), Array.length_toList, hv, flat_get hs vs (fun u hu => h u (List.mem_cons_of_mem _ hu)) (k - s)]
      have e1 : k / s = (k - s) / s + 1 := by rw [Nat.div_eq k s, if_pos ⟨hs, by omega⟩]
      have e2 : k % s = (k - s) % s := by rw [Nat.mod_eq_sub_mod (by omega)]
      rw [e1, e2, List.getElem?_cons_succ]
/-- a slice literal -/
theorem step_slice {P : Program} {ops : Array Oper} {o : Oper} {a : Act} {w : World} {K : Act → World → Prop} {Q : Exit → Act → World → Prop} {E : Prop} (hg : o.guard = none) (t e : TypeId) (len : Nat) (parts : Array (Nat × Operand)) (ho : o.op = .buildSlice t len parts) (s : Nat) (hu : P.underlying t = some (.slice e))
    (hsz : (P.info? e).map (·.size) = some s) (hz : ((P.info? e).bind (·.zero)).isSome = true) (hs : 0 < s) (vs : List Value) (hparts : (parts.map fun (i, x) => (i, a.eval x)).toList = (vs.zipIdx 0).map fun x => (x.2, x.1)) (hv : ∀ v ∈ vs, v.cells.size = s) (hl : len = vs.length) (hpos : 0 < len) (hsmall : len * s ≤ 2 ^ 24)
    (h : K (a.put o.dst (.slice (some ⟨w.heap.size, 0, none⟩) len len)) (w.alloc (.cells (vs.flatMap (fun v => v.cells.toList)).toArray e))) : if Region.wanted o (yielded ops a.tmps) = true then Oper.wp P o a w K Q else E := by
  have hw : Region.wanted o (yielded ops a.tmps) = true := by simp [Region.wanted, hg]
  rw [if_pos hw]
  cases hie : P.info? e with
  | none => simp [hie] at hsz
  | some ie =>
    simp only [hie, Option.map_some, Option.some.injEq, Option.bind_some] at hsz hz
    obtain ⟨z, hzz⟩ := Option.isSome_iff_exists.1 hz
    have hp : 0 < len * s := Nat.mul_pos hpos hs
    refine wp_buildSlice t e len parts ho _ ie z hu hie hzz (by rw [hsz]; omega) (by rw [hsz]; omega) ?_ h
    rw [hparts, hsz]
    obtain ⟨r, hr, hrs, hrk⟩ := Great.fill_dense hs vs 0 ((Array.range (len * s)).map (z.cells[· % z.cells.size]!)) hv (by simp [hl])
    rw [hr]
    congr 1
    have hrs' : r.size = len * s := by rw [hrs]; simp
    apply Array.ext_getElem?
    intro k
    have e0 : (vs.flatMap (fun v => v.cells.toList)).toArray[k]? = (vs.flatMap (fun v => v.cells.toList))[k]? := List.getElem?_toArray
    rw [hrk k, e0, flat_get hs vs hv k]
    simp only [Nat.zero_mul, Nat.zero_le, true_and, Nat.zero_add, Nat.sub_zero]
    by_cases hk : k < vs.length * s
    · rw [if_pos hk]
    · rw [if_neg hk]
      have : vs.length ≤ k / s := (Nat.le_div_iff_mul_le hs).2 (by omega)
      rw [List.getElem?_eq_none this]
      simp [hl]
      omega
/-- the values put, over a list -/
def putsL (vs : Nat → Value) : List Oper → Nat → List Value → List Value
  | [], _, l => l
  | o :: os, k, l => putsL vs os (k + 1) (match o.dst with | some d => l.set d (vs k) | none => l)
theorem putL_eq (vs : Nat → Value) : ∀ (os : List Oper) (k : Nat) (l : List Value) (df : List Deferred), putL vs os k ⟨l.toArray, df⟩ = ⟨(putsL vs os k l).toArray, df⟩
  | [], _, _, _ => rfl
  | o :: os, k, l, df => by
    have e : (⟨l.toArray, df⟩ : Act).put o.dst (vs k) = ⟨(match o.dst with | some d => l.set d (vs k) | none => l).toArray, df⟩ := by
      cases hd : o.dst with
      | none => rfl
      | some d => simp [Act.put]
    show putL vs os (k + 1) ((⟨l.toArray, df⟩ : Act).put o.dst (vs k)) = _
    rw [e]
    exact putL_eq vs os (k + 1) _ df
end Go.Proofs
namespace Go.Proofs
open Go.RowKit

/-- one operation, whenever it comes up -/
def IStep (P : Program) (ops : Array Oper) (Q : Exit → Act → World → Prop) (J : (Nat → Bool) → (Nat → Value) → World → Prop) (a0 : Act) (i : Nat) (o : Oper) : Prop :=
  ∀ (a : Act) (w : World) (p : Nat → Bool) (vs : Nat → Value), J p vs w → (∀ j, (o.after.any fun e => Region.binds .any e && e.on == j) = true → p j = true) → p i = false → (∀ (j : Nat) (oj : Oper) (d : Tmp), p j = true → ops[j]? = some oj → oj.dst = some d → a.tmps.getD d undef = vs j) → (∀ d, (ops.all fun p => !decide (p.dst = some d)) = true → a.tmps.getD d undef = a0.tmps.getD d undef) →
    ∀ K : Act → World → Prop, (∀ v w', J (fun j => p j || j == i) (fun j => if j = i then v else vs j) w' → K (a.put o.dst v) w') → if Region.wanted o (yielded ops a.tmps) = true then Oper.wp P o a w K Q else K (a.put o.dst undef) w
def ISteps (P : Program) (ops : Array Oper) (Q : Exit → Act → World → Prop) (J : (Nat → Bool) → (Nat → Value) → World → Prop) (a0 : Act) : List Oper → Nat → Prop
  | [], _ => True
  | o :: l, k => IStep P ops Q J a0 k o ∧ ISteps P ops Q J a0 l (k + 1)
theorem isteps_at {P : Program} {ops : Array Oper} {Q : Exit → Act → World → Prop} {J : (Nat → Bool) → (Nat → Value) → World → Prop} {a0 : Act} : ∀ (l : List Oper) (k : Nat), ISteps P ops Q J a0 l k → ∀ (i : Nat) (o : Oper), l[i]? = some o → IStep P ops Q J a0 (k + i) o
  | [], _, _, i, o, h => by simp at h
  | x :: l, k, hs, i, o, h => by
    cases i with
    | zero => simp at h; subst h; exact hs.1
    | succ i =>
      have := isteps_at l (k + 1) hs.2 i o (by simpa using h)
      rwa [show k + 1 + i = k + (i + 1) by omega] at this
theorem wpAny_inv {P : Program} {ops : Array Oper} {Q : Exit → Act → World → Prop} {J : (Nat → Bool) → (Nat → Value) → World → Prop} {a0 : Act} (hd : Once ops) (he : Early ops) (hsz : ∀ (i : Nat) (o : Oper) (d : Tmp), ops[i]? = some o → o.dst = some d → d < a0.tmps.size)
    (hst : ∀ (i : Nat) (o : Oper), ops[i]? = some o → IStep P ops Q J a0 i o) (hfin : ∀ vs w, J (fun j => decide (j < ops.size)) vs w → Q .normal (putL vs ops.toList 0 a0) w) :
    ∀ (fuel : Nat) (listed : Array Bool) (w : World) (l m : List Nat) (vs : Nat → Value), m.length = fuel → (l ++ m).Perm (List.range ops.size) → (∀ i, i < ops.size → listed.getD i true = decide (i ∈ l)) → listed.size = ops.size → J (fun j => decide (j ∈ l)) vs w →
      wpAny P .any ops Q fuel listed (l.foldl (put1 ops vs) a0) w := by
  have fin : ∀ (l m : List Nat) (vs : Nat → Value) (w : World), m = [] → (l ++ m).Perm (List.range ops.size) → J (fun j => decide (j ∈ l)) vs w → Q .normal (l.foldl (put1 ops vs) a0) w := by
    intro l m vs w hm hp hj
    subst hm
    rw [List.append_nil] at hp
    rw [hp.foldl_eq' (fun x _ y _ z => put1_comm hd x y z)]
    have : List.range ops.size = List.range' 0 ops.toList.length := by rw [Array.length_toList, List.range_eq_range']
    rw [this, fold_range vs ops ops.toList 0 a0 (fun j => by simp)]
    refine hfin vs w ?_
    have e : (fun j => decide (j < ops.size)) = fun j => decide (j ∈ l) := by
      funext j
      rw [decide_eq_decide, hp.mem_iff, List.mem_range]
    rw [e]
    exact hj
  have nodup : ∀ (l m : List Nat), (l ++ m).Perm (List.range ops.size) → (l ++ m).Nodup := fun l m hp => hp.nodup_iff.2 List.nodup_range
  have stuck : ∀ (l m : List Nat) (listed : Array Bool), (l ++ m).Perm (List.range ops.size) → (∀ i, i < ops.size → listed.getD i true = decide (i ∈ l)) → listed.size = ops.size → Region.ready .any ops listed = [] → m = [] := by
    intro l m listed hp hl hs hr
    have all : ∀ i, i < ops.size → i ∈ l := by
      intro i
      induction i using Nat.strongRecOn with
      | _ i ih =>
        intro hi
        refine Classical.byContradiction fun hn => ?_
        have hmem : i ∈ Region.ready .any ops listed := by
          rw [mem_ready]
          refine ⟨by rw [hl i hi]; simp [hn], ops[i], by simp [hi], fun e hme hb => ?_⟩
          have hlt := he i ops[i] (by simp [hi]) e hme hb
          have h1 := ih e.on hlt (by omega)
          have h2 := hl e.on (by omega)
          rw [decide_eq_true h1] at h2
          have h3 : e.on < listed.size := by omega
          simpa [h3] using h2
        rw [hr] at hmem
        cases hmem
    cases m with
    | nil => rfl
    | cons x m =>
      have hx : x < ops.size := by
        have : x ∈ List.range ops.size := hp.mem_iff.1 (by simp)
        simpa using this
      have h1 := all x hx
      have h2 := nodup l (x :: m) hp
      rw [List.nodup_append] at h2
      exact absurd rfl (h2.2.2 x h1 x (by simp))
  intro fuel
  induction fuel with
  | zero =>
    intro listed w l m vs hm hp hl hs hj
    have hm0 := List.eq_nil_of_length_eq_zero hm
    refine ⟨?_, fin l m vs w hm0 hp hj⟩
    rw [List.eq_nil_iff_forall_not_mem]
    intro j hjr
    rw [mem_ready] at hjr
    obtain ⟨h1, o, ho, _⟩ := hjr
    have hlt := (Array.getElem?_eq_some_iff.1 ho).1
    rw [hl j hlt] at h1
    subst hm0
    rw [List.append_nil] at hp
    exact absurd (hp.mem_iff.2 (by simpa using hlt)) (of_decide_eq_false h1)
  | succ fuel ih =>
    intro listed w l m vs hm hp hl hs hj
    refine ⟨fun hr => fin l m vs w (stuck l m listed hp hl hs hr) hp hj, fun i hir => ?_⟩
    rw [mem_ready] at hir
    obtain ⟨h1, o, ho, hall⟩ := hir
    have hlt := (Array.getElem?_eq_some_iff.1 ho).1
    rw [hl i hlt] at h1
    have hil : i ∉ l := of_decide_eq_false h1
    have him : i ∈ m := by
      have : i ∈ l ++ m := hp.mem_iff.2 (by simpa using hlt)
      rw [List.mem_append] at this
      exact this.resolve_left hil
    refine wpOp_step ho (fun K hK => hst i o ho _ w (fun j => decide (j ∈ l)) vs hj ?_ (decide_eq_false hil) ?_ ?_ K (fun v w' hv => hK _ _ ?_))
    · intro j hja
      rw [Array.any_eq_true'] at hja
      obtain ⟨e, hme, h2⟩ := hja
      simp only [Bool.and_eq_true, beq_iff_eq] at h2
      obtain ⟨hb, rfl⟩ := h2
      have h3 := hall e hme hb
      have hlt2 := he i o ho e hme hb
      have h4 := hl e.on (by omega)
      have h5 : e.on < listed.size := by omega
      have h6 : listed.getD e.on true = true := by simpa [h5] using h3
      rw [h6] at h4
      exact h4.symm
    · intro j oj d hjl hoj hod
      exact fold_get hd (of_decide_eq_true hjl) hoj hod (hsz j oj d hoj hod)
    · intro d hfree
      refine fold_other (fun k p hp2 h2 => ?_) a0
      rw [Array.all_eq_true_iff_forall_mem] at hfree
      have := hfree p (Array.mem_of_getElem? hp2)
      simp [h2] at this
    · let us : Nat → Value := fun j => if j = i then v else vs j
      have hus : ∀ j ∈ l, us j = vs j := fun j hjl => by
        show (if j = i then v else vs j) = vs j
        rw [if_neg (fun e => hil (by rw [← e]; exact hjl))]
      have hui : us i = v := by show (if i = i then v else vs i) = v; rw [if_pos rfl]
      have e1 : (l.foldl (put1 ops vs) a0).put o.dst v = (l ++ [i]).foldl (put1 ops us) a0 := by
        rw [List.foldl_append, fold_congr hus]
        show _ = put1 ops us _ i
        unfold put1
        rw [ho, hui]
      rw [e1]
      refine ih (listed.setIfInBounds i true) w' (l ++ [i]) (m.erase i) us (by rw [List.length_erase_of_mem him]; omega) ?_ ?_ (by simpa using hs) ?_
      · rw [List.append_assoc]
        exact (List.Perm.append_left l (List.perm_cons_erase him).symm).trans hp
      · intro j hjn
        by_cases hji : j = i
        · subst hji
          have h5 : j < listed.size := by omega
          simp [h5]
        · have h5 : j < listed.size := by omega
          have := hl j hjn
          simp only [Array.getD_eq_getD_getElem?] at this ⊢
          rw [Array.getElem?_setIfInBounds_ne (fun e => hji e.symm), this]
          simp [hji]
      · have e2 : (fun j => decide (j ∈ l ++ [i])) = fun j => decide (j ∈ l) || j == i := by
          funext j
          by_cases hji : j = i
          · subst hji; simp
          · simp [hji]
        rw [e2]
        exact hv
theorem wp_region_inv {P : Program} {id : Nat} {l : List Oper} {Q : Exit → Act → World → Prop} {a0 : Act} {w0 : World} (hm : P.follows .mixedOrders = true) (h1 : onceB l = true) (h2 : earlyB 0 l = true) (h3 : (l.all fun o => match o.dst with | none => true | some d => decide (d < a0.tmps.size)) = true)
    (J : (Nat → Bool) → (Nat → Value) → World → Prop) (h0 : J (fun _ => false) (fun _ => undef) w0.drew) (hst : ISteps P l.toArray Q J a0 l 0) (hfin : ∀ vs w, J (fun j => decide (j < l.length)) vs w → Q .normal (putL vs l 0 a0) w) : (Code.region id l.toArray true).wp P Q a0 w0 := by
  refine wp_region_any hm ?_
  have h := wpAny_inv (P := P) (ops := l.toArray) (Q := Q) (J := J) (a0 := a0) (once_of h1) (early_of h2) (fun i o d ho hod => by
      have := List.all_eq_true.1 h3 o (List.mem_of_getElem? (by simpa using ho))
      rw [hod] at this
      exact of_decide_eq_true this) (fun i o ho => by
      have := isteps_at l 0 hst i o (by simpa using ho)
      rwa [Nat.zero_add] at this) (fun vs w hj => hfin vs w (by simpa using hj))
      l.toArray.size (Array.replicate l.toArray.size false) w0.drew [] (List.range l.toArray.size) (fun _ => undef) (by simp) (by simp) (fun i hi => by simp at hi; simp [hi]) (by simp) (by simpa using h0)
  exact h
end Go.Proofs
namespace Go.Proofs
open Go.RowKit

theorem getElem_snoc {l : List Oper} {o : Oper} {i : Nat} (h : i < l.length) : (l ++ [o])[i]? = l[i]? := List.getElem?_append_left h
/-- the operations ahead of the last one, as GStep asks -/
theorem isteps_of {P : Program} {l : List Oper} {o : Oper} {Q : Exit → Act → World → Prop} {I : Nat → Value → World → Prop} {L : (Nat → Value) → World → Prop} {a0 : Act} {w0 : World} (hI : ∀ i v w w', I i v w → Ext w w' → I i v w') :
    ∀ (m : List Oper) (k : Nat), k + m.length = l.length → GSteps P (l ++ [o]).toArray Q I a0 w0 m k → earlyB k m = true →
      IStep P (l ++ [o]).toArray Q (fun p vs w => (p l.length = false ∧ Ext w0 w ∧ ∀ i, i < l.length → p i = true → I i (vs i) w) ∨ (p l.length = true ∧ (∀ i, i < l.length → p i = true) ∧ L vs w)) a0 l.length o →
      ISteps P (l ++ [o]).toArray Q (fun p vs w => (p l.length = false ∧ Ext w0 w ∧ ∀ i, i < l.length → p i = true → I i (vs i) w) ∨ (p l.length = true ∧ (∀ i, i < l.length → p i = true) ∧ L vs w)) a0 (m ++ [o]) k
  | [], k, hk, _, _, hl => by
    have : k = l.length := by simpa using hk
    subst this
    exact ⟨hl, trivial⟩
  | x :: m, k, hk, hs, he, hl => by
    simp only [earlyB, Bool.and_eq_true, Array.all_eq_true_iff_forall_mem] at he
    refine ⟨?_, isteps_of hI m (k + 1) (by simp only [List.length_cons] at hk; omega) hs.2 he.2 hl⟩
    have hkl : k < l.length := by simp only [List.length_cons] at hk; omega
    intro a w p vs hJ hdep hpi hval hfr K hK
    rcases hJ with ⟨hn, hw, hi⟩ | ⟨_, hall, _⟩
    · refine hs.1 a w hw (fun j hj oj d hoj hod => ?_) hfr K (fun v w' hww hv => hK v w' (.inl ⟨?_, hw.trans hww, fun i hil hip => ?_⟩))
      · have hpj := hdep j hj
        rw [hval j oj d hpj hoj hod]
        have hjk : j < k := by
          rw [Array.any_eq_true'] at hj
          obtain ⟨e, hme, h2⟩ := hj
          simp only [Bool.and_eq_true, beq_iff_eq] at h2
          have := he.1 e hme
          simp [h2.1] at this
          omega
        exact hi j (by omega) hpj
      · have : l.length ≠ k := by omega
        simp [hn, this]
      · by_cases e : i = k
        · subst e
          simpa using hv
        · simp only [e, beq_iff_eq, Bool.or_eq_true, or_false] at hip
          show I i (if i = k then v else vs i) w'
          rw [if_neg e]
          exact hI i _ _ _ (hi i hil hip) hww
    · have := hall k hkl
      rw [hpi] at this
      cases this
theorem wp_region_last {P : Program} {id : Nat} {l : List Oper} {o : Oper} {Q : Exit → Act → World → Prop} {a0 : Act} {w0 : World} (hm : P.follows .mixedOrders = true) (h1 : onceB (l ++ [o]) = true) (h2 : earlyB 0 (l ++ [o]) = true) (h2' : earlyB 0 l = true) (h3 : ((l ++ [o]).all fun o => match o.dst with | none => true | some d => decide (d < a0.tmps.size)) = true)
    (h4 : ((List.range l.length).all fun j => o.after.any fun e => Region.binds .any e && e.on == j) = true)
    (I : Nat → Value → World → Prop) (L : (Nat → Value) → World → Prop) (hI : ∀ i v w w', I i v w → Ext w w' → I i v w') (hL : ∀ vs us w, (∀ i, i < l.length → us i = vs i) → L vs w → L us w)
    (hst : GSteps P (l ++ [o]).toArray Q I a0 w0 l 0)
    (hlast : ∀ (a : Act) (w : World) (vs : Nat → Value), Ext w0 w → (∀ i, i < l.length → I i (vs i) w) → (∀ (j : Nat) (oj : Oper) (d : Tmp), l[j]? = some oj → oj.dst = some d → a.tmps.getD d undef = vs j) → (∀ d, ((l ++ [o]).toArray.all fun p => !decide (p.dst = some d)) = true → a.tmps.getD d undef = a0.tmps.getD d undef) →
      ∀ K : Act → World → Prop, (∀ v w', L vs w' → K (a.put o.dst v) w') → if Region.wanted o (yielded (l ++ [o]).toArray a.tmps) = true then Oper.wp P o a w K Q else K (a.put o.dst undef) w)
    (hfin : ∀ vs w, L vs w → Q .normal (putL vs (l ++ [o]) 0 a0) w) : (Code.region id (l ++ [o]).toArray true).wp P Q a0 w0 := by
  refine wp_region_inv hm h1 h2 h3 (fun p vs w => (p l.length = false ∧ Ext w0 w ∧ ∀ i, i < l.length → p i = true → I i (vs i) w) ∨ (p l.length = true ∧ (∀ i, i < l.length → p i = true) ∧ L vs w)) (.inl ⟨rfl, ⟨rfl, rfl, rfl, Nat.le_refl _, fun _ _ => rfl⟩, fun _ _ h => by cases h⟩) (isteps_of hI l 0 (by simp) hst h2' ?_) ?_
  · intro a w p vs hJ hdep hpi hval hfr K hK
    rcases hJ with ⟨_, hw, hi⟩ | ⟨hn, _⟩
    · have hall : ∀ i, i < l.length → p i = true := fun i hil => hdep i (by
        rw [List.all_eq_true] at h4
        exact h4 i (by simpa using hil))
      refine hlast a w vs hw (fun i hil => hi i hil (hall i hil)) (fun j oj d hoj hod => ?_) hfr K (fun v w' hv => hK v w' (.inr ⟨by simp, fun i hil => ?_, ?_⟩))
      · have hjl : j < l.length := (List.getElem?_eq_some_iff.1 hoj).1
        exact hval j oj d (hall j hjl) (by rw [List.getElem?_toArray, getElem_snoc hjl]; exact hoj) hod
      · simp [hall i hil]
      · refine hL vs _ w' (fun i hil => ?_) hv
        show (if i = l.length then v else vs i) = vs i
        rw [if_neg (by omega)]
    · rw [hpi] at hn
      cases hn
  · intro vs w hJ
    rcases hJ with ⟨hn, _⟩ | ⟨_, _, h⟩
    · simp at hn
    · exact hfin vs w h
/-- the same, over the whole list -/
theorem wp_region_last' {P : Program} {id : Nat} {all : List Oper} {Q : Exit → Act → World → Prop} {a0 : Act} {w0 : World} (n : Nat) {o : Oper} (ho : all[n]? = some o) (hn : all.length = n + 1) (hm : P.follows .mixedOrders = true) (h1 : onceB all = true) (h2 : earlyB 0 all = true) (h2' : earlyB 0 (all.take n) = true) (h3 : (all.all fun o => match o.dst with | none => true | some d => decide (d < a0.tmps.size)) = true)
    (h4 : ((List.range n).all fun j => o.after.any fun e => Region.binds .any e && e.on == j) = true)
    (I : Nat → Value → World → Prop) (L : (Nat → Value) → World → Prop) (hI : ∀ i v w w', I i v w → Ext w w' → I i v w') (hL : ∀ vs us w, (∀ i, i < n → us i = vs i) → L vs w → L us w)
    (hst : GSteps P all.toArray Q I a0 w0 (all.take n) 0)
    (hlast : ∀ (a : Act) (w : World) (vs : Nat → Value), Ext w0 w → (∀ i, i < n → I i (vs i) w) → (∀ (j : Nat) (oj : Oper) (d : Tmp), (all.take n)[j]? = some oj → oj.dst = some d → a.tmps.getD d undef = vs j) → (∀ d, (all.toArray.all fun p => !decide (p.dst = some d)) = true → a.tmps.getD d undef = a0.tmps.getD d undef) →
      ∀ K : Act → World → Prop, (∀ v w', L vs w' → K (a.put o.dst v) w') → if Region.wanted o (yielded all.toArray a.tmps) = true then Oper.wp P o a w K Q else K (a.put o.dst undef) w)
    (hfin : ∀ vs w, L vs w → Q .normal (putL vs all 0 a0) w) : (Code.region id all.toArray true).wp P Q a0 w0 := by
  have e : all.take n ++ [o] = all := by
    have hlt : n < all.length := by omega
    have hd : all.drop n = [o] := by
      rw [List.drop_eq_getElem_cons hlt, List.drop_eq_nil_of_le (by omega)]
      have := (List.getElem?_eq_some_iff.1 ho).2
      rw [this]
    rw [← hd, List.take_append_drop]
  have hl : (all.take n).length = n := by rw [List.length_take]; omega
  have key := wp_region_last (P := P) (id := id) (l := all.take n) (o := o) (Q := Q) (a0 := a0) (w0 := w0) hm
  rw [e, hl] at key
  exact key h1 h2 h2' h3 h4 I L hI hL hst hlast hfin
end Go.Proofs
namespace Go.Proofs
open Go.RowKit

/-- operation o waits for number j -/
def depB (o : Oper) (j : Nat) : Bool := o.after.any fun e => Region.binds .any e && e.on == j
/-- one operation, whenever it comes up -/
def MStep (P : Program) (ops : Array Oper) (Q : Exit → Act → World → Prop) (I : Nat → (Nat → Value) → World → Prop) (a0 : Act) (w0 : World) (i : Nat) (o : Oper) : Prop :=
  ∀ (a : Act) (w : World) (vs : Nat → Value), Ext w0 w → (∀ j, depB o j = true → I j vs w) → (∀ (j : Nat) (oj : Oper) (d : Tmp), depB o j = true → ops[j]? = some oj → oj.dst = some d → a.tmps.getD d undef = vs j) → (∀ d, (ops.all fun p => !decide (p.dst = some d)) = true → a.tmps.getD d undef = a0.tmps.getD d undef) →
    ∀ K : Act → World → Prop, (∀ v w', Ext w w' → I i (fun j => if j = i then v else vs j) w' → K (a.put o.dst v) w') → if Region.wanted o (yielded ops a.tmps) = true then Oper.wp P o a w K Q else K (a.put o.dst undef) w
def MSteps (P : Program) (ops : Array Oper) (Q : Exit → Act → World → Prop) (I : Nat → (Nat → Value) → World → Prop) (a0 : Act) (w0 : World) : List Oper → Nat → Prop
  | [], _ => True
  | o :: l, k => MStep P ops Q I a0 w0 k o ∧ MSteps P ops Q I a0 w0 l (k + 1)
theorem isteps_many {P : Program} {all : List Oper} {Q : Exit → Act → World → Prop} {I : Nat → (Nat → Value) → World → Prop} {a0 : Act} {w0 : World} (hI : ∀ i vs w w', I i vs w → Ext w w' → I i vs w') (hV : ∀ i o vs us w, all[i]? = some o → (∀ j, j = i ∨ depB o j = true → us j = vs j) → I i vs w → I i us w) (hE : ∀ (i : Nat) (o : Oper), all[i]? = some o → ∀ j, depB o j = true → j < i) :
    ∀ (m : List Oper) (k : Nat), (∀ j, m[j]? = all[k + j]?) → MSteps P all.toArray Q I a0 w0 m k →
      ISteps P all.toArray Q (fun p vs w => Ext w0 w ∧ ∀ (i : Nat) (o : Oper), all[i]? = some o → p i = true → I i vs w ∧ ∀ j, depB o j = true → p j = true) a0 m k
  | [], _, _, _ => trivial
  | x :: m, k, hm, hs => by
    refine ⟨?_, isteps_many hI hV hE m (k + 1) (fun j => by have := hm (j + 1); rw [List.getElem?_cons_succ] at this; rw [this]; congr 1; omega) hs.2⟩
    have hx : all[k]? = some x := by simpa using (hm 0).symm
    intro a w p vs ⟨hw, hi⟩ hdep hpi hval hfr K hK
    have hlen : k < all.length := (List.getElem?_eq_some_iff.1 hx).1
    refine hs.1 a w vs hw (fun j hj => ?_) (fun j oj d hj hoj hod => hval j oj d (hdep j hj) hoj hod) hfr K (fun v w' hww hv => hK v w' ⟨hw.trans hww, fun i o ho hip => ?_⟩)
    · have hjk := hE k x hx j hj
      have hjl : j < all.length := by omega
      exact (hi j all[j] (List.getElem?_eq_getElem hjl) (hdep j hj)).1
    · by_cases e : i = k
      · subst e
        rw [hx] at ho
        cases ho
        exact ⟨hv, fun j hj => by simp [hdep j hj]⟩
      · have hip' : p i = true := by simpa [e] using hip
        obtain ⟨h1, h2⟩ := hi i o ho hip'
        refine ⟨hI i _ _ _ (hV i o vs _ w ho (fun j hj => ?_) h1) hww, fun j hj => by simp [h2 j hj]⟩
        have hne : j ≠ k := by
          rcases hj with rfl | hj
          · exact e
          · intro e2
            have := h2 j hj
            rw [e2, hpi] at this
            cases this
        show (if j = k then v else vs j) = vs j
        rw [if_neg hne]
theorem wp_region_many {P : Program} {id : Nat} {all : List Oper} {Q : Exit → Act → World → Prop} {a0 : Act} {w0 : World} (hm : P.follows .mixedOrders = true) (h1 : onceB all = true) (h2 : earlyB 0 all = true) (h3 : (all.all fun o => match o.dst with | none => true | some d => decide (d < a0.tmps.size)) = true)
    (I : Nat → (Nat → Value) → World → Prop) (hI : ∀ i vs w w', I i vs w → Ext w w' → I i vs w') (hV : ∀ i o vs us w, all[i]? = some o → (∀ j, j = i ∨ depB o j = true → us j = vs j) → I i vs w → I i us w)
    (hst : MSteps P all.toArray Q I a0 w0 all 0) (hfin : ∀ vs w, Ext w0 w → (∀ i, i < all.length → I i vs w) → Q .normal (putL vs all 0 a0) w) : (Code.region id all.toArray true).wp P Q a0 w0 := by
  have hE : ∀ (i : Nat) (o : Oper), all[i]? = some o → ∀ j, depB o j = true → j < i := fun i o ho j hj => by
    unfold depB at hj
    rw [Array.any_eq_true'] at hj
    obtain ⟨e, hme, h⟩ := hj
    simp only [Bool.and_eq_true, beq_iff_eq] at h
    have := early_of h2 i o (by simpa using ho) e hme h.1
    omega
  refine wp_region_inv hm h1 h2 h3 (fun p vs w => Ext w0 w ∧ ∀ (i : Nat) (o : Oper), all[i]? = some o → p i = true → I i vs w ∧ ∀ j, depB o j = true → p j = true) ⟨⟨rfl, rfl, rfl, Nat.le_refl _, fun _ _ => rfl⟩, fun _ _ _ h => by cases h⟩ (isteps_many hI hV hE all 0 (fun j => by simp) hst) ?_
  intro vs w ⟨hw, hi⟩
  exact hfin vs w hw (fun i hil => (hi i all[i] (List.getElem?_eq_getElem hil) (by simp [hil])).1)
end Go.Proofs
