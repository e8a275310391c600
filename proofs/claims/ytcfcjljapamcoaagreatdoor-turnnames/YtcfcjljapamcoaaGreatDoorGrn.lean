/-
  A region that draws its order, whose operations lay blocks: each leaves a value of which something is known, whatever the order; what lay stays.
-/
import Derived.Orders
import Derived.RegionTactic
import Derived.Below
import Derived.Great.BuildSlice
namespace Go.Proofs
open Go.RowKit
def put1 (ops:Array Oper) (vs:Nat→Value) (a:Act) (i:Nat):Act:=match ops[i]? with
 | some o=>a.put o.dst (vs i)
 | none=>a
def putL (vs:Nat→Value):List Oper→Nat→Act→Act
 | [],_,a=>a
 | o::l,k,a=>putL vs l (k+1) (a.put o.dst (vs k))
def Once (ops:Array Oper):Prop:=∀ (i j:Nat) (o p:Oper),ops[i]? = some o→ops[j]? = some p→i≠j→∀ d,o.dst=some d→p.dst≠some d
def onceB (ops:List Oper):Bool:=match ops with
 | []=>true
 | o::l=>(match o.dst with | none=>true | some d=>l.all fun p => !decide (p.dst=some d)) && onceB l
def Early (ops:Array Oper):Prop:=∀ (i:Nat) (o:Oper),ops[i]? = some o→∀ e∈o.after,Region.binds .any e=true→e.on<i
def earlyB (k:Nat) (ops:List Oper):Bool:=match ops with
 | []=>true
 | o::l=>(o.after.all fun e => !Region.binds .any e || decide (e.on<k)) && earlyB (k+1) l
theorem early_of {ops:List Oper} (h:earlyB 0 ops=true):Early ops.toArray:=by
 have key:∀ (l:List Oper) (k:Nat),earlyB k l=true→∀ (i:Nat) (o:Oper),l[i]? = some o→∀ e∈o.after,Region.binds .any e=true→e.on<k+i:=by
  intro l
  induction l with
  | nil=>intro k _ i o h;simp at h
  | cons x l ih=>
   intro k hk i o ho e he hb
   simp only [earlyB,Bool.and_eq_true,Array.all_eq_true_iff_forall_mem] at hk
   cases i with
   | zero=>
    simp at ho
    subst ho
    have:=hk.1 e he
    simp [hb] at this
    omega
   | succ i=>
    have:=ih (k+1) hk.2 i o (by simpa using ho) e he hb
    omega
 intro i o ho e he hb
 have:=key ops 0 h i o (by simpa using ho) e he hb
 omega
theorem once_of {ops:List Oper} (h:onceB ops=true):Once ops.toArray:=by
 have key:∀ (l:List Oper),onceB l=true→∀ (i j:Nat) (o p:Oper),l[i]? = some o→l[j]? = some p→i<j→∀ d,¬ (o.dst=some d∧p.dst=some d):=by
  intro l
  induction l with
  | nil=>intro _ i j o p h;simp at h
  | cons x l ih=>
   intro hk i j o p ho hp hij d ⟨h1,h2⟩
   simp only [onceB,Bool.and_eq_true] at hk
   cases j with
   | zero=>omega
   | succ j=>
    cases i with
    | zero=>
     simp at ho
     subst ho
     have h3:=hk.1
     rw [h1] at h3
     simp only [List.all_eq_true] at h3
     have:=h3 p (List.mem_of_getElem? (by simpa using hp))
     simp [h2] at this
    | succ i=>exact ih hk.2 i j o p (by simpa using ho) (by simpa using hp) (by omega) d ⟨h1,h2⟩
 intro i j o p ho hp hij d h1 h2
 rcases Nat.lt_or_gt_of_ne hij with h3 | h3
 · exact key ops h i j o p (by simpa using ho) (by simpa using hp) h3 d ⟨h1,h2⟩
 · exact key ops h j i p o (by simpa using hp) (by simpa using ho) h3 d ⟨h2,h1⟩
section
variable {ops:Array Oper} {vs:Nat→Value}
theorem put1_comm (hd:Once ops) (x y:Nat) (z:Act):put1 ops vs (put1 ops vs z x) y=put1 ops vs (put1 ops vs z y) x:=by
 by_cases h:x=y
 · subst h;rfl
 · unfold put1
   cases hx:ops[x]? with
   | none=>rfl
   | some o=>
    cases hy:ops[y]? with
    | none=>rfl
    | some p=>exact Act.put_comm z (vs x) (vs y) (fun d h1=>hd x y o p hx hy h d h1)
theorem put_size (a:Act) (d:Option Tmp) (v:Value):(a.put d v).tmps.size=a.tmps.size:=by
 cases d <;> simp [Act.put]
theorem fold_size (l:List Nat) (a:Act):(l.foldl (put1 ops vs) a).tmps.size=a.tmps.size:=by
 induction l generalizing a with
 | nil=>rfl
 | cons i l ih=>
  rw [List.foldl_cons,ih]
  unfold put1
  split
  · exact put_size _ _ _
  · rfl
theorem fold_get (hd:Once ops) {l:List Nat} {i:Nat} (hi:i∈l) {o:Oper} (ho:ops[i]? = some o) {d:Tmp} (hod:o.dst=some d) {a:Act} (hs:d<a.tmps.size):(l.foldl (put1 ops vs) a).tmps.getD d undef=vs i:=by
 have hp:l.Perm (l.erase i++[i]):=(List.perm_cons_erase hi).trans (List.perm_append_singleton i (l.erase i)).symm
 rw [hp.foldl_eq' (fun x _ y _ z=>put1_comm hd x y z),List.foldl_append]
 have hz:d<((l.erase i).foldl (put1 ops vs) a).tmps.size:=by rw [fold_size];exact hs
 show (put1 ops vs ((l.erase i).foldl (put1 ops vs) a) i).tmps.getD d undef=vs i
 generalize (l.erase i).foldl (put1 ops vs) a=z at hz
 simp [put1,ho,Act.put,hod,hz]
theorem fold_other {l:List Nat} {d:Tmp} (h:∀ (i:Nat) (o:Oper),ops[i]? = some o→o.dst≠some d) (a:Act):(l.foldl (put1 ops vs) a).tmps.getD d undef=a.tmps.getD d undef:=by
 induction l generalizing a with
 | nil=>rfl
 | cons i l ih=>
  rw [List.foldl_cons,ih]
  unfold put1
  split
  · rename_i o ho
    cases hd:o.dst with
    | none=>rfl
    | some e=>
     have hne:e≠d:=fun he=>h i o ho (by rw [hd,he])
     simp [Act.put,Array.getElem?_setIfInBounds_ne hne]
  · rfl
theorem fold_congr {us:Nat→Value} {l:List Nat} (h:∀ i∈l,us i=vs i) (a:Act):l.foldl (put1 ops us) a=l.foldl (put1 ops vs) a:=by
 induction l generalizing a with
 | nil=>rfl
 | cons i l ih=>
  rw [List.foldl_cons,List.foldl_cons]
  have:put1 ops us a i=put1 ops vs a i:=by unfold put1;rw [h i List.mem_cons_self]
  rw [this]
  exact ih (fun j hj=>h j (List.mem_cons_of_mem _ hj)) _
end
theorem fold_range (vs:Nat→Value) (ops:Array Oper):∀ (l:List Oper) (k:Nat) (a:Act),(∀ j,l[j]? = ops[k+j]?)→(List.range' k l.length).foldl (put1 ops vs) a=putL vs l k a
 | [],_,_,_=>rfl
 | o::l,k,a,h=>by
  have h0:ops[k]? = some o:=by simpa using (h 0).symm
  rw [List.length_cons,List.range'_succ,List.foldl_cons]
  show _=putL vs l (k+1) (a.put o.dst (vs k))
  rw [←fold_range vs ops l (k+1) (a.put o.dst (vs k)) (fun j=>by have:=h (j+1);rw [List.getElem?_cons_succ] at this;rw [this];congr 1;omega)]
  congr 1
  unfold put1
  rw [h0]
theorem step_value {P:Program} {ops:Array Oper} {o:Oper} {a:Act} {w w':World} {K:Act→World→Prop} {Q:Exit→Act→World→Prop} {E:Prop} {v:Value} (hg:o.guard=none) (hs:∀ cs b,o.op ≠ .select cs b) (ρ:Operand→Value) (hρ:∀ x∈o.op.operands,a.eval x=ρ x) (hrun:(execOp ρ o).run P w = .ok (.value v) w') (h:K (a.put o.dst v) w') :
 if Region.wanted o (yielded ops a.tmps)=true then Oper.wp P o a w K Q else E:=by
 have hw:Region.wanted o (yielded ops a.tmps)=true:=by simp [Region.wanted,hg]
 rw [if_pos hw]
 unfold Oper.wp
 rw [execOp_congr o hs hρ,hrun]
 exact h
def rho (l:List (Tmp × Value)):Operand→Value
 | .tmp t=>(l.lookup t).getD undef
 | .const v=>v
 | .global g => .pointer (some ⟨g,0,none⟩)
 | .func f => .func (.func f) #[] #[]
theorem rho_of {a:Act} {l:List (Tmp × Value)} {xs:Array Operand} (h:∀ p∈l,a.tmps.getD p.1 undef=p.2) (hx:(xs.all fun x=>match x with | .tmp t=>(l.lookup t).isSome | _=>true)=true):∀ x∈xs,a.eval x=rho l x:=by
 intro x hm
 rw [Array.all_eq_true_iff_forall_mem] at hx
 have h1:=hx x hm
 cases x with
 | tmp t=>
  simp only at h1
  obtain ⟨v,hv⟩:=Option.isSome_iff_exists.1 h1
  show a.tmps.getD t undef=(l.lookup t).getD undef
  rw [hv]
  have:∀ (m:List (Tmp × Value)),m.lookup t=some v→(t,v)∈m:=by
   intro m
   induction m with
   | nil=>intro h;cases h
   | cons y m ih=>
    intro h
    rw [List.lookup_cons] at h
    split at h
    · rename_i he
      have:t=y.1:=by simpa using he
      cases h
      rw [this]
      exact List.mem_cons_self
    · exact List.mem_cons_of_mem _ (ih h)
  exact h (t,v) (this l hv)
 | const v=>rfl
 | global g=>rfl
 | func f=>rfl
def putsL (vs:Nat→Value):List Oper→Nat→List Value→List Value
 | [],_,l=>l
 | o::os,k,l=>putsL vs os (k+1) (match o.dst with | some d=>l.set d (vs k) | none=>l)
theorem putL_eq (vs:Nat→Value):∀ (os:List Oper) (k:Nat) (l:List Value) (df:List Deferred),putL vs os k ⟨l.toArray,df⟩=⟨(putsL vs os k l).toArray,df⟩
 | [],_,_,_=>rfl
 | o::os,k,l,df=>by
  have e:(⟨l.toArray,df⟩:Act).put o.dst (vs k)=⟨(match o.dst with | some d=>l.set d (vs k) | none=>l).toArray,df⟩:=by
   cases hd:o.dst with
   | none=>rfl
   | some d=>simp [Act.put]
  show putL vs os (k+1) ((⟨l.toArray,df⟩:Act).put o.dst (vs k))=_
  rw [e]
  exact putL_eq vs os (k+1) _ df
end Go.Proofs
