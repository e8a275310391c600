/-
  Several texts in one (Grr Gir).
-/
import Derived.Orders
import Derived.RegionTactic
import Derived.Below
import Derived.Great.BuildSlice
namespace Go.Proofs
open Go.RowKit
abbrev Ext (w w':World):Prop:=Below w.heap.size w w'
theorem Ext.trans {a b c:World} (h:Ext a b) (k:Ext b c):Ext a c:=Below.trans h (Below.mono k h.size)
def put1 (ops:Array Oper) (vs:Nat→Value) (a:Act) (i:Nat):Act:=match ops[i]? with
 | some o=>a.put o.dst (vs i)
 | none=>a
def putL (vs:Nat→Value):List Oper→Nat→Act→Act
 | [],_,a=>a
 | o::l,k,a=>putL vs l (k+1) (a.put o.dst (vs k))
def Once (ops:Array Oper):Prop:=∀ (i j:Nat) (o p:Oper),ops[i]? = some o→ops[j]? = some p→i≠j→∀ d,o.dst=some d→p.dst≠some d
def onceB (ops:List Oper):Bool:=match ops with
 | []=>true
 | o::l=>(match o.dst with | none=>true | some d=>l.all fun p => !decide (p.dst=some d)) && onceB l
def Early (ops:Array Oper):Prop:=∀ (i:Nat) (o:Oper),ops[i]? = some o→∀ e∈o.after,Region.binds .any e=true→e.on<i
def earlyB (k:Nat) (ops:List Oper):Bool:=match ops with
 | []=>true
 | o::l=>(o.after.all fun e => !Region.binds .any e || decide (e.on<k)) && earlyB (k+1) l
theorem early_of {ops:List Oper} (h:earlyB 0 ops=true):Early ops.toArray:=by
 have key:∀ (l:List Oper) (k:Nat),earlyB k l=true→∀ (i:Nat) (o:Oper),l[i]? = some o→∀ e∈o.after,Region.binds .any e=true→e.on<k+i:=by
  intro l
  induction l with
  | nil=>intro k _ i o h;simp at h
  | cons x l ih=>
   intro k hk i o ho e he hb
   simp only [earlyB,Bool.and_eq_true,Array.all_eq_true_iff_forall_mem] at hk
   cases i with
   | zero=>
    simp at ho
    subst ho
    have:=hk.1 e he
    simp [hb] at this
    omega
   | succ i=>
    have:=ih (k+1) hk.2 i o (by simpa using ho) e he hb
    omega
 intro i o ho e he hb
 have:=key ops 0 h i o (by simpa using ho) e he hb
 omega
theorem once_of {ops:List Oper} (h:onceB ops=true):Once ops.toArray:=by
 have key:∀ (l:List Oper),onceB l=true→∀ (i j:Nat) (o p:Oper),l[i]? = some o→l[j]? = some p→i<j→∀ d,¬ (o.dst=some d∧p.dst=some d):=by
  intro l
  induction l with
  | nil=>intro _ i j o p h;simp at h
  | cons x l ih=>
   intro hk i j o p ho hp hij d ⟨h1,h2⟩
   simp only [onceB,Bool.and_eq_true] at hk
   cases j with
   | zero=>omega
   | succ j=>
    cases i with
    | zero=>
     simp at ho
     subst ho
     have h3:=hk.1
     rw [h1] at h3
     simp only [List.all_eq_true] at h3
     have:=h3 p (List.mem_of_getElem? (by simpa using hp))
     simp [h2] at this
    | succ i=>exact ih hk.2 i j o p (by simpa using ho) (by simpa using hp) (by omega) d ⟨h1,h2⟩
 intro i j o p ho hp hij d h1 h2
 rcases Nat.lt_or_gt_of_ne hij with h3 | h3
 · exact key ops h i j o p (by simpa using ho) (by simpa using hp) h3 d ⟨h1,h2⟩
 · exact key ops h j i p o (by simpa using hp) (by simpa using ho) h3 d ⟨h2,h1⟩
section
variable {ops:Array Oper} {vs:Nat→Value}
theorem put1_comm (hd:Once ops) (x y:Nat) (z:Act):put1 ops vs (put1 ops vs z x) y=put1 ops vs (put1 ops vs z y) x:=by
 by_cases h:x=y
 · subst h;rfl
 · unfold put1
   cases hx:ops[x]? with
   | none=>rfl
   | some o=>
    cases hy:ops[y]? with
    | none=>rfl
    | some p=>exact Act.put_comm z (vs x) (vs y) (fun d h1=>hd x y o p hx hy h d h1)
theorem put_size (a:Act) (d:Option Tmp) (v:Value):(a.put d v).tmps.size=a.tmps.size:=by
 cases d <;> simp [Act.put]
theorem fold_size (l:List Nat) (a:Act):(l.foldl (put1 ops vs) a).tmps.size=a.tmps.size:=by
 induction l generalizing a with
 | nil=>rfl
 | cons i l ih=>
  rw [List.foldl_cons,ih]
  unfold put1
  split
  · exact put_size _ _ _
  · rfl
theorem fold_get (hd:Once ops) {l:List Nat} {i:Nat} (hi:i∈l) {o:Oper} (ho:ops[i]? = some o) {d:Tmp} (hod:o.dst=some d) {a:Act} (hs:d<a.tmps.size):(l.foldl (put1 ops vs) a).tmps.getD d undef=vs i:=by
 have hp:l.Perm (l.erase i++[i]):=(List.perm_cons_erase hi).trans (List.perm_append_singleton i (l.erase i)).symm
 rw [hp.foldl_eq' (fun x _ y _ z=>put1_comm hd x y z),List.foldl_append]
 have hz:d<((l.erase i).foldl (put1 ops vs) a).tmps.size:=by rw [fold_size];exact hs
 show (put1 ops vs ((l.erase i).foldl (put1 ops vs) a) i).tmps.getD d undef=vs i
 generalize (l.erase i).foldl (put1 ops vs) a=z at hz
 simp [put1,ho,Act.put,hod,hz]
theorem fold_other {l:List Nat} {d:Tmp} (h:∀ (i:Nat) (o:Oper),ops[i]? = some o→o.dst≠some d) (a:Act):(l.foldl (put1 ops vs) a).tmps.getD d undef=a.tmps.getD d undef:=by
 induction l generalizing a with
 | nil=>rfl
 | cons i l ih=>
  rw [List.foldl_cons,ih]
  unfold put1
  split
  · rename_i o ho
    cases hd:o.dst with
    | none=>rfl
    | some e=>
     have hne:e≠d:=fun he=>h i o ho (by rw [hd,he])
     simp [Act.put,Array.getElem?_setIfInBounds_ne hne]
  · rfl
theorem fold_congr {us:Nat→Value} {l:List Nat} (h:∀ i∈l,us i=vs i) (a:Act):l.foldl (put1 ops us) a=l.foldl (put1 ops vs) a:=by
 induction l generalizing a with
 | nil=>rfl
 | cons i l ih=>
  rw [List.foldl_cons,List.foldl_cons]
  have:put1 ops us a i=put1 ops vs a i:=by unfold put1;rw [h i List.mem_cons_self]
  rw [this]
  exact ih (fun j hj=>h j (List.mem_cons_of_mem _ hj)) _
end
theorem fold_range (vs:Nat→Value) (ops:Array Oper):∀ (l:List Oper) (k:Nat) (a:Act),(∀ j,l[j]? = ops[k+j]?)→(List.range' k l.length).foldl (put1 ops vs) a=putL vs l k a
 | [],_,_,_=>rfl
 | o::l,k,a,h=>by
  have h0:ops[k]? = some o:=by simpa using (h 0).symm
  rw [List.length_cons,List.range'_succ,List.foldl_cons]
  show _=putL vs l (k+1) (a.put o.dst (vs k))
  rw [←fold_range vs ops l (k+1) (a.put o.dst (vs k)) (fun j=>by have:=h (j+1);rw [List.getElem?_cons_succ] at this;rw [this];congr 1;omega)]
  congr 1
  unfold put1
  rw [h0]
theorem step_value {P:Program} {ops:Array Oper} {o:Oper} {a:Act} {w w':World} {K:Act→World→Prop} {Q:Exit→Act→World→Prop} {E:Prop} {v:Value} (hg:o.guard=none) (hs:∀ cs b,o.op ≠ .select cs b) (ρ:Operand→Value) (hρ:∀ x∈o.op.operands,a.eval x=ρ x) (hrun:(execOp ρ o).run P w = .ok (.value v) w') (h:K (a.put o.dst v) w') :
 if Region.wanted o (yielded ops a.tmps)=true then Oper.wp P o a w K Q else E:=by
 have hw:Region.wanted o (yielded ops a.tmps)=true:=by simp [Region.wanted,hg]
 rw [if_pos hw]
 unfold Oper.wp
 rw [execOp_congr o hs hρ,hrun]
 exact h
def rho (l:List (Tmp × Value)):Operand→Value
 | .tmp t=>(l.lookup t).getD undef
 | .const v=>v
 | .global g => .pointer (some ⟨g,0,none⟩)
 | .func f => .func (.func f) #[] #[]
theorem rho_of {a:Act} {l:List (Tmp × Value)} {xs:Array Operand} (h:∀ p∈l,a.tmps.getD p.1 undef=p.2) (hx:(xs.all fun x=>match x with | .tmp t=>(l.lookup t).isSome | _=>true)=true):∀ x∈xs,a.eval x=rho l x:=by
 intro x hm
 rw [Array.all_eq_true_iff_forall_mem] at hx
 have h1:=hx x hm
 cases x with
 | tmp t=>
  simp only at h1
  obtain ⟨v,hv⟩:=Option.isSome_iff_exists.1 h1
  show a.tmps.getD t undef=(l.lookup t).getD undef
  rw [hv]
  have:∀ (m:List (Tmp × Value)),m.lookup t=some v→(t,v)∈m:=by
   intro m
   induction m with
   | nil=>intro h;cases h
   | cons y m ih=>
    intro h
    rw [List.lookup_cons] at h
    split at h
    · rename_i he
      have:t=y.1:=by simpa using he
      cases h
      rw [this]
      exact List.mem_cons_self
    · exact List.mem_cons_of_mem _ (ih h)
  exact h (t,v) (this l hv)
 | const v=>rfl
 | global g=>rfl
 | func f=>rfl
def putsL (vs:Nat→Value):List Oper→Nat→List Value→List Value
 | [],_,l=>l
 | o::os,k,l=>putsL vs os (k+1) (match o.dst with | some d=>l.set d (vs k) | none=>l)
theorem putL_eq (vs:Nat→Value):∀ (os:List Oper) (k:Nat) (l:List Value) (df:List Deferred),putL vs os k ⟨l.toArray,df⟩=⟨(putsL vs os k l).toArray,df⟩
 | [],_,_,_=>rfl
 | o::os,k,l,df=>by
  have e:(⟨l.toArray,df⟩:Act).put o.dst (vs k)=⟨(match o.dst with | some d=>l.set d (vs k) | none=>l).toArray,df⟩:=by
   cases hd:o.dst with
   | none=>rfl
   | some d=>simp [Act.put]
  show putL vs os (k+1) ((⟨l.toArray,df⟩:Act).put o.dst (vs k))=_
  rw [e]
  exact putL_eq vs os (k+1) _ df
end Go.Proofs
namespace Go.Proofs
open Go.RowKit
def IStep (P:Program) (ops:Array Oper) (Q:Exit→Act→World→Prop) (J:(Nat→Bool)→(Nat→Value)→World→Prop) (a0:Act) (i:Nat) (o:Oper):Prop:=
 ∀ (a:Act) (w:World) (p:Nat→Bool) (vs:Nat→Value),J p vs w→(∀ j,(o.after.any fun e=>Region.binds .any e && e.on == j)=true→p j=true)→p i=false→(∀ (j:Nat) (oj:Oper) (d:Tmp),p j=true→ops[j]? = some oj→oj.dst=some d→a.tmps.getD d undef=vs j)→(∀ d,(ops.all fun p => !decide (p.dst=some d))=true→a.tmps.getD d undef=a0.tmps.getD d undef) →
  ∀ K:Act→World→Prop,(∀ v w',J (fun j=>p j || j == i) (fun j=>if j=i then v else vs j) w'→K (a.put o.dst v) w')→if Region.wanted o (yielded ops a.tmps)=true then Oper.wp P o a w K Q else K (a.put o.dst undef) w
def ISteps (P:Program) (ops:Array Oper) (Q:Exit→Act→World→Prop) (J:(Nat→Bool)→(Nat→Value)→World→Prop) (a0:Act):List Oper→Nat→Prop
 | [],_=>True
 | o::l,k=>IStep P ops Q J a0 k o∧ISteps P ops Q J a0 l (k+1)
theorem isteps_at {P:Program} {ops:Array Oper} {Q:Exit→Act→World→Prop} {J:(Nat→Bool)→(Nat→Value)→World→Prop} {a0:Act} : ∀ (l:List Oper) (k:Nat),ISteps P ops Q J a0 l k→∀ (i:Nat) (o:Oper),l[i]? = some o→IStep P ops Q J a0 (k+i) o
 | [],_,_,i,o,h=>by simp at h
 | x::l,k,hs,i,o,h=>by
  cases i with
  | zero=>simp at h;subst h;exact hs.1
  | succ i=>
   have:=isteps_at l (k+1) hs.2 i o (by simpa using h)
   rwa [show k+1+i=k+(i+1) by omega] at this
theorem wpAny_inv {P:Program} {ops:Array Oper} {Q:Exit→Act→World→Prop} {J:(Nat→Bool)→(Nat→Value)→World→Prop} {a0:Act} (hd:Once ops) (he:Early ops) (hsz:∀ (i:Nat) (o:Oper) (d:Tmp),ops[i]? = some o→o.dst=some d→d<a0.tmps.size)
 (hst:∀ (i:Nat) (o:Oper),ops[i]? = some o→IStep P ops Q J a0 i o) (hfin:∀ vs w,J (fun j=>decide (j<ops.size)) vs w→Q .normal (putL vs ops.toList 0 a0) w) :
 ∀ (fuel:Nat) (listed:Array Bool) (w:World) (l m:List Nat) (vs:Nat→Value),m.length=fuel→(l++m).Perm (List.range ops.size)→(∀ i,i<ops.size→listed.getD i true=decide (i∈l))→listed.size=ops.size→J (fun j=>decide (j∈l)) vs w →
  wpAny P .any ops Q fuel listed (l.foldl (put1 ops vs) a0) w:=by
 have fin:∀ (l m:List Nat) (vs:Nat→Value) (w:World),m=[]→(l++m).Perm (List.range ops.size)→J (fun j=>decide (j∈l)) vs w→Q .normal (l.foldl (put1 ops vs) a0) w:=by
  intro l m vs w hm hp hj
  subst hm
  rw [List.append_nil] at hp
  rw [hp.foldl_eq' (fun x _ y _ z=>put1_comm hd x y z)]
  have:List.range ops.size=List.range' 0 ops.toList.length:=by rw [Array.length_toList,List.range_eq_range']
  rw [this,fold_range vs ops ops.toList 0 a0 (fun j=>by simp)]
  refine hfin vs w ?_
  have e:(fun j=>decide (j<ops.size))=fun j=>decide (j∈l):=by
   funext j
   rw [decide_eq_decide,hp.mem_iff,List.mem_range]
  rw [e]
  exact hj
 have nodup:∀ (l m:List Nat),(l++m).Perm (List.range ops.size)→(l++m).Nodup:=fun l m hp=>hp.nodup_iff.2 List.nodup_range
 have stuck:∀ (l m:List Nat) (listed:Array Bool),(l++m).Perm (List.range ops.size)→(∀ i,i<ops.size→listed.getD i true=decide (i∈l))→listed.size=ops.size→Region.ready .any ops listed=[]→m=[]:=by
  intro l m listed hp hl hs hr
  have all:∀ i,i<ops.size→i∈l:=by
   intro i
   induction i using Nat.strongRecOn with
   | _ i ih=>
    intro hi
    refine Classical.byContradiction fun hn => ?_
    have hmem:i∈Region.ready .any ops listed:=by
     rw [mem_ready]
     refine ⟨by rw [hl i hi];simp [hn],ops[i],by simp [hi],fun e hme hb => ?_⟩
     have hlt:=he i ops[i] (by simp [hi]) e hme hb
     have h1:=ih e.on hlt (by omega)
     have h2:=hl e.on (by omega)
     rw [decide_eq_true h1] at h2
     have h3:e.on<listed.size:=by omega
     simpa [h3] using h2
    rw [hr] at hmem
    cases hmem
  cases m with
  | nil=>rfl
  | cons x m=>
   have hx:x<ops.size:=by
    have:x∈List.range ops.size:=hp.mem_iff.1 (by simp)
    simpa using this
   have h1:=all x hx
   have h2:=nodup l (x::m) hp
   rw [List.nodup_append] at h2
   exact absurd rfl (h2.2.2 x h1 x (by simp))
 intro fuel
 induction fuel with
 | zero=>
  intro listed w l m vs hm hp hl hs hj
  have hm0:=List.eq_nil_of_length_eq_zero hm
  refine ⟨?_,fin l m vs w hm0 hp hj⟩
  rw [List.eq_nil_iff_forall_not_mem]
  intro j hjr
  rw [mem_ready] at hjr
  obtain ⟨h1,o,ho,_⟩:=hjr
  have hlt:=(Array.getElem?_eq_some_iff.1 ho).1
  rw [hl j hlt] at h1
  subst hm0
  rw [List.append_nil] at hp
  exact absurd (hp.mem_iff.2 (by simpa using hlt)) (of_decide_eq_false h1)
 | succ fuel ih=>
  intro listed w l m vs hm hp hl hs hj
  refine ⟨fun hr=>fin l m vs w (stuck l m listed hp hl hs hr) hp hj,fun i hir => ?_⟩
  rw [mem_ready] at hir
  obtain ⟨h1,o,ho,hall⟩:=hir
  have hlt:=(Array.getElem?_eq_some_iff.1 ho).1
  rw [hl i hlt] at h1
  have hil:i ∉ l:=of_decide_eq_false h1
  have him:i∈m:=by
   have:i∈l++m:=hp.mem_iff.2 (by simpa using hlt)
   rw [List.mem_append] at this
   exact this.resolve_left hil
  refine wpOp_step ho (fun K hK=>hst i o ho _ w (fun j=>decide (j∈l)) vs hj ?_ (decide_eq_false hil) ?_ ?_ K (fun v w' hv=>hK _ _ ?_))
  · intro j hja
    rw [Array.any_eq_true'] at hja
    obtain ⟨e,hme,h2⟩:=hja
    simp only [Bool.and_eq_true,beq_iff_eq] at h2
    obtain ⟨hb,rfl⟩:=h2
    have h3:=hall e hme hb
    have hlt2:=he i o ho e hme hb
    have h4:=hl e.on (by omega)
    have h5:e.on<listed.size:=by omega
    have h6:listed.getD e.on true=true:=by simpa [h5] using h3
    rw [h6] at h4
    exact h4.symm
  · intro j oj d hjl hoj hod
    exact fold_get hd (of_decide_eq_true hjl) hoj hod (hsz j oj d hoj hod)
  · intro d hfree
    refine fold_other (fun k p hp2 h2 => ?_) a0
    rw [Array.all_eq_true_iff_forall_mem] at hfree
    have:=hfree p (Array.mem_of_getElem? hp2)
    simp [h2] at this
  · let us:Nat→Value:=fun j=>if j=i then v else vs j
    have hus:∀ j∈l,us j=vs j:=fun j hjl=>by
     show (if j=i then v else vs j)=vs j
     rw [if_neg (fun e=>hil (by rw [←e];exact hjl))]
    have hui:us i=v:=by show (if i=i then v else vs i)=v;rw [if_pos rfl]
    have e1:(l.foldl (put1 ops vs) a0).put o.dst v=(l++[i]).foldl (put1 ops us) a0:=by
     rw [List.foldl_append,fold_congr hus]
     show _=put1 ops us _ i
     unfold put1
     rw [ho,hui]
    rw [e1]
    refine ih (listed.setIfInBounds i true) w' (l++[i]) (m.erase i) us (by rw [List.length_erase_of_mem him];omega) ?_ ?_ (by simpa using hs) ?_
    · rw [List.append_assoc]
      exact (List.Perm.append_left l (List.perm_cons_erase him).symm).trans hp
    · intro j hjn
      by_cases hji:j=i
      · subst hji
        have h5:j<listed.size:=by omega
        simp [h5]
      · have h5:j<listed.size:=by omega
        have:=hl j hjn
        simp only [Array.getD_eq_getD_getElem?] at this ⊢
        rw [Array.getElem?_setIfInBounds_ne (fun e=>hji e.symm),this]
        simp [hji]
    · have e2:(fun j=>decide (j∈l++[i]))=fun j=>decide (j∈l) || j == i:=by
       funext j
       by_cases hji:j=i
       · subst hji;simp
       · simp [hji]
      rw [e2]
      exact hv
theorem wp_region_inv {P:Program} {id:Nat} {l:List Oper} {Q:Exit→Act→World→Prop} {a0:Act} {w0:World} (hm:P.follows .mixedOrders=true) (h1:onceB l=true) (h2:earlyB 0 l=true) (h3:(l.all fun o=>match o.dst with | none=>true | some d=>decide (d<a0.tmps.size))=true)
 (J:(Nat→Bool)→(Nat→Value)→World→Prop) (h0:J (fun _=>false) (fun _=>undef) w0.drew) (hst:ISteps P l.toArray Q J a0 l 0) (hfin:∀ vs w,J (fun j=>decide (j<l.length)) vs w→Q .normal (putL vs l 0 a0) w):(Code.region id l.toArray true).wp P Q a0 w0:=by
 refine wp_region_any hm ?_
 have h:=wpAny_inv (P:=P) (ops:=l.toArray) (Q:=Q) (J:=J) (a0:=a0) (once_of h1) (early_of h2) (fun i o d ho hod=>by
  have:=List.all_eq_true.1 h3 o (List.mem_of_getElem? (by simpa using ho))
  rw [hod] at this
  exact of_decide_eq_true this) (fun i o ho=>by
  have:=isteps_at l 0 hst i o (by simpa using ho)
  rwa [Nat.zero_add] at this) (fun vs w hj=>hfin vs w (by simpa using hj))
  l.toArray.size (Array.replicate l.toArray.size false) w0.drew [] (List.range l.toArray.size) (fun _=>undef) (by simp) (by simp) (fun i hi=>by simp at hi;simp [hi]) (by simp) (by simpa using h0)
 exact h
end Go.Proofs
