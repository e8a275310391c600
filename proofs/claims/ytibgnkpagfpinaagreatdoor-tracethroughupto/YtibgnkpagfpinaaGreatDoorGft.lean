/-
  A region that draws its order, whose operations lay blocks: as text Gm, and the blocks that named operations lay are apart from one another.
-/
import Derived.Test.YtibgnkpagfpinaaGreatDoorGmt
namespace Go.Proofs
open Go.RowKit
def blkOf:Value→Nat
 | .slice (some a) _ _=>a.block
 | _=>0
def XStep (P:Program) (ops:Array Oper) (Q:Exit→Act→World→Prop) (I:Nat→(Nat→Value)→World→Prop) (mk:Nat→Bool) (a0:Act) (w0:World) (i:Nat) (o:Oper):Prop:=
 ∀ (a:Act) (w:World) (vs:Nat→Value),Ext w0 w→(∀ j,depB o j=true→I j vs w)→(∀ (j:Nat) (oj:Oper) (d:Tmp),depB o j=true→ops[j]? = some oj→oj.dst=some d→a.tmps.getD d undef=vs j)→(∀ d,(ops.all fun p => !decide (p.dst=some d))=true→a.tmps.getD d undef=a0.tmps.getD d undef) →
  ∀ K:Act→World→Prop,(∀ v w',Ext w w'→I i (fun j=>if j=i then v else vs j) w'→(mk i=true→w.heap.size≤blkOf v∧blkOf v<w'.heap.size)→K (a.put o.dst v) w')→if Region.wanted o (yielded ops a.tmps)=true then Oper.wp P o a w K Q else K (a.put o.dst undef) w
def XSteps (P:Program) (ops:Array Oper) (Q:Exit→Act→World→Prop) (I:Nat→(Nat→Value)→World→Prop) (mk:Nat→Bool) (a0:Act) (w0:World):List Oper→Nat→Prop
 | [],_=>True
 | o::l,k=>XStep P ops Q I mk a0 w0 k o∧XSteps P ops Q I mk a0 w0 l (k+1)
def FJ (all:List Oper) (I:Nat→(Nat→Value)→World→Prop) (mk:Nat→Bool) (w0:World) (p:Nat→Bool) (vs:Nat→Value) (w:World):Prop:=
 (Ext w0 w∧∀ (i:Nat) (o:Oper),all[i]? = some o→p i=true→I i vs w∧∀ j,depB o j=true→p j=true)∧(∀ i,i<all.length→p i=true→mk i=true→blkOf (vs i)<w.heap.size)∧∀ i j,i<all.length→j<all.length→p i=true→p j=true→i≠j→mk i=true→mk j=true→blkOf (vs i)≠blkOf (vs j)
theorem xsteps_inv {P:Program} {all:List Oper} {Q:Exit→Act→World→Prop} {I:Nat→(Nat→Value)→World→Prop} {mk:Nat→Bool} {a0:Act} {w0:World} (hI:∀ i vs w w',I i vs w→Ext w w'→I i vs w') (hV:∀ i o vs us w,all[i]? = some o→(∀ j,j=i∨depB o j=true→us j=vs j)→I i vs w→I i us w) (hE:∀ (i:Nat) (o:Oper),all[i]? = some o→∀ j,depB o j=true→j<i) :
 ∀ (m:List Oper) (k:Nat),(∀ j,m[j]? = all[k+j]?)→XSteps P all.toArray Q I mk a0 w0 m k→ISteps P all.toArray Q (FJ all I mk w0) a0 m k
 | [],_,_,_=>trivial
 | x::m,k,hm,hs=>by
  refine ⟨?_,xsteps_inv hI hV hE m (k+1) (fun j=>by have:=hm (j+1);rw [List.getElem?_cons_succ] at this;rw [this];congr 1;omega) hs.2⟩
  have hx:all[k]? = some x:=by simpa using (hm 0).symm
  intro a w p vs ⟨⟨hw,hi⟩,h2,h3⟩ hdep hpi hval hfr K hK
  have hlen:k<all.length:=(List.getElem?_eq_some_iff.1 hx).1
  refine hs.1 a w vs hw (fun j hj => ?_) (fun j oj d hj hoj hod=>hval j oj d (hdep j hj) hoj hod) hfr K (fun v w' hww hv hmk=>hK v w' ⟨⟨hw.trans hww,fun i o ho hip => ?_⟩,fun i hil hip hmi => ?_,fun i j hil hjl hip hjp hij hmi hmj => ?_⟩)
  · have hjk:=hE k x hx j hj
    have hjl:j<all.length:=by omega
    exact (hi j all[j] (List.getElem?_eq_getElem hjl) (hdep j hj)).1
  · by_cases e:i=k
    · subst e
      rw [hx] at ho
      cases ho
      exact ⟨hv,fun j hj=>by simp [hdep j hj]⟩
    · have hip':p i=true:=by simpa [e] using hip
      obtain ⟨h4,h5⟩:=hi i o ho hip'
      refine ⟨hI i _ _ _ (hV i o vs _ w ho (fun j hj => ?_) h4) hww,fun j hj=>by simp [h5 j hj]⟩
      have hne:j≠k:=by
       rcases hj with rfl | hj
       · exact e
       · intro e2
         have:=h5 j hj
         rw [e2,hpi] at this
         cases this
      show (if j=k then v else vs j)=vs j
      rw [if_neg hne]
  · show blkOf (if i=k then v else vs i)<w'.heap.size
    by_cases e:i=k
    · subst e;rw [if_pos rfl];exact (hmk hmi).2
    · rw [if_neg e]
      exact Nat.lt_of_lt_of_le (h2 i hil (by simpa [e] using hip) hmi) hww.size
  · show blkOf (if i=k then v else vs i)≠blkOf (if j=k then v else vs j)
    by_cases e:i=k
    · subst e
      rw [if_pos rfl,if_neg (fun h=>hij h.symm)]
      have:=h2 j hjl (by simpa [show j≠i from fun h=>hij h.symm] using hjp) hmj
      have:=(hmk hmi).1
      omega
    · rw [if_neg e]
      by_cases e2:j=k
      · subst e2
        rw [if_pos rfl]
        have:=h2 i hil (by simpa [e] using hip) hmi
        have:=(hmk hmj).1
        omega
      · rw [if_neg e2]
        exact h3 i j hil hjl (by simpa [e] using hip) (by simpa [e2] using hjp) hij hmi hmj
theorem wp_region_fresh {P:Program} {id:Nat} {all:List Oper} {Q:Exit→Act→World→Prop} {a0:Act} {w0:World} (hm:P.follows .mixedOrders=true) (h1:onceB all=true) (h2:earlyB 0 all=true) (h3:(all.all fun o=>match o.dst with | none=>true | some d=>decide (d<a0.tmps.size))=true)
 (I:Nat→(Nat→Value)→World→Prop) (mk:Nat→Bool) (hI:∀ i vs w w',I i vs w→Ext w w'→I i vs w') (hV:∀ i o vs us w,all[i]? = some o→(∀ j,j=i∨depB o j=true→us j=vs j)→I i vs w→I i us w)
 (hst:XSteps P all.toArray Q I mk a0 w0 all 0) (hfin:∀ vs w,Ext w0 w→(∀ i,i<all.length→I i vs w)→(∀ i j,i<all.length→j<all.length→i≠j→mk i=true→mk j=true→blkOf (vs i)≠blkOf (vs j))→Q .normal (putL vs all 0 a0) w):(Code.region id all.toArray true).wp P Q a0 w0:=by
 have hE:∀ (i:Nat) (o:Oper),all[i]? = some o→∀ j,depB o j=true→j<i:=fun i o ho j hj=>by
  unfold depB at hj
  rw [Array.any_eq_true'] at hj
  obtain ⟨e,hme,h⟩:=hj
  simp only [Bool.and_eq_true,beq_iff_eq] at h
  have:=early_of h2 i o (by simpa using ho) e hme h.1
  omega
 have h0:FJ all I mk w0 (fun _=>false) (fun _=>undef) w0.drew:=by
  unfold FJ
  refine ⟨⟨⟨rfl,rfl,rfl,Nat.le_refl _,fun _ _=>rfl⟩,?_⟩,?_,?_⟩
  · intro _ _ _ h;cases h
  · intro _ _ h;cases h
  · intro _ _ _ _ h;cases h
 refine wp_region_inv hm h1 h2 h3 (FJ all I mk w0) h0 (xsteps_inv hI hV hE all 0 (fun j=>by simp) hst) ?_
 intro vs w ⟨⟨hw,hi⟩,_,hd⟩
 exact hfin vs w hw (fun i hil=>(hi i all[i] (List.getElem?_eq_getElem hil) (by simp [hil])).1) (fun i j hil hjl hij hmi hmj=>hd i j hil hjl (by simp [hil]) (by simp [hjl]) hij hmi hmj)
end Go.Proofs
