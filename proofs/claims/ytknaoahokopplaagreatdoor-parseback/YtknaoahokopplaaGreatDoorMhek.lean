/-
  Several texts in one (Ggk X4k).
-/
import Derived.RangeFuncNested
import Derived.RangeFuncBound
import Derived.RangeFuncCalls
import Derived.RangeFuncLeaves
import Derived.Shelf.Abstract
import Derived.Shelf.RegionOpen
import Derived.WalkKit
import Derived.WalkSpells
import Derived.WalkLawsBesides
import Derived.OwnWalkIn
import Derived.TacticsInMore
import Derived.LoopNIn
import Derived.LoopIn
import Derived.BigQuiet
import Derived.RegionIn
import Derived.Deep.QuietTactic
import Derived.Deep.RegionWith
import Derived.Lib.OthersKept
import Derived.Maps.AppendAt
import Derived.Lib.SmallJoins
import Derived.Shelf.SlSortCmp.QuietGrown
import Derived.RangeFuncWrites
import Derived.RangeFuncBox
import Derived.Maps.OwnIn
import Derived.Deep.DrawnRows
import Derived.Test.YtknaoahokopplaaGreatDoorMhdk
namespace Go.Proofs
open Go.RowKit Go.Shelf
set_option maxRecDepth 100000
attribute [local go_sem] Oper.semAt_some
attribute [local go_sem ↓] Go.wp_at_zero Go.wp_at_succ
def GStep (P:Program) (ops:Array Oper) (Q:Exit→Act→World→Prop) (I:Nat→Value→World→Prop) (a0:Act) (w0:World) (i:Nat) (o:Oper):Prop:=
 ∀ (a:Act) (w:World),Ext w0 w→(∀ j,(o.after.any fun e=>Region.binds .any e && e.on == j)=true→∀ (oj:Oper) (d:Tmp),ops[j]? = some oj→oj.dst=some d→I j (a.tmps.getD d undef) w)→(∀ d,(ops.all fun p => !decide (p.dst=some d))=true→a.tmps.getD d undef=a0.tmps.getD d undef) →
  ∀ K:Act→World→Prop,(∀ v w',Ext w w'→I i v w'→K (a.put o.dst v) w')→if Region.wanted o (yielded ops a.tmps)=true then Oper.wp P o a w K Q else K (a.put o.dst undef) w
def GSteps (P:Program) (ops:Array Oper) (Q:Exit→Act→World→Prop) (I:Nat→Value→World→Prop) (a0:Act) (w0:World):List Oper→Nat→Prop
 | [],_=>True
 | o::l,k=>GStep P ops Q I a0 w0 k o∧GSteps P ops Q I a0 w0 l (k+1)
theorem gsteps_at {P:Program} {ops:Array Oper} {Q:Exit→Act→World→Prop} {I:Nat→Value→World→Prop} {a0:Act} {w0:World} : ∀ (l:List Oper) (k:Nat),GSteps P ops Q I a0 w0 l k→∀ (i:Nat) (o:Oper),l[i]? = some o→GStep P ops Q I a0 w0 (k+i) o
 | [],_,_,i,o,h=>by simp at h
 | x::l,k,hs,i,o,h=>by
  cases i with
  | zero=>simp at h;subst h;exact hs.1
  | succ i=>
   have:=gsteps_at l (k+1) hs.2 i o (by simpa using h)
   rwa [show k+1+i=k+(i+1) by omega] at this
theorem wpAny_grows {P:Program} {ops:Array Oper} {Q:Exit→Act→World→Prop} {I:Nat→Value→World→Prop} {a0:Act} {w0:World} (hd:Once ops) (he:Early ops) (hsz:∀ (i:Nat) (o:Oper) (d:Tmp),ops[i]? = some o→o.dst=some d→d<a0.tmps.size) (hI:∀ i v w w',I i v w→Ext w w'→I i v w')
 (hst:∀ (i:Nat) (o:Oper),ops[i]? = some o→GStep P ops Q I a0 w0 i o) (hfin:∀ vs w,Ext w0 w→(∀ i,i<ops.size→I i (vs i) w)→Q .normal (putL vs ops.toList 0 a0) w) :
 ∀ (fuel:Nat) (listed:Array Bool) (w:World) (l m:List Nat) (vs:Nat→Value),m.length=fuel→(l++m).Perm (List.range ops.size)→(∀ i,i<ops.size→listed.getD i true=decide (i∈l))→listed.size=ops.size→Ext w0 w→(∀ i∈l,I i (vs i) w) →
  wpAny P .any ops Q fuel listed (l.foldl (put1 ops vs) a0) w:=by
 have fin:∀ (l m:List Nat) (vs:Nat→Value) (w:World),m=[]→(l++m).Perm (List.range ops.size)→Ext w0 w→(∀ i∈l,I i (vs i) w)→Q .normal (l.foldl (put1 ops vs) a0) w:=by
  intro l m vs w hm hp hw hl
  subst hm
  rw [List.append_nil] at hp
  rw [hp.foldl_eq' (fun x _ y _ z=>put1_comm hd x y z)]
  have:List.range ops.size=List.range' 0 ops.toList.length:=by rw [Array.length_toList,List.range_eq_range']
  rw [this,fold_range vs ops ops.toList 0 a0 (fun j=>by simp)]
  exact hfin vs w hw (fun i hi=>hl i (hp.mem_iff.2 (by simpa using hi)))
 have nodup:∀ (l m:List Nat),(l++m).Perm (List.range ops.size)→(l++m).Nodup:=fun l m hp=>hp.nodup_iff.2 List.nodup_range
 have stuck:∀ (l m:List Nat) (listed:Array Bool),(l++m).Perm (List.range ops.size)→(∀ i,i<ops.size→listed.getD i true=decide (i∈l))→listed.size=ops.size→Region.ready .any ops listed=[]→m=[]:=by
  intro l m listed hp hl hs hr
  have all:∀ i,i<ops.size→i∈l:=by
   intro i
   induction i using Nat.strongRecOn with
   | _ i ih=>
    intro hi
    refine Classical.byContradiction fun hn => ?_
    have hmem:i∈Region.ready .any ops listed:=by
     rw [mem_ready]
     refine ⟨by rw [hl i hi];simp [hn],ops[i],by simp [hi],fun e hme hb => ?_⟩
     have hlt:=he i ops[i] (by simp [hi]) e hme hb
     have h1:=ih e.on hlt (by omega)
     have h2:=hl e.on (by omega)
     rw [decide_eq_true h1] at h2
     have h3:e.on<listed.size:=by omega
     simpa [h3] using h2
    rw [hr] at hmem
    cases hmem
  cases m with
  | nil=>rfl
  | cons x m=>
   have hx:x<ops.size:=by
    have:x∈List.range ops.size:=hp.mem_iff.1 (by simp)
    simpa using this
   have h1:=all x hx
   have h2:=nodup l (x::m) hp
   rw [List.nodup_append] at h2
   exact absurd rfl (h2.2.2 x h1 x (by simp))
 intro fuel
 induction fuel with
 | zero=>
  intro listed w l m vs hm hp hl hs hw hi
  have hm0:=List.eq_nil_of_length_eq_zero hm
  refine ⟨?_,fin l m vs w hm0 hp hw hi⟩
  rw [List.eq_nil_iff_forall_not_mem]
  intro j hj
  rw [mem_ready] at hj
  obtain ⟨h1,o,ho,_⟩:=hj
  have hlt:=(Array.getElem?_eq_some_iff.1 ho).1
  rw [hl j hlt] at h1
  subst hm0
  rw [List.append_nil] at hp
  exact absurd (hp.mem_iff.2 (by simpa using hlt)) (of_decide_eq_false h1)
 | succ fuel ih=>
  intro listed w l m vs hm hp hl hs hw hi
  refine ⟨fun hr=>fin l m vs w (stuck l m listed hp hl hs hr) hp hw hi,fun i hir => ?_⟩
  rw [mem_ready] at hir
  obtain ⟨h1,o,ho,hall⟩:=hir
  have hlt:=(Array.getElem?_eq_some_iff.1 ho).1
  rw [hl i hlt] at h1
  have hil:i ∉ l:=of_decide_eq_false h1
  have him:i∈m:=by
   have:i∈l++m:=hp.mem_iff.2 (by simpa using hlt)
   rw [List.mem_append] at this
   exact this.resolve_left hil
  refine wpOp_step ho (fun K hK=>hst i o ho _ w hw ?_ ?_ K (fun v w' hww hv=>hK _ _ ?_))
  · intro j hj oj d hoj hod
    have hjl:j∈l:=by
     rw [Array.any_eq_true'] at hj
     obtain ⟨e,hme,h2⟩:=hj
     simp only [Bool.and_eq_true,beq_iff_eq] at h2
     obtain ⟨hb,rfl⟩:=h2
     have h3:=hall e hme hb
     have hjlt:=(Array.getElem?_eq_some_iff.1 hoj).1
     have h4:=hl e.on hjlt
     have h5:e.on<listed.size:=by omega
     have h6:listed.getD e.on true=true:=by simpa [h5] using h3
     rw [h6] at h4
     exact of_decide_eq_true h4.symm
    rw [fold_get hd hjl hoj hod (hsz j oj d hoj hod)]
    exact hi j hjl
  · intro d hfree
    refine fold_other (fun k p hp2 h2 => ?_) a0
    rw [Array.all_eq_true_iff_forall_mem] at hfree
    have:=hfree p (Array.mem_of_getElem? hp2)
    simp [h2] at this
  · let us:Nat→Value:=fun j=>if j=i then v else vs j
    have hus:∀ j∈l,us j=vs j:=fun j hj=>by
     show (if j=i then v else vs j)=vs j
     rw [if_neg (fun e=>hil (by rw [←e];exact hj))]
    have hui:us i=v:=by show (if i=i then v else vs i)=v;rw [if_pos rfl]
    have e1:(l.foldl (put1 ops vs) a0).put o.dst v=(l++[i]).foldl (put1 ops us) a0:=by
     rw [List.foldl_append,fold_congr hus]
     show _=put1 ops us _ i
     unfold put1
     rw [ho,hui]
    rw [e1]
    refine ih (listed.setIfInBounds i true) w' (l++[i]) (m.erase i) us (by rw [List.length_erase_of_mem him];omega) ?_ ?_ (by simpa using hs) (hw.trans hww) ?_
    · rw [List.append_assoc]
      exact (List.Perm.append_left l (List.perm_cons_erase him).symm).trans hp
    · intro j hj
      by_cases hji:j=i
      · subst hji
        have h5:j<listed.size:=by omega
        simp [h5]
      · have h5:j<listed.size:=by omega
        have:=hl j hj
        simp only [Array.getD_eq_getD_getElem?] at this ⊢
        rw [Array.getElem?_setIfInBounds_ne (fun e=>hji e.symm),this]
        simp [hji]
    · intro j hj
      rw [List.mem_append] at hj
      rcases hj with hj | hj
      · rw [hus j hj]
        exact hI j _ _ _ (hi j hj) hww
      · obtain rfl:j=i:=by simpa using hj
        rw [hui]
        exact hv
theorem wp_region_grows {P:Program} {id:Nat} {l:List Oper} {Q:Exit→Act→World→Prop} {a0:Act} {w0:World} (hm:P.follows .mixedOrders=true) (h1:onceB l=true) (h2:earlyB 0 l=true) (h3:(l.all fun o=>match o.dst with | none=>true | some d=>decide (d<a0.tmps.size))=true)
 (I:Nat→Value→World→Prop) (hI:∀ i v w w',I i v w→Ext w w'→I i v w') (hst:GSteps P l.toArray Q I a0 w0 l 0) (hfin:∀ vs w,Ext w0 w→(∀ i,i<l.length→I i (vs i) w)→Q .normal (putL vs l 0 a0) w):(Code.region id l.toArray true).wp P Q a0 w0:=by
 refine wp_region_any hm ?_
 have h:=wpAny_grows (P:=P) (ops:=l.toArray) (Q:=Q) (I:=I) (a0:=a0) (w0:=w0) (once_of h1) (early_of h2) (fun i o d ho hod=>by
  have:=List.all_eq_true.1 h3 o (List.mem_of_getElem? (by simpa using ho))
  rw [hod] at this
  exact of_decide_eq_true this) hI (fun i o ho=>by
  have:=gsteps_at l 0 hst i o (by simpa using ho)
  rwa [Nat.zero_add] at this) (fun vs w hw hi=>hfin vs w hw (fun i hl=>hi i (by simpa using hl)))
  l.toArray.size (Array.replicate l.toArray.size false) { w0 with drawn:=w0.drawn+1 } [] (List.range l.toArray.size) (fun _=>undef) (by simp) (by simp) (fun i hi=>by simp at hi;simp [hi]) (by simp) ⟨rfl,rfl,rfl,Nat.le_refl _,fun _ _=>rfl⟩ (by simp)
 exact h
end Go.Proofs
namespace Go.Proofs
open Go.RowKit Go.Shelf
set_option maxRecDepth 100000
attribute [local go_sem] Oper.semAt_some
theorem putL_congr {vs us:Nat→Value} : ∀ (l:List Oper) (k:Nat) (a:Act),(∀ i,i<l.length→vs (k+i)=us (k+i))→putL vs l k a=putL us l k a
 | [],_,_,_=>rfl
 | o::l,k,a,h=>by
  show putL vs l (k+1) (a.put o.dst (vs k))=putL us l (k+1) (a.put o.dst (us k))
  rw [show vs k=us k from h 0 (Nat.zero_lt_succ _)]
  exact putL_congr l (k+1) _ (fun i hi=>by have:=h (i+1) (Nat.succ_lt_succ hi);rwa [show k+(i+1)=k+1+i by omega] at this)
theorem wp_region_vals {P:Program} {id:Nat} {l:List Oper} {Q:Exit→Act→World→Prop} {a0:Act} {w0:World} (hm:P.follows .mixedOrders=true) (h1:onceB l=true) (h2:earlyB 0 l=true) (h3:(l.all fun o=>match o.dst with | none=>true | some d=>decide (d<a0.tmps.size))=true)
 (L:List Value) (hst:GSteps P l.toArray Q (fun i v _=>v=L.getD i undef) a0 w0 l 0) (hfin:∀ w,Ext w0 w→Q .normal (putL (fun i=>L.getD i undef) l 0 a0) w):(Code.region id l.toArray true).wp P Q a0 w0:=by
 refine wp_region_grows hm h1 h2 h3 _ (fun _ _ _ _ h _=>h) hst (fun vs w hE hi => ?_)
 rw [putL_congr (us:=fun i=>L.getD i undef) l 0 a0 (fun i hl=>by rw [Nat.zero_add];exact hi i hl)]
 exact hfin w hE
set_option maxHeartbeats 8000000 in
theorem itemText_8 (u:Int) (t:ByteArray) (g z n c:Nat) (lo hi:Int) (nt:Bool) (key:Int) (w:World) (m1:MI) (C P:ByteArray) (hn:1≤n) (hn2:n≤1000000) (hC:C.size≤100) (hP:P.size≤1000000000)
 (hpart:∀ i v,(mi1 m1)[i]? = some v→w.cell? ⟨g,z+i,none⟩=some v)
 (h118:∀ W,Below w.heap.size w W→Calls Tryz.prog 118 #[mia ⟨8,u,t,some ⟨g,z,none⟩,n,c,lo,hi,nt,key⟩] W fun x w'=>x = .returned (.string C)∧Below W.heap.size W w')
 (h69:∀ W,Below w.heap.size w W→Calls Tryz.prog 69 #[mia m1] W fun x w'=>x = .returned (.string P)∧Below W.heap.size W w') :
 Calls Tryz.prog 69 #[mia ⟨8,u,t,some ⟨g,z,none⟩,n,c,lo,hi,nt,key⟩] w (ItX w (C++⟨#[58]⟩++P)):=by
 have hs:signB 22=⟨#[58]⟩:=by decide +kernel
 have H68:Hid (∀ W,Calls Tryz.prog 68 #[.int .i64 22] W fun e w'=>e = .returned (.string ⟨#[58]⟩)∧Below W.heap.size W w'):=fun W=>by
  rw [←hs]
  refine (signK_any 22 W).mono ?_
  rintro e w' ⟨rfl,rfl⟩
  exact ⟨rfl,Below.refl _ _⟩
 have H:Hid (∀ i v,(mi1 m1)[i]? = some v→w.cell? ⟨g,z+i,none⟩=some v):=hpart
 have H118:Hid (∀ W,Below w.heap.size w W→Calls Tryz.prog 118 #[mia ⟨8,u,t,some ⟨g,z,none⟩,n,c,lo,hi,nt,key⟩] W fun x w'=>x = .returned (.string C)∧Below W.heap.size W w'):=h118
 have H69:Hid (∀ W,Below w.heap.size w W→Calls Tryz.prog 69 #[mia m1] W fun x w'=>x = .returned (.string P)∧Below W.heap.size W w'):=h69
 have hx1:(C++⟨#[58]⟩:ByteArray).size=C.size+1:=by rw [ByteArray.size_append];rfl
 have hx2:(C++⟨#[58]⟩++P:ByteArray).size=C.size+1+P.size:=by rw [ByteArray.size_append,hx1]
 have hnn:(1:Int)≤(n:Int):=by omega
 have hn0:(0:Int)<(n:Int):=by omega
 have HB0:Hid (Below w.heap.size w (w.alloc (.cells (mi1 ⟨8,u,t,some ⟨g,z,none⟩,n,c,lo,hi,nt,key⟩).toArray 58))):=(Below.refl _ w).alloc (Nat.le_refl _) _
 have HI0:Hid (IB (w.alloc (.cells (mi1 ⟨8,u,t,some ⟨g,z,none⟩,n,c,lo,hi,nt,key⟩).toArray 58)) w.heap.size ⟨8,u,t,some ⟨g,z,none⟩,n,c,lo,hi,nt,key⟩):=IB.new _ _
 clear hpart h118 h69 hs
 go_enter Tryz.func69,Tryz.ntmps69
 go_upto_region 15 with fail
 rename_i Kx hKx
 have HE:Hid (∀ wx,Ext (w.alloc (.cells (mi1 ⟨8,u,t,some ⟨g,z,none⟩,n,c,lo,hi,nt,key⟩).toArray 58)) wx→Below w.heap.size w wx):=fun wx hE=>HB0.out.trans (hE.mono (by simp))
 refine wp_region_vals (by kernel_rfl) (by kernel_rfl) (by kernel_rfl) (by kernel_rfl) [mia ⟨8,u,t,some ⟨g,z,none⟩,n,c,lo,hi,nt,key⟩,.string C,.string ⟨#[58]⟩,.string (C++⟨#[58]⟩),.pointer (some ⟨w.heap.size,3,none⟩),.slice (some ⟨g,z,none⟩) n c,.pointer (some ⟨g,z,none⟩),mia m1,.string P,.string (C++⟨#[58]⟩++P),.string (C++⟨#[58]⟩++P)] ⟨?_,?_,?_,?_,?_,?_,?_,?_,?_,?_,?_,trivial⟩ ?_
 · as_aux_lemma=>
    intro A wx hE hd hfr K hK
    have f0:A.tmps.getD 1 undef = .pointer (some ⟨w.heap.size,0,none⟩):=hfr 1 (by kernel_rfl)
    obtain ⟨c0,c1,c2,c3,c4,c5,c6,c7⟩:=(HI0.out.same (hE.block _ HI0.out.lt)).cells
    simp only [Array.getD_eq_getD_getElem?] at f0
    have hK1:=hK (mia ⟨8,u,t,some ⟨g,z,none⟩,n,c,lo,hi,nt,key⟩) wx (Below.refl _ _) rfl
    clear hfr hd hE hK
    go_simp
    exact hK1
 · as_aux_lemma=>
    intro A wx hE hd hfr K hK
    have d0:A.tmps.getD 41 undef=mia ⟨8,u,t,some ⟨g,z,none⟩,n,c,lo,hi,nt,key⟩:=hd 0 (by kernel_rfl) _ _ (by rfl) rfl
    have hCall:=H118.out wx (HE.out wx hE)
    simp only [Array.getD_eq_getD_getElem?] at d0
    clear hfr hd hE
    go_simp
    refine hCall.mono ?_
    rintro e w' ⟨rfl,hg⟩
    exact hK _ _ hg rfl
 · as_aux_lemma=>
    intro A wx hE hd hfr K hK
    have hCall:=H68.out wx
    clear hfr hd hE
    go_simp
    refine hCall.mono ?_
    rintro e w' ⟨rfl,hg⟩
    exact hK _ _ hg rfl
 · as_aux_lemma=>
    intro A wx hE hd hfr K hK
    have d0:A.tmps.getD 42 undef = .string C:=hd 1 (by kernel_rfl) _ _ (by rfl) rfl
    have d1:A.tmps.getD 43 undef = .string ⟨#[58]⟩:=hd 2 (by kernel_rfl) _ _ (by rfl) rfl
    simp only [Array.getD_eq_getD_getElem?] at d0 d1
    have hK1:=hK (.string (C++⟨#[58]⟩)) wx (Below.refl _ _) rfl
    clear hfr hd hE hK
    go_simp
    rw [if_neg (by omega)];exact hK1
 · as_aux_lemma=>
    intro A wx hE hd hfr K hK
    have f0:A.tmps.getD 1 undef = .pointer (some ⟨w.heap.size,0,none⟩):=hfr 1 (by kernel_rfl)
    simp only [Array.getD_eq_getD_getElem?] at f0
    have hK1:=hK (.pointer (some ⟨w.heap.size,3,none⟩)) wx (Below.refl _ _) rfl
    clear hfr hd hE hK
    go_simp
    exact hK1
 · as_aux_lemma=>
    intro A wx hE hd hfr K hK
    have d0:A.tmps.getD 45 undef = .pointer (some ⟨w.heap.size,3,none⟩):=hd 4 (by kernel_rfl) _ _ (by rfl) rfl
    obtain ⟨c0,c1,c2,c3,c4,c5,c6,c7⟩:=(HI0.out.same (hE.block _ HI0.out.lt)).cells
    simp only [Array.getD_eq_getD_getElem?] at d0
    have hK1:=hK (.slice (some ⟨g,z,none⟩) n c) wx (Below.refl _ _) rfl
    clear hfr hd hE hK
    go_simp
    exact hK1
 · as_aux_lemma=>
    intro A wx hE hd hfr K hK
    have d0:A.tmps.getD 46 undef = .slice (some ⟨g,z,none⟩) n c:=hd 5 (by kernel_rfl) _ _ (by rfl) rfl
    simp only [Array.getD_eq_getD_getElem?] at d0
    have hK1:=hK (.pointer (some ⟨g,z,none⟩)) wx (Below.refl _ _) rfl
    clear hfr hd hE hK
    go_simp
    rw [if_pos (by omega)];exact hK1
 · as_aux_lemma=>
    intro A wx hE hd hfr K hK
    have d0:A.tmps.getD 47 undef = .pointer (some ⟨g,z,none⟩):=hd 6 (by kernel_rfl) _ _ (by rfl) rfl
    have ck:=ck_below (HE.out wx hE)
    have q0:=ck _ _ (H.out 0 _ rfl)
    have q1:=ck _ _ (H.out 1 _ rfl)
    have q2:=ck _ _ (H.out 2 _ rfl)
    have q3:=ck _ _ (H.out 3 _ rfl)
    have q4:=ck _ _ (H.out 4 _ rfl)
    have q5:=ck _ _ (H.out 5 _ rfl)
    have q6:=ck _ _ (H.out 6 _ rfl)
    have q7:=ck _ _ (H.out 7 _ rfl)
    simp only [Nat.add_zero] at q0
    clear ck
    simp only [Array.getD_eq_getD_getElem?] at d0
    have hK1:=hK (mia m1) wx (Below.refl _ _) rfl
    clear hfr hd hE hK
    go_simp
    exact hK1
 · as_aux_lemma=>
    intro A wx hE hd hfr K hK
    have d0:A.tmps.getD 48 undef=mia m1:=hd 7 (by kernel_rfl) _ _ (by rfl) rfl
    have hCall:=H69.out wx (HE.out wx hE)
    simp only [Array.getD_eq_getD_getElem?] at d0
    clear hfr hd hE
    go_simp
    refine hCall.mono ?_
    rintro e w' ⟨rfl,hg⟩
    exact hK _ _ hg rfl
 · as_aux_lemma=>
    intro A wx hE hd hfr K hK
    have d0:A.tmps.getD 44 undef = .string (C++⟨#[58]⟩):=hd 3 (by kernel_rfl) _ _ (by rfl) rfl
    have d1:A.tmps.getD 49 undef = .string P:=hd 8 (by kernel_rfl) _ _ (by rfl) rfl
    simp only [Array.getD_eq_getD_getElem?] at d0 d1
    have hK1:=hK (.string (C++⟨#[58]⟩++P)) wx (Below.refl _ _) rfl
    clear hfr hd hE hK
    go_simp
    rw [if_neg (by omega)];exact hK1
 · as_aux_lemma=>
    intro A wx hE hd hfr K hK
    have d0:A.tmps.getD 50 undef = .string (C++⟨#[58]⟩++P):=hd 9 (by kernel_rfl) _ _ (by rfl) rfl
    simp only [Array.getD_eq_getD_getElem?] at d0
    have hK1:=hK (.string (C++⟨#[58]⟩++P)) wx (Below.refl _ _) rfl
    clear hfr hd hE hK
    go_simp
    exact hK1
 · intro w5 hE
   have HB:Hid (Below w.heap.size w w5):=HE.out w5 hE
   rw [putL_eq]
   simp only [putsL,List.set_cons_zero,List.set_cons_succ,Nat.zero_add,Nat.reduceAdd,List.getD_cons_zero,List.getD_cons_succ]
   clear hE HE HI0 HB0 H H118 H69 H68
   refine hKx _ _ ?_
   clear hKx
   go_wp2
   go_ret
   exact ⟨rfl,HB.out⟩
end Go.Proofs
