/-
  Several texts in one (Z3p Z4p).
-/
import Derived.Test.YtknaoahokopplaaGreatDoorZ2p
import Derived.RangeFuncNested
import Derived.RangeFuncBound
import Derived.RangeFuncCalls
import Derived.RangeFuncLeaves
import Derived.Shelf.Abstract
import Derived.Shelf.RegionOpen
import Derived.WalkKit
import Derived.WalkSpells
import Derived.WalkLawsBesides
import Derived.OwnWalkIn
import Derived.TacticsInMore
import Derived.LoopNIn
import Derived.LoopIn
import Derived.BigQuiet
import Derived.RegionIn
import Derived.Deep.QuietTactic
import Derived.Deep.RegionWith
import Derived.Lib.OthersKept
import Derived.Maps.AppendAt
import Derived.Lib.SmallJoins
import Derived.Shelf.SlSortCmp.QuietGrown
import Derived.RangeFuncWrites
import Derived.RangeFuncBox
import Derived.Maps.OwnIn
import Derived.Deep.DrawnRows
import Derived.Test.YtknaoahokopplaaGreatDoorMgop
namespace Go.Proofs
open Go.RowKit Go.Shelf
set_option maxRecDepth 100000
attribute [local go_sem] Oper.semAt_some
theorem SameA.refl (l:Ln):SameA true l l:=⟨rfl,fun _=>rfl⟩
theorem All2.same {α:Type} {R:α→α→Prop} (h:∀ a,R a a):∀ l:List α,All2 R l l
 | []=>trivial
 | a::l=>⟨h a,All2.same h l⟩
theorem LentQ.rd {d:Nat} {W W':World} {n:Nat} {ms:List ML} {ls:List Ln} (hl:ms.length=n) (hb:BlkG ml1 10 44 W' W.heap.size (n+1) ms) (hA:All2 (LnK d (vw (oX W) W')) ms ls):RdLz d W' (some ⟨W.heap.size,0,none⟩) n ls:=
 ⟨ms,hl.symm,.inr ⟨W.heap.size,0,rfl,hb.readsL⟩,hA.mono fun _ _ r=>r.rd.ck (ck_unvw _ _)⟩
set_option maxHeartbeats 4000000 in
theorem still_any (d:Nat) (W W':World) (n:Nat) (A:Option Addr) (c:Nat) (ls:List Ln) (ms:List ML) (hn:n≤1048576) (hl:ms.length=n) (hb:BlkG ml1 10 44 W' W.heap.size (n+1) ms) (hA:All2 (LnK d (vw (oX W) W')) ms ls) (hmk:W'.cell? ⟨W.heap.size,n*10+1,none⟩=some (.int .i64 (-77))) (hI:RdLs d W' A n ls) (hs:∀ l∈ls,SzL d l) :
 Calls Tryz.prog 21 #[.slice (some ⟨W.heap.size,0,none⟩) n (n+1),.slice A n c] W' fun x w2=>x = .returned (.bool true)∧Below W'.heap.size W' w2:=by
 have H15:=Hid.mk2 (lines_any d true W' (some ⟨W.heap.size,0,none⟩) A n n (n+1) c ls ls (by omega) (LentQ.rd hl hb hA).rd hI (All2.same SameA.refl ls))
 have H:Hid (ms.length=n∧BlkG ml1 10 44 W' W.heap.size (n+1) ms∧All2 (LnK d (vw (oX W) W')) ms ls∧ls.length=n∧(∀ l∈ls,SzL d l)∧W'.cell? ⟨W.heap.size,n*10+1,none⟩=some (.int .i64 (-77))):=⟨hl,hb,hA,by rw [←hA.length];exact hl,hs,hmk⟩
 clear hl hb hA hI hs hmk
 go_enter Tryz.func21,Tryz.ntmps21
 go_wp2_with fail
 refine H15.out.mono ?_
 rintro x w1 ⟨rfl,hb1⟩
 have H1:Hid (Below W'.heap.size W' w1):=hb1
 have k1:=ck_below hb1 _ _ H.out.2.2.2.2.2
 clear hb1 H15
 go_wp2
 go_loopw [6] (fun vi wr=>∃ j:Nat,vi = .int .i64 j∧j≤n∧Hid (Below W'.heap.size W' wr)) (fun vi _=>n - (intOf vi).toNat)
 case atStart=>exact ⟨0,rfl,by omega,H1⟩
 case round=>
  obtain ⟨j,rfl,hj,HB⟩:=hrel
  obtain ⟨wo,rfl⟩:∃ wo,wo=wr:=⟨_,rfl⟩
  clear k1
  by_cases hjn:j<n
  · have e1:decide ((j:Int)<(n:Int))=true:=by simpa using hjn
    obtain ⟨m,hm⟩:∃ m,ms[j]? = some m:=⟨ms[j]'(by have:=H.out.1;omega),List.getElem?_eq_getElem _⟩
    obtain ⟨l,hl⟩:∃ l,ls[j]? = some l:=⟨ls[j]'(by have:=H.out.2.2.2.1;omega),List.getElem?_eq_getElem _⟩
    have ck:=ck_below HB.out
    have k5:=ck _ _ (H.out.2.1.cell hm (k:=5) rfl)
    have k6:=ck _ _ (H.out.2.1.cell hm (k:=6) rfl)
    have k7:=ck _ _ (H.out.2.1.cell hm (k:=7) rfl)
    have k8:=ck _ _ (H.out.2.1.cell hm (k:=8) rfl)
    have hK:=((H.out.2.2.1.get hm hl).ck (ck_unvw _ _)).ck ck
    have hS:=H.out.2.2.2.2.1 l (List.mem_of_getElem? hl)
    have hM:∀ (s:SL) (rl:List It),SMk d wo s rl→rl.length≤1048576→(∀ i∈rl,Sz d i)→Calls Tryz.prog 43 #[.slice s.A s.n s.c,.int .i64 4] wo fun x w'=>x = .returned (.bool true)∧w'=wo:=by
     intro s rl hs h1 h2
     obtain ⟨hc,g,ms',e1,e2,e3,e4⟩:=hs
     rw [hc,e1]
     have hsn:s.n≤1048576:=by rw [e2.1,e3.length];exact h1
     rw [e1] at e2
     exact marked_any 4 g s.n d wo ms' rl (by omega) e2 e3 hsn h2 e4
    have HC:=Hid.mk2 (And.intro (hM m.s1 l.ante hK.r1 hS.1.1 hS.2.1) (And.intro (hM m.s2 l.key hK.r2 hS.1.2.1 hS.2.2.1) (And.intro (hM m.s3 l.post hK.r3 hS.1.2.2.1 hS.2.2.2.1) (hM m.s4 l.res hK.r4 hS.1.2.2.2 hS.2.2.2.2))))
    clear hm hl ck hK hS hM
    go_wp2_with fail
    refine HC.out.1.mono ?_
    rintro x w2 ⟨rfl,rfl⟩
    go_wp2_with fail
    refine HC.out.2.1.mono ?_
    rintro x w2 ⟨rfl,rfl⟩
    go_wp2_with fail
    refine HC.out.2.2.1.mono ?_
    rintro x w2 ⟨rfl,rfl⟩
    go_wp2_with fail
    refine HC.out.2.2.2.mono ?_
    rintro x w2 ⟨rfl,rfl⟩
    go_wp2
    exact ⟨⟨j+1,by go_num,by omega,HB⟩,by simp [intOf];omega⟩
  · have e1:decide ((j:Int)<(n:Int))=false:=by simpa using hjn
    go_wp2
    go_ret
    exact ⟨rfl,HB.out⟩
end Go.Proofs
namespace Go.Proofs
open Go.RowKit Go.Shelf
set_option maxRecDepth 100000
attribute [local go_sem] Oper.semAt_some
attribute [local go_sem ↓] Go.wp_at_zero Go.wp_at_succ
def Shut (ops:Array Oper) (l:List Nat):Prop:=∀ k∈l,∀ o,ops[k]? = some o→∀ e∈o.after,Region.binds .any e=true→e.on∈l
def waitsB (ops:Array Oper) (i:Nat):Nat→Nat→Bool
 | 0,_=>false
 | f+1,k=>match ops[k]? with
  | none=>false
  | some o=>o.after.any fun e=>Region.binds .any e && (e.on == i || waitsB ops i f e.on)
def freeB (ops:Array Oper) (i:Nat) (d:Tmp):Bool:=(List.range ops.size).all fun k=>match ops[k]? with
 | none=>true
 | some p => !decide (p.dst=some d) || waitsB ops i 40 k
theorem waitsB_mem {ops:Array Oper} {l:List Nat} (hc:Shut ops l) (i:Nat):∀ (f k:Nat),k∈l→waitsB ops i f k=true→i∈l
 | 0,_,_,h=>by cases h
 | f+1,k,hk,h=>by
  unfold waitsB at h
  split at h
  · cases h
  · rename_i o ho
    rw [Array.any_eq_true'] at h
    obtain ⟨e,hme,h2⟩:=h
    simp only [Bool.and_eq_true,Bool.or_eq_true,beq_iff_eq] at h2
    have:=hc k hk o ho e hme h2.1
    rcases h2.2 with rfl | h3
    · exact this
    · exact waitsB_mem hc i f e.on this h3
theorem freeB_mem {ops:Array Oper} {l:List Nat} {i:Nat} {d:Tmp} (hc:Shut ops l) (hf:freeB ops i d=true) {k:Nat} (hk:k∈l) {p:Oper} (hp:ops[k]? = some p) (hd:p.dst=some d):i∈l:=by
 have hlt:=(Array.getElem?_eq_some_iff.1 hp).1
 have:=List.all_eq_true.1 hf k (by simpa using hlt)
 rw [hp] at this
 simp only [hd,decide_true,Bool.not_true,Bool.false_or] at this
 exact waitsB_mem hc i 40 k hk this
theorem fold_off {ops:Array Oper} {vs:Nat→Value} {l:List Nat} {d:Tmp} (h:∀ i∈l,∀ o,ops[i]? = some o→o.dst≠some d) (a:Act):(l.foldl (put1 ops vs) a).tmps.getD d undef=a.tmps.getD d undef:=by
 induction l generalizing a with
 | nil=>rfl
 | cons i l ih=>
  rw [List.foldl_cons,ih fun j hj=>h j (List.mem_cons_of_mem _ hj)]
  unfold put1
  split
  · rename_i o ho
    cases hd:o.dst with
    | none=>rfl
    | some e=>
     have hne:e≠d:=fun he=>h i List.mem_cons_self o ho (by rw [hd,he])
     simp [Act.put,Array.getElem?_setIfInBounds_ne hne]
  · rfl
def HStep (P:Program) (ops:Array Oper) (Q:Exit→Act→World→Prop) (I:Nat→Value→World→Prop) (a0:Act) (w0:World) (i:Nat) (o:Oper):Prop:=
 ∀ (a:Act) (w:World),Ext w0 w→(∀ j,(o.after.any fun e=>Region.binds .any e && e.on == j)=true→∀ (oj:Oper) (d:Tmp),ops[j]? = some oj→oj.dst=some d→I j (a.tmps.getD d undef) w)→(∀ d,freeB ops i d=true→a.tmps.getD d undef=a0.tmps.getD d undef) →
  ∀ K:Act→World→Prop,(∀ v w',Ext w w'→I i v w'→K (a.put o.dst v) w')→if Region.wanted o (yielded ops a.tmps)=true then Oper.wp P o a w K Q else K (a.put o.dst undef) w
def HSteps (P:Program) (ops:Array Oper) (Q:Exit→Act→World→Prop) (I:Nat→Value→World→Prop) (a0:Act) (w0:World):List Oper→Nat→Prop
 | [],_=>True
 | o::l,k=>HStep P ops Q I a0 w0 k o∧HSteps P ops Q I a0 w0 l (k+1)
theorem hsteps_at {P:Program} {ops:Array Oper} {Q:Exit→Act→World→Prop} {I:Nat→Value→World→Prop} {a0:Act} {w0:World} : ∀ (l:List Oper) (k:Nat),HSteps P ops Q I a0 w0 l k→∀ (i:Nat) (o:Oper),l[i]? = some o→HStep P ops Q I a0 w0 (k+i) o
 | [],_,_,i,o,h=>by simp at h
 | x::l,k,hs,i,o,h=>by
  cases i with
  | zero=>simp at h;subst h;exact hs.1
  | succ i=>
   have:=hsteps_at l (k+1) hs.2 i o (by simpa using h)
   rwa [show k+1+i=k+(i+1) by omega] at this
theorem wpAny_waits {P:Program} {ops:Array Oper} {Q:Exit→Act→World→Prop} {I:Nat→Value→World→Prop} {a0:Act} {w0:World} (hd:Once ops) (he:Early ops) (hsz:∀ (i:Nat) (o:Oper) (d:Tmp),ops[i]? = some o→o.dst=some d→d<a0.tmps.size) (hI:∀ i v w w',I i v w→Ext w w'→I i v w')
 (hst:∀ (i:Nat) (o:Oper),ops[i]? = some o→HStep P ops Q I a0 w0 i o) (hfin:∀ vs w,Ext w0 w→(∀ i,i<ops.size→I i (vs i) w)→Q .normal (putL vs ops.toList 0 a0) w) :
 ∀ (fuel:Nat) (listed:Array Bool) (w:World) (l m:List Nat) (vs:Nat→Value),m.length=fuel→(l++m).Perm (List.range ops.size)→(∀ i,i<ops.size→listed.getD i true=decide (i∈l))→listed.size=ops.size→Ext w0 w→(∀ i∈l,I i (vs i) w)→Shut ops l →
  wpAny P .any ops Q fuel listed (l.foldl (put1 ops vs) a0) w:=by
 have fin:∀ (l m:List Nat) (vs:Nat→Value) (w:World),m=[]→(l++m).Perm (List.range ops.size)→Ext w0 w→(∀ i∈l,I i (vs i) w)→Q .normal (l.foldl (put1 ops vs) a0) w:=by
  intro l m vs w hm hp hw hl
  subst hm
  rw [List.append_nil] at hp
  rw [hp.foldl_eq' (fun x _ y _ z=>put1_comm hd x y z)]
  have:List.range ops.size=List.range' 0 ops.toList.length:=by rw [Array.length_toList,List.range_eq_range']
  rw [this,fold_range vs ops ops.toList 0 a0 (fun j=>by simp)]
  exact hfin vs w hw (fun i hi=>hl i (hp.mem_iff.2 (by simpa using hi)))
 have nodup:∀ (l m:List Nat),(l++m).Perm (List.range ops.size)→(l++m).Nodup:=fun l m hp=>hp.nodup_iff.2 List.nodup_range
 have stuck:∀ (l m:List Nat) (listed:Array Bool),(l++m).Perm (List.range ops.size)→(∀ i,i<ops.size→listed.getD i true=decide (i∈l))→listed.size=ops.size→Region.ready .any ops listed=[]→m=[]:=by
  intro l m listed hp hl hs hr
  have all:∀ i,i<ops.size→i∈l:=by
   intro i
   induction i using Nat.strongRecOn with
   | _ i ih=>
    intro hi
    refine Classical.byContradiction fun hn => ?_
    have hmem:i∈Region.ready .any ops listed:=by
     rw [mem_ready]
     refine ⟨by rw [hl i hi];simp [hn],ops[i],by simp [hi],fun e hme hb => ?_⟩
     have hlt:=he i ops[i] (by simp [hi]) e hme hb
     have h1:=ih e.on hlt (by omega)
     have h2:=hl e.on (by omega)
     rw [decide_eq_true h1] at h2
     have h3:e.on<listed.size:=by omega
     simpa [h3] using h2
    rw [hr] at hmem
    cases hmem
  cases m with
  | nil=>rfl
  | cons x m=>
   have hx:x<ops.size:=by
    have:x∈List.range ops.size:=hp.mem_iff.1 (by simp)
    simpa using this
   have h1:=all x hx
   have h2:=nodup l (x::m) hp
   rw [List.nodup_append] at h2
   exact absurd rfl (h2.2.2 x h1 x (by simp))
 intro fuel
 induction fuel with
 | zero=>
  intro listed w l m vs hm hp hl hs hw hi hc
  have hm0:=List.eq_nil_of_length_eq_zero hm
  refine ⟨?_,fin l m vs w hm0 hp hw hi⟩
  rw [List.eq_nil_iff_forall_not_mem]
  intro j hj
  rw [mem_ready] at hj
  obtain ⟨h1,o,ho,_⟩:=hj
  have hlt:=(Array.getElem?_eq_some_iff.1 ho).1
  rw [hl j hlt] at h1
  subst hm0
  rw [List.append_nil] at hp
  exact absurd (hp.mem_iff.2 (by simpa using hlt)) (of_decide_eq_false h1)
 | succ fuel ih=>
  intro listed w l m vs hm hp hl hs hw hi hc
  refine ⟨fun hr=>fin l m vs w (stuck l m listed hp hl hs hr) hp hw hi,fun i hir => ?_⟩
  rw [mem_ready] at hir
  obtain ⟨h1,o,ho,hall⟩:=hir
  have hlt:=(Array.getElem?_eq_some_iff.1 ho).1
  rw [hl i hlt] at h1
  have hil:i ∉ l:=of_decide_eq_false h1
  have him:i∈m:=by
   have:i∈l++m:=hp.mem_iff.2 (by simpa using hlt)
   rw [List.mem_append] at this
   exact this.resolve_left hil
  refine wpOp_step ho (fun K hK=>hst i o ho _ w hw ?_ ?_ K (fun v w' hww hv=>hK _ _ ?_))
  · intro j hj oj d hoj hod
    have hjl:j∈l:=by
     rw [Array.any_eq_true'] at hj
     obtain ⟨e,hme,h2⟩:=hj
     simp only [Bool.and_eq_true,beq_iff_eq] at h2
     obtain ⟨hb,rfl⟩:=h2
     have h3:=hall e hme hb
     have hjlt:=(Array.getElem?_eq_some_iff.1 hoj).1
     have h4:=hl e.on hjlt
     have h5:e.on<listed.size:=by omega
     have h6:listed.getD e.on true=true:=by simpa [h5] using h3
     rw [h6] at h4
     exact of_decide_eq_true h4.symm
    rw [fold_get hd hjl hoj hod (hsz j oj d hoj hod)]
    exact hi j hjl
  · intro d hfree
    exact fold_off (fun k hk p hp2 h2=>hil (freeB_mem hc hfree hk hp2 h2)) a0
  · let us:Nat→Value:=fun j=>if j=i then v else vs j
    have hus:∀ j∈l,us j=vs j:=fun j hj=>by
     show (if j=i then v else vs j)=vs j
     rw [if_neg (fun e=>hil (by rw [←e];exact hj))]
    have hui:us i=v:=by show (if i=i then v else vs i)=v;rw [if_pos rfl]
    have e1:(l.foldl (put1 ops vs) a0).put o.dst v=(l++[i]).foldl (put1 ops us) a0:=by
     rw [List.foldl_append,fold_congr hus]
     show _=put1 ops us _ i
     unfold put1
     rw [ho,hui]
    rw [e1]
    refine ih (listed.setIfInBounds i true) w' (l++[i]) (m.erase i) us (by rw [List.length_erase_of_mem him];omega) ?_ ?_ (by simpa using hs) (hw.trans hww) ?_ ?_
    · rw [List.append_assoc]
      exact (List.Perm.append_left l (List.perm_cons_erase him).symm).trans hp
    · intro j hj
      by_cases hji:j=i
      · subst hji
        have h5:j<listed.size:=by omega
        simp [h5]
      · have h5:j<listed.size:=by omega
        have:=hl j hj
        simp only [Array.getD_eq_getD_getElem?] at this ⊢
        rw [Array.getElem?_setIfInBounds_ne (fun e=>hji e.symm),this]
        simp [hji]
    · intro j hj
      rw [List.mem_append] at hj
      rcases hj with hj | hj
      · rw [hus j hj]
        exact hI j _ _ _ (hi j hj) hww
      · obtain rfl:j=i:=by simpa using hj
        rw [hui]
        exact hv
    · intro k hk p hp2 e hme hb
      rw [List.mem_append] at hk ⊢
      rcases hk with hk | hk
      · exact .inl (hc k hk p hp2 e hme hb)
      · obtain rfl:k=i:=by simpa using hk
        rw [ho] at hp2
        cases hp2
        have hlt2:=he k o ho e hme hb
        have h3:=hall e hme hb
        have h4:=hl e.on (by omega)
        have h5:e.on<listed.size:=by omega
        have h6:listed.getD e.on true=true:=by simpa [h5] using h3
        rw [h6] at h4
        exact .inl (of_decide_eq_true h4.symm)
theorem wp_region_waits {P:Program} {id:Nat} {l:List Oper} {Q:Exit→Act→World→Prop} {a0:Act} {w0:World} (hm:P.follows .mixedOrders=true) (h1:onceB l=true) (h2:earlyB 0 l=true) (h3:(l.all fun o=>match o.dst with | none=>true | some d=>decide (d<a0.tmps.size))=true)
 (I:Nat→Value→World→Prop) (hI:∀ i v w w',I i v w→Ext w w'→I i v w') (hst:HSteps P l.toArray Q I a0 w0 l 0) (hfin:∀ vs w,Ext w0 w→(∀ i,i<l.length→I i (vs i) w)→Q .normal (putL vs l 0 a0) w):(Code.region id l.toArray true).wp P Q a0 w0:=by
 refine wp_region_any hm ?_
 have h:=wpAny_waits (P:=P) (ops:=l.toArray) (Q:=Q) (I:=I) (a0:=a0) (w0:=w0) (once_of h1) (early_of h2) (fun i o d ho hod=>by
  have:=List.all_eq_true.1 h3 o (List.mem_of_getElem? (by simpa using ho))
  rw [hod] at this
  exact of_decide_eq_true this) hI (fun i o ho=>by
  have:=hsteps_at l 0 hst i o (by simpa using ho)
  rwa [Nat.zero_add] at this) (fun vs w hw hi=>hfin vs w hw (fun i hl=>hi i (by simpa using hl)))
  l.toArray.size (Array.replicate l.toArray.size false) { w0 with drawn:=w0.drawn+1 } [] (List.range l.toArray.size) (fun _=>undef) (by simp) (by simp) (fun i hi=>by simp at hi;simp [hi]) (by simp) ⟨rfl,rfl,rfl,Nat.le_refl _,fun _ _=>rfl⟩ (by simp) (fun k hk=>by cases hk)
 exact h
end Go.Proofs
