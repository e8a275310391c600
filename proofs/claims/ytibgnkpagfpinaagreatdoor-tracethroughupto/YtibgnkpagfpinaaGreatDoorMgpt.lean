/-
  Several texts in one (Pc Pd Zm Gj Zo Zn).
-/
import Derived.RangeFuncNested
import Derived.RangeFuncBound
import Derived.RangeFuncCalls
import Derived.RangeFuncLeaves
import Derived.Shelf.Abstract
import Derived.Shelf.RegionOpen
import Derived.WalkKit
import Derived.WalkSpells
import Derived.WalkLawsBesides
import Derived.OwnWalkIn
import Derived.TacticsInMore
import Derived.LoopNIn
import Derived.LoopIn
import Derived.BigQuiet
import Derived.RegionIn
import Derived.Deep.QuietTactic
import Derived.Deep.RegionWith
import Derived.Lib.OthersKept
import Derived.Maps.AppendAt
import Derived.Lib.SmallJoins
import Derived.Shelf.SlSortCmp.QuietGrown
import Derived.RangeFuncWrites
import Derived.RangeFuncBox
import Derived.Maps.OwnIn
import Derived.Test.YtibgnkpagfpinaaGreatDoorMgot
import Derived.Test.YtibgnkpagfpinaaGreatDoorMgnt
import Derived.Test.YtibgnkpagfpinaaGreatDoorMgmt
import Derived.Test.YtibgnkpagfpinaaGreatDoorGit
import Derived.Test.YtibgnkpagfpinaaGreatDoorGxt
namespace Go.Proofs
open Go.RowKit Go.Shelf
set_option maxRecDepth 100000
attribute [local go_sem] Oper.semAt_some
attribute [local go_sem ↓] Go.wp_at_zero Go.wp_at_succ
theorem sAt_mono {l:List Bk} (h:Join l) {i j:Nat} (hij:i<j) (hj:j≤l.length):sAt l i<sAt l j:=by
 induction j with
 | zero=>omega
 | succ j ih=>
  have h1:=(h.at' (j:=j) (by omega)).1
  by_cases e:i=j
  · subst e;exact h1
  · have:=ih (by omega) (by omega);omega
theorem brs_cell {w:World} {a:Option Addr} {n c:Nat} {l:List Bk} (h:Rs w (.slice a n c) (brs l)) {j:Nat} (hj:j≤l.length):∃ g o,a=some ⟨g,o,none⟩∧w.cell? ⟨g,o+j*2,none⟩=some (.int .i64 (sAt l j))∧w.cell? ⟨g,o+j*2+1,none⟩=some (.int .i64 (rAt l j)):=by
 obtain ⟨g,o,e,c0,c1⟩:=rs_cell h (j:=j) (by rw [brs_len];omega)
 rw [brs_at (by rw [brs_len];omega)] at c0 c1
 exact ⟨g,o,e,c0,c1⟩
theorem rs_form {w:World} {v:Value} {l:List (Int × Int)} (h:Rs w v l):∃ a c,v = .slice a l.length c:=by
 obtain ⟨a,c,e,_⟩:=h
 exact ⟨a,c,e⟩
def bkD (us:List Int):Nat→List (Int × Int)
 | 0=>[]
 | m+1=>((m:Int),us.getD m 0)::bkD us m
theorem fr_kall {F:Nat→Prop} {b:Nat} {X Y:World} (h:KAll F b X Y):Fr X Y (fun k=>¬ F k):=⟨h.bel.os,h.bel.tape,h.bel.output,h.bel.size,fun k hk hn=>by
 have hF:F k:=Classical.not_not.1 hn
 have e:X.heap[k]? = some X.heap[k]:=Array.getElem?_eq_getElem hk
 rw [e]
 exact h.same k _ hF e⟩
def BkF (bx:Nat) (v:Value) (k:Nat):Prop:=k=bx∨v.ownBlock=some k
def encB (x:Int × Int):Array Value:=#[.int .i64 x.1,.int .i64 x.2]
set_option maxHeartbeats 4000000 in
theorem back_seqF {V:World} {bx:Nat} {v:Value} {us:List Int} (hbx:V.heap[bx]? = some (.cells #[v] 46 (0,0))) (hu:IR V v us) (hub:us.length≤1000000) {b:Nat} (n l:Nat) (hn:1≤n) :
 SeqF n 93 #[] #[.pointer (some ⟨bx,0,none⟩)] encB (bkD us us.length) b (BkF bx v) (fun _ _=>True) V l:=by
 intro J Jx hJ hJx hY h0
 obtain ⟨m0,hm0⟩:∃ m,us.length=m:=⟨_,rfl⟩
 obtain ⟨a,c,hv,_⟩:=id hu
 rw [hm0] at hv hub ⊢
 rw [hm0] at hY
 subst hv
 have HM:=Hid.mk' hm0
 have hm0I:(m0:Int)≤1000000:=by omega
 have HH:=Hid.mk' (And.intro hbx hu)
 have c0:V.cell? ⟨bx,0,none⟩=some (.slice a m0 c):=by rw [cell_of hbx];rfl
 have HHY:=Hid.mk' hY
 clear hbx hu hY hm0
 refine callsIn_of_wp Tryz.func93 rfl trivial ?_ rfl
 simp only [Tryz.ntmps93,List.size_toArray,List.length_cons,List.length_nil,Nat.reduceAdd,Nat.reduceSub,Array.replicate_succ,Array.replicate_zero,List.push_toArray,List.append_toArray,List.nil_append,List.cons_append]
 gi_wp2_with fail
 gi_loopg [3] (m0+1) (fun f s3 wr=>∃ m:Nat,s3 = .int .i64 ((m:Int) - 1)∧m≤m0∧m+1≤f∧Hid (∃ pre,bkD us m0=pre++bkD us m∧J pre (BkF bx (.slice a m0 c)) wr∧wr.heap[bx]? = some (.cells #[.slice a m0 c] 46 (0,0))∧IR wr (.slice a m0 c) us))
 case atStart=>exact ⟨m0,rfl,Nat.le_refl _,by omega,[],rfl,h0,HH.out.1,HH.out.2⟩
 case round=>
  obtain ⟨m,rfl,hmm,hmf,HR⟩:=hrel
  obtain ⟨pre,hpre,hJr,hbx,hir⟩:=HR.out
  have hmI:(m:Int)≤1000000:=by omega
  cases m with
  | zero=>
   have HK:Hid (J (bkD us m0) (BkF bx (.slice a m0 c)) wr):=by
    have e:bkD us m0=pre:=by rw [hpre];simp [bkD]
    show J _ _ _
    rw [e];exact hJr
   clear hpre hJr hbx hir HR
   gi_wp2
   go_end0
   exact ⟨⟨_,rfl⟩,.inl ⟨_,HK.out,trivial⟩⟩
  | succ m=>
   have hge:(0:Int)≤(m:Int):=by omega
   have hlt:(m:Int)<(m0:Int):=by omega
   have hmi:((m+1:Nat):Int) - 1=(m:Int):=by omega
   rw [hmi]
   have d0:wr.cell? ⟨bx,0,none⟩=some (.slice a m0 c):=by rw [cell_of hbx];rfl
   obtain ⟨g,o,hae,du⟩:=ir_cell hir (j:=m) (by rw [HM.out];omega)
   subst hae
   obtain ⟨u,hu⟩:∃ u,us.getD m 0=u:=⟨_,rfl⟩
   rw [hu] at du
   have hxf:pre++[((m:Int),u)] <+: bkD us m0:=by rw [hpre,←hu];exact ⟨bkD us m,by simp [bkD]⟩
   obtain ⟨fn,tmps,assign,body,hy,hR⟩:=HHY.out pre ((m:Int),u) _ wr hJr hxf
   dsimp only [encB] at hy
   have HRR:=Hid.mk' hR
   have HP:Hid (bkD us m0=(pre++[((m:Int),u)])++bkD us m∧pre++[((m:Int),u)] <+: bkD us m0∧wr.heap[bx]? = some (.cells #[.slice (some ⟨g,o,none⟩) m0 c] 46 (0,0))∧IR wr (.slice (some ⟨g,o,none⟩) m0 c) us):=⟨by rw [hpre,←hu];simp [bkD],hxf,hbx,hir⟩
   clear hR hpre hJr hbx hir hxf hu HR
   gi_wp2
   refine HRR.out.mono ?_
   rintro e W3 (⟨rfl,hJ3,hk3⟩ | ⟨rfl,hJx3,hk3⟩)
   · gi_wp2
     gi_roundg (m+1)
     case measure=>omega
     case rel=>
      obtain ⟨p1,p2,p3,p4⟩:=HP.out
      exact ⟨m,rfl,by omega,Nat.le_refl _,_,p1,hJ3,hk3.same _ _ (.inl rfl) p3,p4.fr (fr_kall hk3) fun b hb hn=>hn (.inr hb)⟩
   · gi_wp2
     refine bodyPost_ret (results_none rfl _ _ _) rfl ?_
     exact ⟨⟨_,rfl⟩,.inr ⟨_,_,⟨HP.out.2.1,by simp⟩,hJx3⟩⟩
theorem backward_any (a:Option Addr) (n c:Nat) (W:World):Calls Tryz.prog 57 #[.slice a n c] W fun e w'=>e = .returned (.func (.func 93) #[] #[.pointer (some ⟨W.heap.size,0,none⟩)])∧w'=W.alloc (.cells #[.slice a n c] 46):=by
 go_enter Tryz.func57,Tryz.ntmps57
 go_wp2
 go_ret
 exact ⟨rfl,rfl⟩
theorem wpOpIn_step {F:Fence} {n:Nat} {P:Program} {ops:Array Oper} {Q:Exit→Act→World→Prop} {i:Nat} {o:Oper} {a:Act} {w:World} {K:Act→World→Prop} (ho:ops[i]? = some o) (h:∀ K':Act→World→Prop,(∀ a w,K a w→K' a w)→if Region.wanted o (yielded ops a.tmps)=true then o.wpIn F n P a w K' Q else (∀ f,o.about P w a.eval=some f→F.fn f)∧K' (a.put o.dst undef) w):wpOpIn F n P ops Q i K a w:=by
 unfold wpOpIn
 simp only [ho]
 exact h K fun _ _ h=>h
def IStepI (F:Fence) (n:Nat) (P:Program) (ops:Array Oper) (Q:Exit→Act→World→Prop) (J:(Nat→Bool)→(Nat→Value)→World→Prop) (a0:Act) (i:Nat) (o:Oper):Prop:=
 ∀ (a:Act) (w:World) (p:Nat→Bool) (vs:Nat→Value),J p vs w→(∀ j,(o.after.any fun e=>Region.binds .any e && e.on == j)=true→p j=true)→p i=false→(∀ (j:Nat) (oj:Oper) (d:Tmp),p j=true→ops[j]? = some oj→oj.dst=some d→a.tmps.getD d undef=vs j)→(∀ d,(ops.all fun p => !decide (p.dst=some d))=true→a.tmps.getD d undef=a0.tmps.getD d undef) →
  ∀ K:Act→World→Prop,(∀ v w',J (fun j=>p j || j == i) (fun j=>if j=i then v else vs j) w'→K (a.put o.dst v) w')→if Region.wanted o (yielded ops a.tmps)=true then o.wpIn F n P a w K Q else (∀ f,o.about P w a.eval=some f→F.fn f)∧K (a.put o.dst undef) w
def IStepsI (F:Fence) (n:Nat) (P:Program) (ops:Array Oper) (Q:Exit→Act→World→Prop) (J:(Nat→Bool)→(Nat→Value)→World→Prop) (a0:Act):List Oper→Nat→Prop
 | [],_=>True
 | o::l,k=>IStepI F n P ops Q J a0 k o∧IStepsI F n P ops Q J a0 l (k+1)
theorem istepsI_at {F:Fence} {n:Nat} {P:Program} {ops:Array Oper} {Q:Exit→Act→World→Prop} {J:(Nat→Bool)→(Nat→Value)→World→Prop} {a0:Act} : ∀ (l:List Oper) (k:Nat),IStepsI F n P ops Q J a0 l k→∀ (i:Nat) (o:Oper),l[i]? = some o→IStepI F n P ops Q J a0 (k+i) o
 | [],_,_,i,o,h=>by simp at h
 | x::l,k,hs,i,o,h=>by
  cases i with
  | zero=>simp at h;subst h;exact hs.1
  | succ i=>
   have:=istepsI_at l (k+1) hs.2 i o (by simpa using h)
   rwa [show k+1+i=k+(i+1) by omega] at this
theorem wpAnyIn_inv {F:Fence} {n:Nat} {P:Program} {ops:Array Oper} {Q:Exit→Act→World→Prop} {J:(Nat→Bool)→(Nat→Value)→World→Prop} {a0:Act} (hd:Once ops) (he:Early ops) (hsz:∀ (i:Nat) (o:Oper) (d:Tmp),ops[i]? = some o→o.dst=some d→d<a0.tmps.size)
 (hst:∀ (i:Nat) (o:Oper),ops[i]? = some o→IStepI F n P ops Q J a0 i o) (hfin:∀ vs w,J (fun j=>decide (j<ops.size)) vs w→Q .normal (putL vs ops.toList 0 a0) w) :
 ∀ (fuel:Nat) (listed:Array Bool) (w:World) (l m:List Nat) (vs:Nat→Value),m.length=fuel→(l++m).Perm (List.range ops.size)→(∀ i,i<ops.size→listed.getD i true=decide (i∈l))→listed.size=ops.size→J (fun j=>decide (j∈l)) vs w →
  wpAnyIn F n P .any ops Q fuel listed (l.foldl (put1 ops vs) a0) w:=by
 have fin:∀ (l m:List Nat) (vs:Nat→Value) (w:World),m=[]→(l++m).Perm (List.range ops.size)→J (fun j=>decide (j∈l)) vs w→Q .normal (l.foldl (put1 ops vs) a0) w:=by
  intro l m vs w hm hp hj
  subst hm
  rw [List.append_nil] at hp
  rw [hp.foldl_eq' (fun x _ y _ z=>put1_comm hd x y z)]
  have:List.range ops.size=List.range' 0 ops.toList.length:=by rw [Array.length_toList,List.range_eq_range']
  rw [this,fold_range vs ops ops.toList 0 a0 (fun j=>by simp)]
  refine hfin vs w ?_
  have e:(fun j=>decide (j<ops.size))=fun j=>decide (j∈l):=by
   funext j
   rw [decide_eq_decide,hp.mem_iff,List.mem_range]
  rw [e]
  exact hj
 have nodup:∀ (l m:List Nat),(l++m).Perm (List.range ops.size)→(l++m).Nodup:=fun l m hp=>hp.nodup_iff.2 List.nodup_range
 have stuck:∀ (l m:List Nat) (listed:Array Bool),(l++m).Perm (List.range ops.size)→(∀ i,i<ops.size→listed.getD i true=decide (i∈l))→listed.size=ops.size→Region.ready .any ops listed=[]→m=[]:=by
  intro l m listed hp hl hs hr
  have all:∀ i,i<ops.size→i∈l:=by
   intro i
   induction i using Nat.strongRecOn with
   | _ i ih=>
    intro hi
    refine Classical.byContradiction fun hn => ?_
    have hmem:i∈Region.ready .any ops listed:=by
     rw [mem_ready]
     refine ⟨by rw [hl i hi];simp [hn],ops[i],by simp [hi],fun e hme hb => ?_⟩
     have hlt:=he i ops[i] (by simp [hi]) e hme hb
     have h1:=ih e.on hlt (by omega)
     have h2:=hl e.on (by omega)
     rw [decide_eq_true h1] at h2
     have h3:e.on<listed.size:=by omega
     simpa [h3] using h2
    rw [hr] at hmem
    cases hmem
  cases m with
  | nil=>rfl
  | cons x m=>
   have hx:x<ops.size:=by
    have:x∈List.range ops.size:=hp.mem_iff.1 (by simp)
    simpa using this
   have h1:=all x hx
   have h2:=nodup l (x::m) hp
   rw [List.nodup_append] at h2
   exact absurd rfl (h2.2.2 x h1 x (by simp))
 intro fuel
 induction fuel with
 | zero=>
  intro listed w l m vs hm hp hl hs hj
  have hm0:=List.eq_nil_of_length_eq_zero hm
  refine ⟨?_,fin l m vs w hm0 hp hj⟩
  rw [List.eq_nil_iff_forall_not_mem]
  intro j hjr
  rw [mem_ready] at hjr
  obtain ⟨h1,o,ho,_⟩:=hjr
  have hlt:=(Array.getElem?_eq_some_iff.1 ho).1
  rw [hl j hlt] at h1
  subst hm0
  rw [List.append_nil] at hp
  exact absurd (hp.mem_iff.2 (by simpa using hlt)) (of_decide_eq_false h1)
 | succ fuel ih=>
  intro listed w l m vs hm hp hl hs hj
  refine ⟨fun hr=>fin l m vs w (stuck l m listed hp hl hs hr) hp hj,fun i hir => ?_⟩
  rw [mem_ready] at hir
  obtain ⟨h1,o,ho,hall⟩:=hir
  have hlt:=(Array.getElem?_eq_some_iff.1 ho).1
  rw [hl i hlt] at h1
  have hil:i ∉ l:=of_decide_eq_false h1
  have him:i∈m:=by
   have:i∈l++m:=hp.mem_iff.2 (by simpa using hlt)
   rw [List.mem_append] at this
   exact this.resolve_left hil
  refine wpOpIn_step ho (fun K hK=>hst i o ho _ w (fun j=>decide (j∈l)) vs hj ?_ (decide_eq_false hil) ?_ ?_ K (fun v w' hv=>hK _ _ ?_))
  · intro j hja
    rw [Array.any_eq_true'] at hja
    obtain ⟨e,hme,h2⟩:=hja
    simp only [Bool.and_eq_true,beq_iff_eq] at h2
    obtain ⟨hb,rfl⟩:=h2
    have h3:=hall e hme hb
    have hlt2:=he i o ho e hme hb
    have h4:=hl e.on (by omega)
    have h5:e.on<listed.size:=by omega
    have h6:listed.getD e.on true=true:=by simpa [h5] using h3
    rw [h6] at h4
    exact h4.symm
  · intro j oj d hjl hoj hod
    exact fold_get hd (of_decide_eq_true hjl) hoj hod (hsz j oj d hoj hod)
  · intro d hfree
    refine fold_other (fun k p hp2 h2 => ?_) a0
    rw [Array.all_eq_true_iff_forall_mem] at hfree
    have:=hfree p (Array.mem_of_getElem? hp2)
    simp [h2] at this
  · let us:Nat→Value:=fun j=>if j=i then v else vs j
    have hus:∀ j∈l,us j=vs j:=fun j hjl=>by
     show (if j=i then v else vs j)=vs j
     rw [if_neg (fun e=>hil (by rw [←e];exact hjl))]
    have hui:us i=v:=by show (if i=i then v else vs i)=v;rw [if_pos rfl]
    have e1:(l.foldl (put1 ops vs) a0).put o.dst v=(l++[i]).foldl (put1 ops us) a0:=by
     rw [List.foldl_append,fold_congr hus]
     show _=put1 ops us _ i
     unfold put1
     rw [ho,hui]
    rw [e1]
    refine ih (listed.setIfInBounds i true) w' (l++[i]) (m.erase i) us (by rw [List.length_erase_of_mem him];omega) ?_ ?_ (by simpa using hs) ?_
    · rw [List.append_assoc]
      exact (List.Perm.append_left l (List.perm_cons_erase him).symm).trans hp
    · intro j hjn
      by_cases hji:j=i
      · subst hji
        have h5:j<listed.size:=by omega
        simp [h5]
      · have h5:j<listed.size:=by omega
        have:=hl j hjn
        simp only [Array.getD_eq_getD_getElem?] at this ⊢
        rw [Array.getElem?_setIfInBounds_ne (fun e=>hji e.symm),this]
        simp [hji]
    · have e2:(fun j=>decide (j∈l++[i]))=fun j=>decide (j∈l) || j == i:=by
       funext j
       by_cases hji:j=i
       · subst hji;simp
       · simp [hji]
      rw [e2]
      exact hv
theorem wpIn_region_inv {F:Fence} {n:Nat} {P:Program} {id:Nat} {l:List Oper} {Q:Exit→Act→World→Prop} {a0:Act} {w0:World} (hm:P.follows .mixedOrders=true) (h1:onceB l=true) (h2:earlyB 0 l=true) (h3:(l.all fun o=>match o.dst with | none=>true | some d=>decide (d<a0.tmps.size))=true)
 (J:(Nat→Bool)→(Nat→Value)→World→Prop) (h0:J (fun _=>false) (fun _=>undef) w0.drew) (hst:IStepsI F n P l.toArray Q J a0 l 0) (hfin:∀ vs w,J (fun j=>decide (j<l.length)) vs w→Q .normal (putL vs l 0 a0) w):(Code.region id l.toArray true).wpIn F n P Q a0 w0:=by
 refine wpIn_region_any hm ?_
 have h:=wpAnyIn_inv (F:=F) (n:=n) (P:=P) (ops:=l.toArray) (Q:=Q) (J:=J) (a0:=a0) (once_of h1) (early_of h2) (fun i o d ho hod=>by
  have:=List.all_eq_true.1 h3 o (List.mem_of_getElem? (by simpa using ho))
  rw [hod] at this
  exact of_decide_eq_true this) (fun i o ho=>by
  have:=istepsI_at l 0 hst i o (by simpa using ho)
  rwa [Nat.zero_add] at this) (fun vs w hj=>hfin vs w (by simpa using hj))
  l.toArray.size (Array.replicate l.toArray.size false) w0.drew [] (List.range l.toArray.size) (fun _=>undef) (by simp) (by simp) (fun i hi=>by simp at hi;simp [hi]) (by simp) (by simpa using h0)
 exact h
structure JB (X:World) (tb base:Nat) (bv:Value) (bk:List Int) (u:Int) (cs:Value→Array Value) (val:Nat→Option Value) (p:Nat→Bool) (vs:Nat→Value) (W:World):Prop where
 v:∀ i x,val i=some x→p i=true→vs i=x
 f:Fr X W (fun k=>bv.ownBlock=some k∨k=tb)
 n:p 10=false→W.heap[tb]? = some (.cells (cs bv) 77 (0,0))
 e6:p 6=true→∃ g,vs 6 = .slice (some ⟨g,0,none⟩) 1 1∧X.heap.size≤g∧W.heap[g]? = some (.cells #[.int .i64 u] 3 (0,0))
 s0:p 7=false→OwnI W base bv bk
 s1:p 7=true→OwnI W base (vs 7) (bk++[u])∧∀ k,(vs 7).ownBlock=some k→bv.ownBlock=some k∨X.heap.size≤k
 d4:p 7=true→p 4=true∧p 6=true
 d7:p 10=true→p 7=true
 t:p 10=true→W.heap[tb]? = some (.cells (cs (vs 7)) 77 (0,0))
section JB
variable {X:World} {tb base:Nat} {bv:Value} {bk:List Int} {u:Int} {cs:Value→Array Value} {val:Nat→Option Value} {p:Nat→Bool} {vs:Nat→Value} {W:World}
theorem JB.put (h:JB X tb base bv bk u cs val p vs W) (i:Nat) {x:Value} (hx:val i=some x) (h6:i≠6:=by decide) (h7:i≠7:=by decide) (h10:i≠10:=by decide):JB X tb base bv bk u cs val (fun j=>p j || j == i) (fun j=>if j=i then x else vs j) W:=by
 have e6:((6:Nat) == i)=false:=by simp;omega
 have e7:((7:Nat) == i)=false:=by simp;omega
 have e10:((10:Nat) == i)=false:=by simp;omega
 refine ⟨fun j y hy hp => ?_,h.f,fun hp=>h.n ?_,fun hp => ?_,fun hp=>h.s0 ?_,fun hp => ?_,fun hp => ?_,fun hp => ?_,fun hp => ?_⟩
 · by_cases ej:j=i
   · subst ej;rw [if_pos rfl];rw [hx] at hy;injection hy
   · rw [if_neg ej];exact h.v j y hy (by simpa [ej] using hp)
 · simpa [e10] using hp
 · rw [if_neg (Ne.symm h6)];exact h.e6 (by simpa [e6] using hp)
 · simpa [e7] using hp
 · rw [if_neg (Ne.symm h7)];exact h.s1 (by simpa [e7] using hp)
 · have:=h.d4 (by simpa [e7] using hp)
   exact ⟨by simp [this.1],by simp [this.2]⟩
 · have:=h.d7 (by simpa [e10] using hp)
   simp [this]
 · rw [if_neg (Ne.symm h7)];exact h.t (by simpa [e10] using hp)
theorem JB.no10 (h:JB X tb base bv bk u cs val p vs W) (h7:p 7=false):p 10=false:=by
 cases e:p 10 with
 | false=>rfl
 | true=>have:=h.d7 e;rw [h7] at this;cases this
theorem JB.no7 (h:JB X tb base bv bk u cs val p vs W) (h4:p 4=false∨p 6=false):p 7=false:=by
 cases e:p 7 with
 | false=>rfl
 | true=>
  have:=h.d4 e
  rcases h4 with h4 | h4
  · rw [h4] at this;cases this.1
  · rw [h4] at this;cases this.2
theorem JB.six (h:JB X tb base bv bk u cs val p vs W) (hp6:p 6=false) (hx:val 6=none):JB X tb base bv bk u cs val (fun j=>p j || j == 6) (fun j=>if j=6 then .slice (some ⟨W.heap.size,0,none⟩) 1 1 else vs j) (W.alloc (.cells #[.int .i64 u] 3)):=by
 have h7:=h.no7 (.inr hp6)
 have h10:=h.no10 h7
 have hg:Grown W (W.alloc (.cells #[.int .i64 u] 3)):=(Grown.refl W).alloc _
 have hb:=h.n h10
 refine ⟨fun j y hy hp => ?_,h.f.trans (fr_grown hg _) fun _ _ e=>e,fun _=>(hg.below.block _ (blk_lt hb)).trans hb,fun _=>⟨_,by rw [if_pos rfl],h.f.size,heap_alloc_new _ _⟩,fun _=>(h.s0 h7).alloc _,fun hp => ?_,fun hp => ?_,fun hp => ?_,fun hp => ?_⟩
 · by_cases ej:j=6
   · subst ej;rw [hx] at hy;cases hy
   · rw [if_neg ej];exact h.v j y hy (by simpa [ej] using hp)
 · simp [h7] at hp
 · simp [h7] at hp
 · simp [h10] at hp
 · simp [h10] at hp
theorem JB.seven (h:JB X tb base bv bk u cs val p vs W) (hp7:p 7=false) (hp4:p 4=true) (hp6:p 6=true) (hx:val 7=none) (_htb:tb<X.heap.size) (hne:∀ k,bv.ownBlock=some k→k<X.heap.size∧k≠tb) {v':Value} {w':World} (q1:OwnI w' base v' (bk++[u])) (q2:W.grownBy w' bv.ownBlock) (q3:v'.ownBlock=bv.ownBlock∨v'.ownBlock=some W.heap.size):JB X tb base bv bk u cs val (fun j=>p j || j == 7) (fun j=>if j=7 then v' else vs j) w':=by
 have h10:=h.no10 hp7
 have hb:=h.n h10
 have fq:=fr_by q2
 obtain ⟨g,hg1,hg2,hg3⟩:=h.e6 hp6
 refine ⟨fun j y hy hp => ?_,h.f.trans fq fun k _ e => .inl e,fun _=>(fq.block _ (blk_lt hb) fun e=>(hne _ e).2 rfl).trans hb,fun _=>⟨g,by rw [if_neg (by decide)];exact hg1,hg2,(fq.block _ (blk_lt hg3) fun e=>by have:=(hne _ e).1;omega).trans hg3⟩,fun hp => ?_,fun _ => ?_,fun _=>⟨by simp [hp4],by simp [hp6]⟩,fun hp => ?_,fun hp => ?_⟩
 · by_cases ej:j=7
   · subst ej;rw [hx] at hy;cases hy
   · rw [if_neg ej];exact h.v j y hy (by simpa [ej] using hp)
 · simp at hp
 · rw [if_pos rfl]
   refine ⟨q1,fun k hk => ?_⟩
   rcases q3 with e | e
   · rw [e] at hk;exact .inl hk
   · rw [e] at hk;injection hk with hk;have:=h.f.size;exact .inr (by omega)
 · simp [h10] at hp
 · simp [h10] at hp
theorem JB.ten (h:JB X tb base bv bk u cs val p vs W) (hp7:p 7=true) (hp10:p 10=false) (hx:val 10=none) (htb:tb<X.heap.size) (hne:∀ k,bv.ownBlock=some k→k<X.heap.size∧k≠tb) (hcs:∀ x y,(cs x).setIfInBounds 2 y=cs y) {z:Value} : JB X tb base bv bk u cs val (fun j=>p j || j == 10) (fun j=>if j=10 then z else vs j) (W.setCell ⟨tb,2,none⟩ (vs 7)):=by
 have hb:=h.n hp10
 have fq:=fr_set W tb 2 (vs 7)
 obtain ⟨s1,s2⟩:=h.s1 hp7
 have hnt:∀ k,(vs 7).ownBlock=some k→k≠tb:=fun k hk=>by
  rcases s2 k hk with e | e
  · exact (hne k e).2
  · omega
 refine ⟨fun j y hy hp => ?_,h.f.trans fq fun k _ e => .inr e,fun hp => ?_,fun hp => ?_,fun hp => ?_,fun _ => ?_,fun hp => ?_,fun _=>by simp [hp7],fun _ => ?_⟩
 · by_cases ej:j=10
   · subst ej;rw [hx] at hy;cases hy
   · rw [if_neg ej];exact h.v j y hy (by simpa [ej] using hp)
 · simp at hp
 · obtain ⟨g,hg1,hg2,hg3⟩:=h.e6 (by simpa using hp)
   exact ⟨g,by rw [if_neg (by decide)];exact hg1,hg2,(fq.block _ (blk_lt hg3) fun e=>by have e:g=tb:=e;omega).trans hg3⟩
 · simp [hp7] at hp
 · rw [if_neg (by decide)]
   exact ⟨own_fr s1 fq fun b hb e=>hnt b hb e,s2⟩
 · have:=h.d4 hp7
   exact ⟨by simp [this.1],by simp [this.2]⟩
 · rw [if_neg (by decide),set_heap hb,hcs]
end JB
theorem op_appendIn {F:Fence} {n:Nat} {o:Oper} {a:Act} {w w':World} {v':Value} {K:Act→World→Prop} {Q:Exit→Act→World→Prop} {s x:Operand} {t:TypeId} (ho:o.op = .call { callee := .builtin .append,args:=#[s,x],argTypes:=#[t,t] }) {u y:Value} (hs:a.eval s=u) (hx:a.eval x=y) (hr:(Builtin.append_ #[t,t] o.type #[u,y]).run Tryz.prog w = .ok v' w') (h:K (a.put o.dst v') w'):Oper.wpIn F n Tryz.prog o a w K Q:=by
 unfold Oper.wpIn
 refine ⟨by simp [Oper.about,ho,resolve,Target.leads,Sem.run_pure],?_⟩
 rw [Oper.semAt_plain F _ _ (by rw [ho];intro c hc';cases hc')]
 simp only [execOp,ho,resolve,invoke,builtin,Sem.run_bind,Sem.run_pure,Result.andThen_ok,List.map_toArray,List.map_cons,List.map_nil,hs,hx,hr]
 exact h
def FlI (W:World) (tb base:Nat) (rv:Value) (s:ByteArray) (p:Nat) (bv:Value) (bk:List Int) (D:Int) (h:Nat) (pre:List (Int × Int)) (F:Nat→Prop) (X:World):Prop:=
 ∃ bvx,TK X tb base rv s p bvx (bk++pre.map Prod.snd) D∧X.heap[W.heap.size]? = some (.cells #[.pointer (some ⟨tb,0,none⟩)] 106 (0,0))∧Fr W X (fun k=>k=tb∨bv.ownBlock=some k)∧(∀ k,F k→W.heap.size<k∧k<X.heap.size)∧∀ b,bvx.ownBlock=some b→(bv.ownBlock=some b∨W.heap.size<b)∧¬ F b∧b≠h∧b≠h+1
theorem FlI.stab {W:World} {tb base:Nat} {rv:Value} {s:ByteArray} {p:Nat} {bv:Value} {bk:List Int} {D:Int} {h:Nat} (htb:tb<W.heap.size) (hh:W.heap.size<h):StabI h (FlI W tb base rv s p bv bk D h):=by
 rintro pre F F' X Y ⟨bvx,k1,k2,k3,k4,k5⟩ z0 z1 hf hn hlt
 have nF:∀ k,k<X.heap.size→¬ F k→¬ F' k:=fun k hk hn' hf'=>by rcases hn k hf' with e | e;exact hn' e;omega
 have l2:=blk_lt k2
 refine ⟨bvx,k1.fr hf (fun e => ?_) (fun b hb e => ?_),(hf.block _ l2 fun e => ?_).trans k2,k3.trans hf fun k hk e => ?_,fun k hk=>⟨?_,hlt (fun k hk=>(k4 k hk).2) k hk⟩,fun b hb=>⟨(k5 b hb).1,nF _ (World.ownsRow.lt k1.own b hb).2 (k5 b hb).2.1,(k5 b hb).2.2⟩⟩
 · rcases e with e | e
   · have:=(k4 _ e).1;omega
   · omega
 · rcases e with e | e
   · exact (k5 b hb).2.1 e
   · exact (k5 b hb).2.2.2 e
 · rcases e with e | e
   · have:=(k4 _ e).1;omega
   · omega
 · rcases e with e | e
   · have:=(k4 _ e).1;omega
   · omega
 · rcases hn k hk with e | e
   · exact (k4 _ e).1
   · have:=blk_lt k2;omega
theorem FlI.pushed {W X W':World} {tb base:Nat} {rv:Value} {s:ByteArray} {p:Nat} {bv bvx:Value} {bk bkx:List Int} {D:Int} {h:Nat} {F:Nat→Prop} {u:Int} {val:Nat→Option Value} {vs:Nat→Value} (htb:tb<W.heap.size) (hh:W.heap.size<h) (hX:h+2≤X.heap.size) (_z0:¬ F h) (_z1:¬ F (h+1))
 (k1:TK X tb base rv s p bvx bkx D) (k2:X.heap[W.heap.size]? = some (.cells #[.pointer (some ⟨tb,0,none⟩)] 106 (0,0))) (k3:Fr W X (fun k=>k=tb∨bv.ownBlock=some k)) (k4:∀ k,F k→W.heap.size<k∧k<X.heap.size) (k5:∀ b,bvx.ownBlock=some b→(bv.ownBlock=some b∨W.heap.size<b)∧¬ F b∧b≠h∧b≠h+1) (k6:bvx.ownBlock≠some W.heap.size)
 (hJ:JB X tb base bvx bkx u (fun b=>#[rv,.string (s.extract p s.size),b,.int .i64 D]) val (fun j=>decide (j<11)) vs W') {pre:List (Int × Int)} {x:Int × Int} (hu:x.2=u) (hbk:bkx=bk++pre.map Prod.snd):KAll (ZF F h) 0 X W'∧FlI W tb base rv s p bv bk D h (pre++[x]) F W':=by
 obtain ⟨s1,s2⟩:=hJ.s1 rfl
 have hf:=hJ.f
 have hx7:∀ b,(vs 7).ownBlock=some b→b≠tb:=fun b hb e=>by
  rcases s2 b hb with e2 | e2
  · exact k1.ne b e2 e
  · have:=k3.size;omega
 refine ⟨⟨⟨hf.os,hf.tape,hf.output,hf.size,fun k hk=>by omega⟩,fun k o hk ho=>(hf.block k (blk_lt ho) fun e => ?_).trans ho⟩,vs 7,⟨hJ.t rfl,?_,k1.pl,hx7⟩,(hf.block _ (blk_lt k2) fun e => ?_).trans k2,k3.trans hf fun k hk e => ?_,fun k hk=>⟨(k4 k hk).1,Nat.lt_of_lt_of_le (k4 k hk).2 hf.size⟩,fun b hb => ?_⟩
 · rcases e with e | e
   · have:=k5 k e
     rcases hk with hk | hk | hk
     · exact this.2.1 hk
     · exact this.2.2.1 hk
     · exact this.2.2.2 hk
   · rcases hk with hk | hk | hk
     · have:=(k4 k hk).1;omega
     · omega
     · omega
 · have e:bk++(pre++[x]).map Prod.snd=bkx++[u]:=by rw [List.map_append,←List.append_assoc,←hbk];simp [hu]
   rw [e];exact s1
 · rcases e with e | e
   · exact k6 e
   · omega
 · rcases e with e | e
   · rcases (k5 k e).1 with e2 | e2
     · exact .inr e2
     · omega
   · exact .inl e
 · rcases s2 b hb with e | e
   · exact k5 b e
   · exact ⟨.inr (by have:=k3.size;omega),fun hf'=>by have:=(k4 b hf').2;omega,by omega,by omega⟩
def FolQ (W:World) (tb base:Nat) (rv:Value) (s:ByteArray) (bv:Value) (bk:List Int) (n:Nat) (B lf2:List Int) (dn:Int) (e:Ending) (W':World):Prop:=
 ∃ v p' bv' bk',e = .returned v∧TK W' tb base rv s p' bv' bk' dn∧lfO bk' s p'=B++lf2∧Fr W W' (fun k=>k=tb∨bv.ownBlock=some k)∧(∀ b,bv'.ownBlock=some b→bv.ownBlock=some b∨W.heap.size<b)∧bk'.length=bk.length - n+B.length
theorem bkD_snd (B:List Int):∀ n,n≤B.length→(bkD B n).map Prod.snd=(B.take n).reverse
 | 0,_=>by simp [bkD]
 | n+1,h=>by
  rw [bkD,List.map_cons,bkD_snd B n (by omega),List.take_succ_eq_append_getElem (by omega),List.reverse_append,getD_lt (by omega)]
  rfl
theorem bkD_all (B:List Int):(bkD B B.length).map Prod.snd=B.reverse:=by rw [bkD_snd B _ (Nat.le_refl _),List.take_length]
theorem bkD_pre {B:List Int} {pre:List (Int × Int)} (h:pre <+: bkD B B.length):(pre.map Prod.snd).length≤B.length:=by
 have:=(h.map Prod.snd).length_le
 rw [bkD_all] at this
 simpa using this
def wds:List Int→Int
 | []=>0
 | u::l=>wd u+wds l
theorem wds_app (a b:List Int):wds (a++b)=wds a+wds b:=by
 induction a with
 | nil=>simp [wds]
 | cons u a ih=>simp only [List.cons_append,wds,ih];omega
theorem wd_lim (u:Int):0≤wd u∧wd u≤4:=by
 by_cases h1:(0≤u∧u≤127)∨(1114240≤u∧u≤1114367)
 · rw [wd_1 h1];omega
 by_cases h2:128≤u∧u≤2047
 · rw [wd_2 h2];omega
 by_cases h3:2048≤u∧u≤65535∧(u<55296∨57343<u)
 · rw [wd_3 h3];omega
 by_cases h4:65536≤u∧u≤1114111
 · rw [wd_4 h4];omega
 rw [wd_no (by omega) (by omega)];omega
def dep_valF8:Nat→List Nat
 | 1=>[0]
 | 2=>[1]
 | 3=>[2]
 | 5=>[4]
 | 6=>[3,5]
 | 7=>[0]
 | 8=>[7]
 | _=>[]
def valF8 (tb:Nat) (D u wu:Int):Nat→Option Value
 | 0=>some (.pointer (some ⟨tb,0,none⟩))
 | 1=>some (.pointer (some ⟨tb,0,none⟩))
 | 2=>some (.pointer (some ⟨tb,3,none⟩))
 | 3=>some (.int .i64 D)
 | 4=>some (.int .i64 u)
 | 5=>some (.int .i64 wu)
 | 6=>some (.int .i64 (D+wu))
 | 7=>some (.pointer (some ⟨tb,0,none⟩))
 | 8=>some (.pointer (some ⟨tb,3,none⟩))
 | _=>none
def valF12 (_wb tb:Nat) (bv:Value) (u:Int):Nat→Option Value
 | 0=>some (.pointer (some ⟨tb,0,none⟩))
 | 1=>some (.pointer (some ⟨tb,0,none⟩))
 | 2=>some (.pointer (some ⟨tb,0,none⟩))
 | 3=>some (.pointer (some ⟨tb,2,none⟩))
 | 4=>some (bv)
 | 5=>some (.int .i64 u)
 | 8=>some (.pointer (some ⟨tb,0,none⟩))
 | 9=>some (.pointer (some ⟨tb,2,none⟩))
 | _=>none
theorem rep60:(Array.replicate 60 undef:Array Value)=#[undef,undef,undef,undef,undef,undef,undef,undef,undef,undef,undef,undef,undef,undef,undef,undef,undef,undef,undef,undef,undef,undef,undef,undef,undef,undef,undef,undef,undef,undef,undef,undef,undef,undef,undef,undef,undef,undef,undef,undef,undef,undef,undef,undef,undef,undef,undef,undef,undef,undef,undef,undef,undef,undef,undef,undef,undef,undef,undef,undef]:=by kernel_rfl
set_option maxHeartbeats 4000000 in
theorem follow_plain {W:World} {tb base:Nat} {rv:Value} {s:ByteArray} {p:Nat} {bv:Value} {bk:List Int} {dn:Int} (h:TK W tb base rv s p bv bk dn) (x:Stp) (n:Nat) (hxt:x.t=n) (hn:n≤(lfO bk s p).length) (hb:bk.length≤3000000) (hs:s.size≤90000) (hba:base≤W.heap.size) (hd0:0≤dn) (hd1:dn≤1000000000) (hr:x.r<0):Calls Tryz.prog 37 #[.pointer (some ⟨tb,0,none⟩),.agg (fs1 x).toArray] W (FolQ W tb base rv s bv bk n [] ((lfO bk s p).drop n) (dn+wds ((lfO bk s p).take n))):=by
 obtain ⟨xr,xd,xl,xt,xa,xb⟩:=x
 simp only at hxt hr
 subst hxt
 have hrn:¬ 0≤xr:=by omega
 unfold fs1
 obtain ⟨W2,hW2⟩:∃ W2,W2=(W.alloc (.cells #[.pointer (some ⟨tb,0,none⟩)] 106)).alloc (.cells #[.int .i64 xr,.int .i64 xd,.int .i64 xl,.int .i64 (n:Int),.int .i64 xa,.int .i64 xb] 79):=⟨_,rfl⟩
 have hg2:Grown W W2:=by rw [hW2];exact ((Grown.refl W).alloc _).alloc _
 have hbb:W2.heap[W.heap.size]? = some (.cells #[.pointer (some ⟨tb,0,none⟩)] 106 (0,0)):=by rw [hW2];exact (Below.heap_alloc _ _ _ (by simp)).trans (heap_alloc_new W _)
 have hsb:W2.heap[W.heap.size+1]? = some (.cells #[.int .i64 xr,.int .i64 xd,.int .i64 xl,.int .i64 (n:Int),.int .i64 xa,.int .i64 xb] 79 (0,0)):=by rw [hW2];have:=heap_alloc_new (W.alloc (.cells #[.pointer (some ⟨tb,0,none⟩)] 106)) (.cells #[.int .i64 xr,.int .i64 xd,.int .i64 xl,.int .i64 (n:Int),.int .i64 xa,.int .i64 xb] 79);simpa using this
 have htb:=blk_lt h.blk
 have HBO:Hid (∀ b,bv.ownBlock=some b→b<W.heap.size):=fun b hb=>(World.ownsRow.lt h.own b hb).2
 have h2:=h.fr (fr_grown hg2 fun _=>False) id fun _ _=>id
 have HT2:Hid (Calls Tryz.prog 55 #[.pointer (some ⟨tb,0,none⟩),.int .i64 (n:Int)] W2 (TkQ W2 tb base rv s p bv bk dn n)):=take_any h2 n hn hb hs
 have HLN:Hid (n≤(lfO bk s p).length):=hn
 have hn9:n≤3900000:=by
  have h1:(intsU (unitsN s s.size p)).length≤s.size:=by rw [intsU_length];exact units_len_N s _ _
  unfold lfO at hn
  rw [List.length_append,List.length_reverse] at hn
  omega
 have hn9I:(n:Int)≤3900000:=by omega
 have HB2:Hid (Grown W W2∧W2.heap[W.heap.size]? = some (.cells #[.pointer (some ⟨tb,0,none⟩)] 106 (0,0))∧W2.heap[W.heap.size+1]? = some (.cells #[.int .i64 xr,.int .i64 xd,.int .i64 xl,.int .i64 (n:Int),.int .i64 xa,.int .i64 xb] 79 (0,0))):=⟨hg2,hbb,hsb⟩
 have z1:W2.cell? ⟨W.heap.size,0,none⟩=some (.pointer (some ⟨tb,0,none⟩)):=by rw [cell_of hbb];rfl
 have z2:W2.cell? ⟨W.heap.size+1,3,none⟩=some (.int .i64 (n:Int)):=by rw [cell_of hsb];rfl
 clear h h2 hn hg2 hbb hsb
 have hw2:=hW2.symm
 clear hW2
 refine (callsIn_wide (n:=6)).1 ?_
 refine callsIn_of_wp_marks Tryz.func37 rfl trivial ?_ rfl
 simp only [Tryz.ntmps37,List.size_toArray,List.length_cons,List.length_nil,Nat.reduceAdd,Nat.reduceSub]
 rw [rep60]
 simp only [List.append_toArray,List.nil_append,List.cons_append]
 refine wpIn_wide.2 ?_
 go_wp2_with (go_at_call 55;(try rw [hw2]);refine HT2.out.mono ?_;rintro e w3 ⟨tv,p1,bv1,bk1,rfl,t1,t2,t3,t4,t5,t6,t7⟩;have s1:=(t4.block _ (blk_lt HB2.out.2.1) (fun e=>by have e:W.heap.size=tb:=e;omega)).trans HB2.out.2.1;have s2:=(t4.block _ (blk_lt HB2.out.2.2) (fun e=>by have e:W.heap.size+1=tb:=e;omega)).trans HB2.out.2.2;have s0:w3.cell? ⟨W.heap.size+1,0,none⟩=some (.int .i64 xr):=(by rw [cell_of s2];rfl);obtain ⟨ta,tc,htv⟩:=t1.sl;rw [List.length_take,Nat.min_eq_left HLN.out] at htv;subst htv;have HT:=Hid.mk' (And.intro t1 (And.intro t2 (And.intro t3 (And.intro t4 (And.intro t5 (And.intro t6 t7))))));have HS:=Hid.mk' (And.intro s1 s2);clear t1 t2 t3 t4 t5 t6 t7 s1 s2)
 · have HL:Hid (IR w3 (.slice ta n tc) ((lfO bk s p).take n)∧((lfO bk s p).take n).length=n∧∀ b,(Value.slice ta n tc).ownBlock=some b→b≠tb):=⟨HT.out.1.ir,by rw [List.length_take,Nat.min_eq_left HLN.out],fun b hb e=>by have:=(World.ownsRow.lt HT.out.1 b hb).1;have:=HB2.out.1.size;omega⟩
   have HK0:Hid (TK w3 tb base rv s p1 bv1 bk1 dn∧w3.heap[W.heap.size]? = some (.cells #[.pointer (some ⟨tb,0,none⟩)] 106 (0,0))∧W.heap.size≠tb):=⟨HT.out.2.1,HS.out.1,by omega⟩
   have hln:n≤4000000:=by omega
   obtain ⟨L,hL⟩:∃ L,(lfO bk s p).take n=L:=⟨_,rfl⟩
   rw [hL] at HL
   have HLX:=Hid.mk' hL
   clear hL
   have HBK:Hid (IR w3 (.slice none 0 0) []∧([]:List Int).length=0∧∀ b,(Value.slice none 0 0).ownBlock=some b→W.heap.size<b∧b<w3.heap.size∧bv1.ownBlock≠some b):=⟨⟨none,0,rfl,Nat.le_refl _,.inl rfl⟩,rfl,fun b hb=>by cases hb⟩
   have HFW:Hid (Fr W w3 (fun k=>k=tb∨bv.ownBlock=some k)∧(∀ b,bv1.ownBlock=some b→bv.ownBlock=some b)∧bk1.length=bk.length - n∧lfO bk1 s p1=(lfO bk s p).drop n∧∀ b,bv.ownBlock=some b→b<W.heap.size):=⟨(fr_grown HB2.out.1 _).trans (HT.out.2.2.2.1.mono fun k _ e => .inl e) fun _ _ e=>e,HT.out.2.2.2.2.2.1,HT.out.2.2.2.2.2.2,HT.out.2.2.1,HBO.out⟩
   go_loopg [34] n (fun q s34 wr=>∃ i:Nat,s34 = .int .i64 (i:Int)∧i≤n∧n - i≤q∧Hid (TK wr tb base rv s p1 bv1 bk1 (dn+wds (L.take i))∧Fr w3 wr (fun k=>k=tb)∧0≤wds (L.take i)∧wds (L.take i)≤4*(i:Int)))
   case atStart=>exact ⟨0,rfl,by omega,by omega,by simpa [wds] using HK0.out.1,Fr.refl _ _,by simp [wds],by simp [wds]⟩
   case round=>
    obtain ⟨i,rfl,hi1,hi2,HR⟩:=hrel
    have hiI:(i:Int)≤4000000:=by omega
    by_cases hil:i<n
    · have hilI:(i:Int)<(n:Int):=by omega
      obtain ⟨r1,r2,r3,r4⟩:=HR.out
      obtain ⟨g,o,hae,ku⟩:=ir_cell (HL.out.1.fr r2 fun b hb e=>HL.out.2.2 b hb e) (j:=i) (by rw [HL.out.2.1];exact hil)
      subst hae
      obtain ⟨u,hu⟩:∃ u,L.getD i 0=u:=⟨_,rfl⟩
      rw [hu] at ku
      obtain ⟨D,hD⟩:∃ D,dn+wds (L.take i)=D:=⟨_,rfl⟩
      obtain ⟨wu,hwu⟩:∃ wu,wd u=wu:=⟨_,rfl⟩
      have hwl:=wd_lim u
      have HWD:Hid (∀ V,Calls Tryz.prog 46 #[.int .i64 u] V fun e w'=>e = .returned (.int .i64 wu)∧w'=V):=fun V=>by rw [←hwu];exact width_any u V
      have k0:wr.cell? ⟨W.heap.size,0,none⟩=some (.pointer (some ⟨tb,0,none⟩)):=by rw [cell_of ((r2.block _ (blk_lt HK0.out.2.1) HK0.out.2.2).trans HK0.out.2.1)];rfl
      have k3:wr.cell? ⟨tb,3,none⟩=some (.int .i64 D):=by rw [cell_of r1.blk,←hD];rfl
      have f3:wr.frozen? ⟨tb,3,none⟩=false:=free_of r1.blk
      have HWR:Hid (IntKind.i64.wrap (D+wu)=D+wu):=wrap_id (by omega) (by omega)
      have HDU:Hid (dn+wds (L.take i)=D∧wd u=wu∧L.getD i 0=u):=⟨hD,hwu,hu⟩
      clear r1 r2 r3 r4 hD hwu hu hwl
      go_wp2
      refine wp_region_inv2 mixed (by kernel_rfl) (by kernel_rfl) (by kernel_rfl) (JC dep_valF8 (valF8 tb D u wu) (fun _ v=>v) 9 wr.drew (fun _ W1=>W1=wr.drew.setCell ⟨tb,3,none⟩ (.int .i64 (D+wu)))) (JC.start _ _ _ _ _ _) ⟨?_,?_,?_,?_,?_,?_,?_,?_,?_,?_,trivial⟩ ?_
      · as_aux_lemma=>
         intro aA wx p vs hJ hdep hpi hval hfr K hK
         rw [if_pos (show Region.wanted _ _=true from rfl)]
         have zd0:aA.tmps.getD 2 undef = .pointer (some ⟨W.heap.size,0,none⟩):=hfr 2 (ndst (by kernel_rfl))
         have hW:=hJ.same 0 (by decide) hpi
         subst hW
         have hJ':=hJ.pure 0 (by decide) hpi rfl (dep_all hdep (by kernel_rfl))
         clear hval hfr hdep hJ
         simp only [Array.getD_eq_getD_getElem?] at zd0
         have hc:=k0
         go_simp
         exact hK _ _ hJ'
      · as_aux_lemma=>
         intro aA wx p vs hJ hdep hpi hval hfr K hK
         rw [if_pos (show Region.wanted _ _=true from rfl)]
         have zd0:aA.tmps.getD 38 undef = .pointer (some ⟨tb,0,none⟩):=(hval 0 _ 38 (hdep 0 (by kernel_rfl)) (by rfl) rfl).trans (hJ.v 0 _ (by decide) rfl (hdep 0 (by kernel_rfl)))
         have hW:=hJ.same 1 (by decide) hpi
         subst hW
         have hJ':=hJ.pure 1 (by decide) hpi rfl (dep_all hdep (by kernel_rfl))
         clear hval hfr hdep hJ
         simp only [Array.getD_eq_getD_getElem?] at zd0
         go_simp
         exact hK _ _ hJ'
      · as_aux_lemma=>
         intro aA wx p vs hJ hdep hpi hval hfr K hK
         rw [if_pos (show Region.wanted _ _=true from rfl)]
         have zd0:aA.tmps.getD 39 undef = .pointer (some ⟨tb,0,none⟩):=(hval 1 _ 39 (hdep 1 (by kernel_rfl)) (by rfl) rfl).trans (hJ.v 1 _ (by decide) rfl (hdep 1 (by kernel_rfl)))
         have hW:=hJ.same 2 (by decide) hpi
         subst hW
         have hJ':=hJ.pure 2 (by decide) hpi rfl (dep_all hdep (by kernel_rfl))
         clear hval hfr hdep hJ
         simp only [Array.getD_eq_getD_getElem?] at zd0
         go_simp
         exact hK _ _ hJ'
      · as_aux_lemma=>
         intro aA wx p vs hJ hdep hpi hval hfr K hK
         rw [if_pos (show Region.wanted _ _=true from rfl)]
         have zd0:aA.tmps.getD 40 undef = .pointer (some ⟨tb,3,none⟩):=(hval 2 _ 40 (hdep 2 (by kernel_rfl)) (by rfl) rfl).trans (hJ.v 2 _ (by decide) rfl (hdep 2 (by kernel_rfl)))
         have hW:=hJ.same 3 (by decide) hpi
         subst hW
         have hJ':=hJ.pure 3 (by decide) hpi rfl (dep_all hdep (by kernel_rfl))
         clear hval hfr hdep hJ
         simp only [Array.getD_eq_getD_getElem?] at zd0
         have hc:=k3
         go_simp
         exact hK _ _ hJ'
      · as_aux_lemma=>
         intro aA wx p vs hJ hdep hpi hval hfr K hK
         rw [if_pos (show Region.wanted _ _=true from rfl)]
         have zd0:aA.tmps.getD 8 undef = .int .i64 u:=hfr 8 (ndst (by kernel_rfl))
         have hW:=hJ.same 4 (by decide) hpi
         subst hW
         have hJ':=hJ.pure 4 (by decide) hpi rfl (dep_all hdep (by kernel_rfl))
         clear hval hfr hdep hJ
         simp only [Array.getD_eq_getD_getElem?] at zd0
         go_simp
         exact hK _ _ hJ'
      · as_aux_lemma=>
         intro aA wx p vs hJ hdep hpi hval hfr K hK
         rw [if_pos (show Region.wanted _ _=true from rfl)]
         have zd0:aA.tmps.getD 42 undef = .int .i64 u:=(hval 4 _ 42 (hdep 4 (by kernel_rfl)) (by rfl) rfl).trans (hJ.v 4 _ (by decide) rfl (hdep 4 (by kernel_rfl)))
         have hW:=hJ.same 5 (by decide) hpi
         subst hW
         have hJ':=hJ.pure 5 (by decide) hpi rfl (dep_all hdep (by kernel_rfl))
         clear hval hfr hdep hJ
         simp only [Array.getD_eq_getD_getElem?] at zd0
         have hKK:=Hid.mk' hK
         clear hK
         go_simp
         go_at_call 46
         refine (HWD.out _).mono ?_
         rintro e w' ⟨rfl,hx⟩
         have hx:=hx.symm
         subst hx
         exact hKK.out _ _ hJ'
      · as_aux_lemma=>
         intro aA wx p vs hJ hdep hpi hval hfr K hK
         rw [if_pos (show Region.wanted _ _=true from rfl)]
         have zd0:aA.tmps.getD 41 undef = .int .i64 D:=(hval 3 _ 41 (hdep 3 (by kernel_rfl)) (by rfl) rfl).trans (hJ.v 3 _ (by decide) rfl (hdep 3 (by kernel_rfl)))
         have zd1:aA.tmps.getD 43 undef = .int .i64 wu:=(hval 5 _ 43 (hdep 5 (by kernel_rfl)) (by rfl) rfl).trans (hJ.v 5 _ (by decide) rfl (hdep 5 (by kernel_rfl)))
         have hW:=hJ.same 6 (by decide) hpi
         subst hW
         have hJ':=hJ.pure 6 (by decide) hpi rfl (dep_all hdep (by kernel_rfl))
         clear hval hfr hdep hJ
         simp only [Array.getD_eq_getD_getElem?] at zd0 zd1
         have hw:=HWR.out
         go_simp
         exact hK _ _ hJ'
      · as_aux_lemma=>
         intro aA wx p vs hJ hdep hpi hval hfr K hK
         rw [if_pos (show Region.wanted _ _=true from rfl)]
         have zd0:aA.tmps.getD 38 undef = .pointer (some ⟨tb,0,none⟩):=(hval 0 _ 38 (hdep 0 (by kernel_rfl)) (by rfl) rfl).trans (hJ.v 0 _ (by decide) rfl (hdep 0 (by kernel_rfl)))
         have hW:=hJ.same 7 (by decide) hpi
         subst hW
         have hJ':=hJ.pure 7 (by decide) hpi rfl (dep_all hdep (by kernel_rfl))
         clear hval hfr hdep hJ
         simp only [Array.getD_eq_getD_getElem?] at zd0
         go_simp
         exact hK _ _ hJ'
      · as_aux_lemma=>
         intro aA wx p vs hJ hdep hpi hval hfr K hK
         rw [if_pos (show Region.wanted _ _=true from rfl)]
         have zd0:aA.tmps.getD 45 undef = .pointer (some ⟨tb,0,none⟩):=(hval 7 _ 45 (hdep 7 (by kernel_rfl)) (by rfl) rfl).trans (hJ.v 7 _ (by decide) rfl (hdep 7 (by kernel_rfl)))
         have hW:=hJ.same 8 (by decide) hpi
         subst hW
         have hJ':=hJ.pure 8 (by decide) hpi rfl (dep_all hdep (by kernel_rfl))
         clear hval hfr hdep hJ
         simp only [Array.getD_eq_getD_getElem?] at zd0
         go_simp
         exact hK _ _ hJ'
      · as_aux_lemma=>
         intro aA wx p vs hJ hdep hpi hval hfr K hK
         rw [if_pos (show Region.wanted _ _=true from rfl)]
         have zd0:aA.tmps.getD 46 undef = .pointer (some ⟨tb,3,none⟩):=(hval 8 _ 46 (hdep 8 (by kernel_rfl)) (by rfl) rfl).trans (hJ.v 8 _ (by decide) rfl (hdep 8 (by kernel_rfl)))
         have zd1:aA.tmps.getD 44 undef = .int .i64 (D+wu):=(hval 6 _ 44 (hdep 6 (by kernel_rfl)) (by rfl) rfl).trans (hJ.v 6 _ (by decide) rfl (hdep 6 (by kernel_rfl)))
         have hW:=(hJ.n hpi).1
         subst hW
         have hp6:=hdep 6 (by kernel_rfl)
         have hp8:=hdep 8 (by kernel_rfl)
         have hp3:=hJ.c 6 3 (by decide) (by decide) hp6
         have hp5:=hJ.c 6 5 (by decide) (by decide) hp6
         have hp7:=hJ.c 8 7 (by decide) (by decide) hp8
         have hp2:=hJ.c 3 2 (by decide) (by decide) hp3
         have hp4:=hJ.c 5 4 (by decide) (by decide) hp5
         have hp0:=hJ.c 7 0 (by decide) (by decide) hp7
         have hp1:=hJ.c 2 1 (by decide) (by decide) hp2
         have hJ':=fun x W' hr=>hJ.called (x:=x) (W':=W') hpi (fun k hk=>by have h0:k<9:=hk;match k,h0 with | 0,_=>exact hp0 | 1,_=>exact hp1 | 2,_=>exact hp2 | 3,_=>exact hp3 | 4,_=>exact hp4 | 5,_=>exact hp5 | 6,_=>exact hp6 | 7,_=>exact hp7 | 8,_=>exact hp8 | k+9,h=>omega) hr
         clear hval hfr hdep hJ hp0 hp1 hp2 hp3 hp4 hp5 hp6 hp7 hp8
         simp only [Array.getD_eq_getD_getElem?] at zd0 zd1
         have hc:=k3
         have hf:=f3
         go_simp
         exact hK undef _ (hJ' undef _ rfl)
      · intro vs W4 hJ
        rw [putL_eq]
        simp only [putsL,List.set_cons_zero,List.set_cons_succ,Nat.zero_add,Nat.reduceAdd]
        have HW4:=Hid.mk' (hJ.s rfl).2
        clear hJ
        generalize vs 0=y0
        generalize vs 1=y1
        generalize vs 2=y2
        generalize vs 3=y3
        generalize vs 4=y4
        generalize vs 5=y5
        generalize vs 6=y6
        generalize vs 7=y7
        generalize vs 8=y8
        go_wp2
        go_roundg (n - (i+1))
        case measure=>omega
        case rel=>
         have hW4:=HW4.out
         obtain ⟨r1,r2,r3,r4⟩:=HR.out
         obtain ⟨d1,d2,d3⟩:=HDU.out
         have fW:Fr wr W4 (fun k=>k=tb):=by rw [hW4];exact (fr_grown (Grown.refl wr).drew _).trans (fr_set _ _ _ _) fun _ _ e=>e
         have hil2:i<L.length:=by rw [HL.out.2.1];exact hil
         have htk:wds (L.take (i+1))=wds (L.take i)+wu:=by
          rw [List.take_succ_eq_append_getElem hil2,wds_app,←getD_lt hil2,d3]
          simp only [wds]
          omega
         have hwl:=wd_lim u
         refine ⟨i+1,rfl,by omega,Nat.le_refl _,⟨?_,own_fr r1.own fW fun b hb e=>r1.ne b hb e,r1.pl,r1.ne⟩,r2.trans fW fun _ _ e=>e,by omega,by rw [htk];omega⟩
         rw [hW4,set_heap (show wr.drew.heap[tb]? = _ from r1.blk),htk,←Int.add_assoc,d1]
         rfl
    · have hie:n=i:=by omega
      subst hie
      clear hiI hi1 hi2
      obtain ⟨r1,r2,r3,r4⟩:=HR.out
      go_wp2_with (go_at_call 57;refine (backward_any _ _ _ _).mono ?_;rintro e w5 ⟨rfl,hx⟩;have HX5:=Hid.mk' hx;clear hx)
      refine (wpIn_wide (n:=6)).1 ?_
      have h5s:w5.heap.size=wr.heap.size+1:=by rw [HX5.out];simp
      have g5:Grown wr w5:=by rw [HX5.out];exact (Grown.refl wr).alloc _
      have hbx5:w5.heap[wr.heap.size]? = some (.cells #[.slice none 0 0] 46 (0,0)):=by rw [HX5.out];exact heap_alloc_new _ _
      have hW3:W.heap.size<w3.heap.size:=blk_lt HK0.out.2.1
      have hir5:IR wr (.slice none 0 0) []:=HBK.out.1.fr r2 fun b hb e=>by have e:b=tb:=e;have:=(HBK.out.2.2 b hb).1;omega
      have htl:L.take n=L:=List.take_of_length_le (by rw [HL.out.2.1];exact Nat.le_refl _)
      rw [htl] at r1 r3 r4
      have hwr:=r2.size
      refine wpIn_overF (enc:=encB) (by omega) (gf:=93) (pa:=#[]) (lb:=#[.pointer (some ⟨wr.heap.size,0,none⟩)]) rfl (enters_of Tryz.func93 (by kernel_rfl) rfl) (xf:=bkD [] ([]:List Int).length) (b:=0) (h:=w5.heap.size) (F0:=BkF wr.heap.size (.slice none 0 0)) (E:=fun _ _=>True) rfl (Nat.zero_le _) ?hF0
       (fun r=>back_seqF (((((Grown.refl w5).alloc (.deferred (some []))).alloc (.loop r)).below.block _ (blk_lt hbx5)).trans hbx5) ((hir5.grown g5).grown (((Grown.refl w5).alloc (.deferred (some []))).alloc (.loop r))) (by have:=HBK.out.2.1;omega) _ _ (by omega))
       (fun _ _ _ _ _=>trivial) (fun _=>rfl) (FlI W tb base rv s p1 bv bk1 (dn+wds L) w5.heap.size) (fun _ _ _ _=>False) (FlI.stab htb (by omega)) (fun _ _ _ _ _ _ h=>h.elim) ?hI0 ?hround ?hdone (fun _ _ _ _ _ _ _ h=>h.elim)
      case hF0=>
       rintro k (e | e)
       · omega
       · have:=(HBK.out.2.2 k e).2.1;omega
      case hI0=>
       intro r
       have hg:Grown wr ((w5.alloc (.deferred (some []))).alloc (.loop r)):=(g5.alloc _).alloc _
       have hvs:((w5.alloc (.deferred (some []))).alloc (.loop r)).heap.size=w5.heap.size+2:=by simp
       have hbw:=(r2.block _ (blk_lt HK0.out.2.1) HK0.out.2.2).trans HK0.out.2.1
       refine ⟨bv1,by simpa using r1.fr (fr_grown hg fun _=>False) id fun _ _=>id,(hg.below.block _ (blk_lt hbw)).trans hbw,(HFW.out.1.trans (r2.mono fun k _ e => .inl e) fun _ _ e=>e).trans (fr_grown hg _) fun _ _ e=>e,?_,?_⟩
       · rintro k (e | e)
         · omega
         · have:=HBK.out.2.2 k e;omega
       · intro b hb
         have e1:=HFW.out.2.1 b hb
         have e2:=HFW.out.2.2.2.2 b e1
         refine ⟨.inl e1,?_,by omega,by omega⟩
         rintro (e | e)
         · omega
         · exact (HBK.out.2.2 b e).2.2 hb
      case hround=>
       intro pre x F Wd hpre hsz z0 z1 _
       rw [show (#[50,51]:Array Tmp).zip (encB x)=#[(50,Value.int .i64 x.1),(51,Value.int .i64 x.2)] from by simp [encB,List.zip_toArray]]
       gi_wp2
       refine ⟨Grown.refl _,?_⟩
       rintro X ⟨bvx,k1,k2,k3,k4,k5⟩ hXs hXk _
       obtain ⟨bkx,hbkx⟩:∃ l,bk1++pre.map Prod.snd=l:=⟨_,rfl⟩
       rw [hbkx] at k1
       obtain ⟨u,hu⟩:∃ u,x.2=u:=⟨_,rfl⟩
       rw [hu]
       obtain ⟨xa,xc,hbv⟩:=k1.own.sl
       obtain ⟨bn,hbn⟩:∃ bn,bkx.length=bn:=⟨_,rfl⟩
       rw [hbn] at hbv
       subst hbv
       have htX:tb<X.heap.size:=blk_lt k1.blk
       have hbX:W.heap.size<X.heap.size:=blk_lt k2
       have kb:X.cell? ⟨W.heap.size,0,none⟩=some (.pointer (some ⟨tb,0,none⟩)):=by rw [cell_of k2];rfl
       have hne:∀ k,(Value.slice xa bn xc).ownBlock=some k→k<X.heap.size∧k≠tb:=fun k hk=>⟨(World.ownsRow.lt k1.own k hk).2,k1.ne k hk⟩
       have hnb:(Value.slice xa bn xc).ownBlock≠some W.heap.size:=fun e=>by
        rcases (k5 _ e).1 with e2 | e2
        · have:=HFW.out.2.2.2.2 _ e2;omega
        · omega
       have hDb:¬ ((Value.slice xa bn xc).ownBlock=some W.heap.size∨W.heap.size=tb):=fun e=>by
        rcases e with e | e
        · exact hnb e
        · omega
       have hbl:bkx.length+1≤8000000:=by
        rw [←hbkx,List.length_append]
        have h1:=bkD_pre ((List.prefix_append _ _).trans hpre)
        have h2:=HBK.out.2.1
        have h3:=HFW.out.2.2.1
        omega
       have hbase:base≤X.heap.size:=by have:=k3.size;omega
       have HJX:Hid (tb<X.heap.size∧W.heap.size<X.heap.size∧(∀ k,(Value.slice xa bn xc).ownBlock=some k→k<X.heap.size∧k≠tb)∧¬ ((Value.slice xa bn xc).ownBlock=some W.heap.size∨W.heap.size=tb)∧bkx.length+1≤8000000∧base≤X.heap.size):=⟨htX,hbX,hne,hDb,hbl,hbase⟩
       have HKK:Hid (TK X tb base rv s p1 (.slice xa bn xc) bkx (dn+wds L)∧X.heap[W.heap.size]? = some (.cells #[.pointer (some ⟨tb,0,none⟩)] 106 (0,0))∧Fr W X (fun k=>k=tb∨bv.ownBlock=some k)∧(∀ k,F k→W.heap.size<k∧k<X.heap.size)∧(∀ b,(Value.slice xa bn xc).ownBlock=some b→(bv.ownBlock=some b∨W.heap.size<b)∧¬ F b∧b≠w5.heap.size∧b≠w5.heap.size+1)∧(Value.slice xa bn xc).ownBlock≠some W.heap.size∧w5.heap.size+2≤X.heap.size):=⟨k1,k2,k3,k4,k5,hnb,by omega⟩
       have HJ0:Hid (JB X tb base (.slice xa bn xc) bkx u (fun b=>#[rv,.string (s.extract p1 s.size),b,.int .i64 (dn+wds L)]) (valF12 W.heap.size tb (.slice xa bn xc) u) (fun _=>false) (fun _=>undef) X.drew):=⟨fun _ _ _ h=>(by cases h),fr_grown (Grown.refl X).drew _,fun _=>k1.blk,fun h=>(by cases h),fun _=>own_fr k1.own (fr_grown (Grown.refl X).drew fun _=>False) fun _ _ e=>e,fun h=>(by cases h),fun h=>(by cases h),fun h=>(by cases h),fun h=>(by cases h)⟩
       have HFIN:Hid (dn+wds L=dn+wds L∧x.2=u∧bkx=bk1++pre.map Prod.snd∧bkx.length=bn):=⟨rfl,hu,hbkx.symm,hbn⟩
       clear k1 k2 k3 k4 k5 hXs hXk hne hnb hDb hbl hbase hbkx hu hbn htX hbX
       gi_wp2
       refine wpIn_region_inv mixed (by kernel_rfl) (by kernel_rfl) (by kernel_rfl) (JB X tb base (.slice xa bn xc) bkx u (fun b=>#[rv,.string (s.extract p1 s.size),b,.int .i64 (dn+wds L)]) (valF12 W.heap.size tb (.slice xa bn xc) u)) HJ0.out ⟨?_,?_,?_,?_,?_,?_,?_,?_,?_,?_,?_,trivial⟩ ?_
       · as_aux_lemma=>
          intro aA wx p vs hJ hdep hpi hval hfr K hK
          rw [if_pos (show Region.wanted _ _=true from rfl)]
          have zd0:aA.tmps.getD 2 undef = .pointer (some ⟨W.heap.size,0,none⟩):=hfr 2 (by kernel_rfl)
          have hc:wx.cell? ⟨W.heap.size,0,none⟩=some (.pointer (some ⟨tb,0,none⟩)):=(cell_fr2 hJ.f HJX.out.2.2.2.1 HJX.out.2.1).trans kb
          have hJ':=hJ.put 0 rfl
          clear hval hfr hdep hJ
          simp only [Array.getD_eq_getD_getElem?] at zd0
          go_simp
          exact hK _ _ hJ'
       · as_aux_lemma=>
          intro aA wx p vs hJ hdep hpi hval hfr K hK
          rw [if_pos (show Region.wanted _ _=true from rfl)]
          have zd0:aA.tmps.getD 2 undef = .pointer (some ⟨W.heap.size,0,none⟩):=hfr 2 (by kernel_rfl)
          have hc:wx.cell? ⟨W.heap.size,0,none⟩=some (.pointer (some ⟨tb,0,none⟩)):=(cell_fr2 hJ.f HJX.out.2.2.2.1 HJX.out.2.1).trans kb
          have hJ':=hJ.put 1 rfl
          clear hval hfr hdep hJ
          simp only [Array.getD_eq_getD_getElem?] at zd0
          go_simp
          exact hK _ _ hJ'
       · as_aux_lemma=>
          intro aA wx p vs hJ hdep hpi hval hfr K hK
          rw [if_pos (show Region.wanted _ _=true from rfl)]
          have zd0:aA.tmps.getD 53 undef = .pointer (some ⟨tb,0,none⟩):=(hval 1 _ 53 (hdep 1 (by kernel_rfl)) (by rfl) rfl).trans (hJ.v 1 _ rfl (hdep 1 (by kernel_rfl)))
          have hJ':=hJ.put 2 rfl
          clear hval hfr hdep hJ
          simp only [Array.getD_eq_getD_getElem?] at zd0
          go_simp
          exact hK _ _ hJ'
       · as_aux_lemma=>
          intro aA wx p vs hJ hdep hpi hval hfr K hK
          rw [if_pos (show Region.wanted _ _=true from rfl)]
          have zd0:aA.tmps.getD 54 undef = .pointer (some ⟨tb,0,none⟩):=(hval 2 _ 54 (hdep 2 (by kernel_rfl)) (by rfl) rfl).trans (hJ.v 2 _ rfl (hdep 2 (by kernel_rfl)))
          have hJ':=hJ.put 3 rfl
          clear hval hfr hdep hJ
          simp only [Array.getD_eq_getD_getElem?] at zd0
          go_simp
          exact hK _ _ hJ'
       · as_aux_lemma=>
          intro aA wx p vs hJ hdep hpi hval hfr K hK
          rw [if_pos (show Region.wanted _ _=true from rfl)]
          have zd0:aA.tmps.getD 55 undef = .pointer (some ⟨tb,2,none⟩):=(hval 3 _ 55 (hdep 3 (by kernel_rfl)) (by rfl) rfl).trans (hJ.v 3 _ rfl (hdep 3 (by kernel_rfl)))
          have hc:wx.cell? ⟨tb,2,none⟩=some (.slice xa bn xc):=by rw [cell_of (hJ.n (hJ.no10 (hJ.no7 (.inl hpi))))];rfl
          have hJ':=hJ.put 4 rfl
          clear hval hfr hdep hJ
          simp only [Array.getD_eq_getD_getElem?] at zd0
          go_simp
          exact hK _ _ hJ'
       · as_aux_lemma=>
          intro aA wx p vs hJ hdep hpi hval hfr K hK
          rw [if_pos (show Region.wanted _ _=true from rfl)]
          have zd0:aA.tmps.getD 10 undef = .int .i64 u:=hfr 10 (by kernel_rfl)
          have hJ':=hJ.put 5 rfl
          clear hval hfr hdep hJ
          simp only [Array.getD_eq_getD_getElem?] at zd0
          go_simp
          exact hK _ _ hJ'
       · as_aux_lemma=>
          intro aA wx p vs hJ hdep hpi hval hfr K hK
          rw [if_pos (show Region.wanted _ _=true from rfl)]
          have zd0:aA.tmps.getD 57 undef = .int .i64 u:=(hval 5 _ 57 (hdep 5 (by kernel_rfl)) (by rfl) rfl).trans (hJ.v 5 _ rfl (hdep 5 (by kernel_rfl)))
          have hJ':=hJ.six hpi rfl
          clear hval hfr hdep hJ
          simp only [Array.getD_eq_getD_getElem?] at zd0
          go_simp
          exact hK _ _ hJ'
       · as_aux_lemma=>
          intro aA wx p vs hJ hdep hpi hval hfr K hK
          rw [if_pos (show Region.wanted _ _=true from rfl)]
          have zd0:aA.tmps.getD 56 undef = .slice xa bn xc:=(hval 4 _ 56 (hdep 4 (by kernel_rfl)) (by rfl) rfl).trans (hJ.v 4 _ rfl (hdep 4 (by kernel_rfl)))
          have zd1:aA.tmps.getD 58 undef=vs 6:=hval 6 _ 58 (hdep 6 (by kernel_rfl)) (by rfl) rfl
          obtain ⟨g,hvg,hgX,hgc⟩:=hJ.e6 (hdep 6 (by kernel_rfl))
          rw [hvg] at zd1
          obtain ⟨v',w',hrun,q1,q2,q3⟩:=run_appI wx 72 base (.slice xa bn xc) bkx [u] (.slice (some ⟨g,0,none⟩) 1 1) (hJ.s0 hpi) (ir_lone hgc) (by have:=HJX.out.2.2.2.2.1;simp;omega) (by have:=hJ.f.size;have:=HJX.out.2.2.2.2.2;omega)
          have hJ':=hJ.seven hpi (hdep 4 (by kernel_rfl)) (hdep 6 (by kernel_rfl)) rfl HJX.out.1 HJX.out.2.2.1 q1 q2 q3
          clear hval hfr hdep hJ
          exact op_appendIn rfl zd0 zd1 hrun (hK _ _ hJ')
       · as_aux_lemma=>
          intro aA wx p vs hJ hdep hpi hval hfr K hK
          rw [if_pos (show Region.wanted _ _=true from rfl)]
          have zd0:aA.tmps.getD 52 undef = .pointer (some ⟨tb,0,none⟩):=(hval 0 _ 52 (hdep 0 (by kernel_rfl)) (by rfl) rfl).trans (hJ.v 0 _ rfl (hdep 0 (by kernel_rfl)))
          have hJ':=hJ.put 8 rfl
          clear hval hfr hdep hJ
          simp only [Array.getD_eq_getD_getElem?] at zd0
          go_simp
          exact hK _ _ hJ'
       · as_aux_lemma=>
          intro aA wx p vs hJ hdep hpi hval hfr K hK
          rw [if_pos (show Region.wanted _ _=true from rfl)]
          have zd0:aA.tmps.getD 60 undef = .pointer (some ⟨tb,0,none⟩):=(hval 8 _ 60 (hdep 8 (by kernel_rfl)) (by rfl) rfl).trans (hJ.v 8 _ rfl (hdep 8 (by kernel_rfl)))
          have hJ':=hJ.put 9 rfl
          clear hval hfr hdep hJ
          simp only [Array.getD_eq_getD_getElem?] at zd0
          go_simp
          exact hK _ _ hJ'
       · as_aux_lemma=>
          intro aA wx p vs hJ hdep hpi hval hfr K hK
          rw [if_pos (show Region.wanted _ _=true from rfl)]
          have zd0:aA.tmps.getD 61 undef = .pointer (some ⟨tb,2,none⟩):=(hval 9 _ 61 (hdep 9 (by kernel_rfl)) (by rfl) rfl).trans (hJ.v 9 _ rfl (hdep 9 (by kernel_rfl)))
          have zd1:aA.tmps.getD 59 undef=vs 7:=hval 7 _ 59 (hdep 7 (by kernel_rfl)) (by rfl) rfl
          have hp7:=hdep 7 (by kernel_rfl)
          obtain ⟨va,vc,hv7⟩:=(hJ.s1 hp7).1.sl
          rw [List.length_append,List.length_singleton] at hv7
          have hJ':=hJ.ten (z:=undef) hp7 hpi rfl HJX.out.1 HJX.out.2.2.1 (fun _ _=>rfl)
          have hc:wx.cell? ⟨tb,2,none⟩=some (.slice xa bn xc):=by rw [cell_of (hJ.n hpi)];rfl
          have hf:wx.frozen? ⟨tb,2,none⟩=false:=free_of (hJ.n hpi)
          rw [hv7] at zd1 hJ'
          clear hval hfr hdep hJ hp7
          simp only [Array.getD_eq_getD_getElem?] at zd0 zd1
          go_simp
          exact hK undef _ hJ'
       · intro vs W' hJ
         obtain ⟨k1,k2,k3,k4,k5,k6,k7⟩:=HKK.out
         obtain ⟨_,f2,f3,_⟩:=HFIN.out
         exact FlI.pushed htb (by omega) k7 z0 z1 k1 k2 k3 k4 k5 k6 hJ f2 f3
      case hdone=>
       rintro F Wd z0 z1 ⟨bvx,k1,k2,k3,k4,k5⟩ _ hK
       have HKK:Hid (TK Wd tb base rv s p1 bvx (bk1++(bkD [] ([]:List Int).length).map Prod.snd) (dn+wds L)∧Fr W Wd (fun k=>k=tb∨bv.ownBlock=some k)∧∀ b,bvx.ownBlock=some b→(bv.ownBlock=some b∨W.heap.size<b)∧b≠w5.heap.size):=⟨k1,k3,fun b hb=>⟨(k5 b hb).1,(k5 b hb).2.2.1⟩⟩
       clear k1 k2 k3 k4 k5
       gi_wp2
       refine ⟨by simp,.inl ⟨_,_,rfl,run_takeDeferred hK,?_⟩⟩
       rw [HLX.out]
       refine ⟨_,results_none rfl _ _ _,_,p1,bvx,_,rfl,HKK.out.1.fr (fr_put _) (fun e=>by omega) (fun b hb e=>(HKK.out.2.2 b hb).2 e),?_,HKK.out.2.1.trans (fr_put _) (fun k hk e=>by omega),fun b hb=>(HKK.out.2.2 b hb).1,?_⟩
       · rw [bkD_all,←HFW.out.2.2.2.1]
         simp [lfO]
       · rw [bkD_all,List.length_append,List.length_reverse]
         have:=HFW.out.2.2.1
         omega
end Go.Proofs
