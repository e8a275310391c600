/-
  Several texts in one (S4z S5z).
-/
import Derived.Test.YtcfcjljapamcoaaGreatDoorMpvz
namespace Go.Proofs
open Go.RowKit Go.Shelf
set_option maxRecDepth 100000
inductive Rn (rs:List Rl):List Int→List Int→List Int→Prop
 | nil (d:List Int):Rn rs d [] d
 | step (d l D:List Int):l≠[]→Rn rs (d++layd rs d l) (lefd rs d l) D→Rn rs d l D
theorem rn_of_go {rs:List Rl} {l0:List Int} : ∀ m k,(go3 rs l0 (k+m)).2.2=[]→Rn rs (go3 rs l0 k).2.1 (go3 rs l0 k).2.2 (go3 rs l0 (k+m)).2.1
 | 0,k,h=>by
  rw [Nat.add_zero] at h ⊢
  rw [h]
  exact .nil _
 | m+1,k,h=>by
  by_cases e:(go3 rs l0 k).2.2=[]
  · rw [go3_stay e,e]
    exact .nil _
  · have ih:=rn_of_go m (k+1) (by rw [show k+1+m=k+(m+1) by omega];exact h)
    rw [show k+1+m=k+(m+1) by omega] at ih
    have e1:go3 rs l0 (k+1)=((go3 rs l0 k).1++[stp rs (go3 rs l0 k).2.1 (go3 rs l0 k).2.2],(go3 rs l0 k).2.1++layd rs (go3 rs l0 k).2.1 (go3 rs l0 k).2.2,lefd rs (go3 rs l0 k).2.1 (go3 rs l0 k).2.2):=by rw [go3,if_neg e]
    rw [e1] at ih
    exact .step _ _ _ e ih
theorem G3.rn {rs:List Rl} {l0:List Int} {xs:List Stp} {d:List Int} (h:G3 rs l0 xs d []):Rn rs [] l0 d:=by
 unfold G3 at h
 have:=rn_of_go (rs:=rs) (l0:=l0) xs.length 0 (by rw [Nat.zero_add,h])
 rw [Nat.zero_add,h] at this
 exact this
theorem Rn.one {rs:List Rl} {d l D D':List Int} (h:Rn rs d l D) (h':Rn rs d l D'):D=D':=by
 induction h with
 | nil d=>
  cases h' with
  | nil=>rfl
  | step _ _ _ hl _=>exact absurd rfl hl
 | step d l D hl _ ih=>
  cases h' with
  | nil=>exact absurd rfl hl
  | step _ _ _ _ h2=>exact ih h2
theorem Rn.pre {rs:List Rl} {d l D:List Int} (h:Rn rs d l D):∃ e,D=d++e:=by
 induction h with
 | nil d=>exact ⟨[],by simp⟩
 | step d l D _ _ ih=>
  obtain ⟨e,rfl⟩:=ih
  exact ⟨layd rs d l++e,by simp⟩
theorem nxt_some {rs:List Rl} {d l:List Int} {i:Nat} {r:Rl} (hi:rs[i]? = some r) (hf:stF r d l=true):∀ k,i<k→0≤nxtK rs d l k
 | 0,h=>by omega
 | k+1,h=>by
  rw [nxtK]
  split
  · omega
  · rename_i hc
    by_cases e:i=k
    · subst e
      rw [hi] at hc
      simp only [Option.map_some,Option.getD_some,hf,true_and] at hc
      omega
    · exact nxt_some hi hf k (by omega)
theorem rule_some {rs:List Rl} {d l:List Int} {r:Rl} (h:ruleN rs d l=some r):r∈rs∧stF r d l=true:=by
 unfold ruleN at h
 rcases nxtK_is rs d l rs.length (Nat.le_refl _) with e | ⟨i,hi,_,e,hf⟩
 · rw [e] at h
   cases h
 · rw [e,if_neg (by omega)] at h
   have:rs[((i:Nat):Int).toNat]? = some rs[i]:=by simp [hi]
   rw [this] at h
   injection h with h
   subst h
   exact ⟨List.getElem_mem hi,hf⟩
theorem rule_ex {rs:List Rl} {d l:List Int} {r:Rl} (hr:r∈rs) (hf:stF r d l=true):∃ x,ruleN rs d l=some x:=by
 obtain ⟨i,hi,rfl⟩:=List.mem_iff_getElem.1 hr
 have h0:=nxt_some (List.getElem?_eq_getElem hi) hf rs.length hi
 unfold ruleN
 rcases nxtK_is rs d l rs.length (Nat.le_refl _) with e | ⟨j,hj,_,e,_⟩
 · rw [e] at h0
   omega
 · rw [e,if_neg (by omega)]
   exact ⟨rs[j],by simp [hj]⟩
theorem rule_none {rs:List Rl} {d l:List Int} (h:ruleN rs d l=none) {r:Rl} (hr:r∈rs):stF r d l=false:=by
 cases hf:stF r d l with
 | false=>rfl
 | true=>
  obtain ⟨x,hx⟩:=rule_ex hr hf
  rw [h] at hx
  cases hx
theorem over_none {rs:List Rl} {d l:List Int} (h:ruleN rs d l=none):layd rs d l=l.take 1∧lefd rs d l=l.drop 1:=by
 unfold layd lefd
 rw [h]
 exact ⟨rfl,rfl⟩
theorem done_some {rs:List Rl} {d l:List Int} {r:Rl} (h:ruleN rs d l=some r) (hc:r.cu=r.res.length):layd rs d l=outs r (l.take r.key.length)∧lefd rs d l=l.drop r.key.length:=by
 unfold layd lefd
 rw [h]
 have h1:=outs_len r (l.take r.key.length)
 constructor
 · show (outs r (l.take r.key.length)).take r.cu.toNat=_
   rw [List.take_of_length_le (by omega)]
 · show (outs r (l.take r.key.length)).drop r.cu.toNat++_=_
   rw [List.drop_eq_nil_of_le (by omega),List.nil_append]
theorem cu_all {r:Rl} (ho:Ok r) (hb:Bk r):r.cu=r.res.length:=by
 have h1:=hb.cu
 rw [img_len] at h1
 have:=ho.c1
 omega
theorem core_key {rs:List Rl} {r:Rl} (hr:r∈rs) {i:Nat} {u:Int} (hi:i<r.key.length) (h:hasB (keyAt r.key i) u=true):InC rs u:=by
 refine ⟨keyAt r.key i,List.mem_flatMap.2 ⟨r,hr,List.mem_append.2 (.inl ?_)⟩,hasB_inL h⟩
 unfold keyAt
 simp [hi]
theorem core_img {rs:List Rl} {r:Rl} (hr:r∈rs) {K:List Int} (ho:Ok r) (hK:stB r.key K=true) {u:Int} (hu:u∈outs r K):InC rs u:=by
 obtain ⟨q,hq,rfl⟩:=List.mem_map.1 hu
 exact ⟨imgP r.key q,List.mem_flatMap.2 ⟨r,hr,List.mem_append.2 (.inr (List.mem_map.2 ⟨q,hq,rfl⟩))⟩,hasB_inL (wrt_in ho hK hq)⟩
theorem core_over {rs:List Rl} (hB:Bck rs) {d l:List Int} {u:Int} (hu:¬ InC rs u):ruleN rs d (u::l)=none:=by
 cases h:ruleN rs d (u::l) with
 | none=>rfl
 | some r=>
  obtain ⟨hr,hf⟩:=rule_some h
  have h1:=stF_key hf
  have h0:=(hB.ok r hr).1.k0
  have h2:=stB_at h1.2 h0
  have e:unitAt ((u::l).take r.key.length) ((0:Nat):Int)=u:=by
   unfold unitAt
   obtain ⟨m,hm⟩:∃ m,r.key.length=m+1:=⟨r.key.length - 1,by omega⟩
   rw [hm]
   rfl
  rw [e] at h2
  exact absurd (core_key hr h0 h2) hu
theorem post_units {rs:List Rl} (hB:Bck rs) {d l D:List Int} (h:Rn rs d l D):∀ e,D=d++e→∀ j,j≤l.length→(∀ u∈l.take j,¬ InC rs u)→j≤e.length∧e.take j=l.take j∧(l.length=j→e.length=j):=by
 induction h with
 | nil d=>
  intro e he j hj _
  obtain rfl:e=[]:=by simpa using he
  obtain rfl:j=0:=by simpa using hj
  exact ⟨Nat.le_refl _,rfl,fun _=>rfl⟩
 | step d l D hl hR ih=>
  intro e he j hj hc
  match j,l,hl,hj with
  | 0,l,hl,_=>exact ⟨Nat.zero_le _,by simp,fun h=>absurd (List.eq_nil_of_length_eq_zero h) hl⟩
  | j+1,[],hl,_=>exact absurd rfl hl
  | j+1,u::l,_,hj=>
   have hu:¬ InC rs u:=hc u (by simp)
   obtain ⟨e1,e2⟩:=over_none (core_over hB (d:=d) (l:=l) hu)
   obtain ⟨e',he'⟩:=hR.pre
   rw [e1] at he'
   have hee:e=u::e':=by
    rw [he'] at he
    simpa using he.symm
   have h3:=ih e' (by rw [e1];exact he') j (by rw [e2];simpa using hj) (by
    rw [e2]
    intro x hx
    exact hc x (by simp at hx ⊢;exact .inr hx))
   rw [e2] at h3
   subst hee
   simp only [List.drop_one,List.tail_cons] at h3
   refine ⟨by simp only [List.length_cons];omega,by simp [h3.2.1],fun h => ?_⟩
   simp only [List.length_cons] at h ⊢
   have:=h3.2.2 (by omega)
   omega
def Tl (rs:List Rl) (c d:List Int):Prop:=∀ j,j≤d.length→(∀ u∈d.drop (d.length - j),¬ InC rs u)→j≤c.length∧c.drop (c.length - j)=d.drop (d.length - j)∧(j=d.length→j=c.length)
theorem Tl.nil (rs:List Rl):Tl rs [] []:=fun j hj _=>by
 obtain rfl:j=0:=by simpa using hj
 exact ⟨Nat.le_refl _,rfl,fun _=>rfl⟩
theorem Tl.over {rs:List Rl} {c d:List Int} (h:Tl rs c d) (u:Int):Tl rs (c++[u]) (d++[u]):=fun j hj hc=>by
 match j,hj with
 | 0,_=>exact ⟨Nat.zero_le _,by simp,fun h=>by simp at h⟩
 | j+1,hj=>
  have hj':j≤d.length:=by simpa using hj
  have e:∀ x:List Int,j≤x.length→(x++[u]).drop ((x++[u]).length - (j+1))=x.drop (x.length - j)++[u]:=fun x hx=>by
   rw [show (x++[u]).length - (j+1)=x.length - j by simp]
   rw [List.drop_append_of_le_length (by omega)]
  rw [e d hj'] at hc ⊢
  obtain ⟨h1,h2,h3⟩:=h j hj' fun x hx=>hc x (List.mem_append.2 (.inl hx))
  rw [e c h1,h2]
  refine ⟨by simpa using h1,rfl,fun h => ?_⟩
  simp only [List.length_append,List.length_singleton] at h ⊢
  have:=h3 (by omega)
  omega
theorem Tl.done {rs:List Rl} {c d O:List Int} (K:List Int) (h0:O≠[]) (hO:∀ u∈O,InC rs u):Tl rs (c++K) (d++O):=fun j hj hc=>by
 match j,hj with
 | 0,_=>
  refine ⟨Nat.zero_le _,by simp,fun h => ?_⟩
  have:=List.length_pos_iff.2 h0
  simp only [List.length_append] at h
  omega
 | j+1,hj=>
  exfalso
  have hl:=List.length_pos_iff.2 h0
  have hx:O[O.length - 1]'(by omega)∈(d++O).drop ((d++O).length - (j+1)):=by
   rw [List.mem_iff_getElem]
   refine ⟨j,by simp only [List.length_drop,List.length_append] at hj ⊢;omega,?_⟩
   rw [List.getElem_drop,List.getElem_append_right (by simp only [List.length_append] at hj ⊢;omega)]
   congr 1
   simp only [List.length_append] at hj ⊢
   omega
  exact hc _ hx (hO _ (List.getElem_mem _))
end Go.Proofs
namespace Go.Proofs
open Go.RowKit Go.Shelf
set_option maxRecDepth 100000
theorem stF_iff (r:Rl) (d l:List Int):stF r d l=true↔r.key.length+r.post.length≤l.length∧r.ante.length≤d.length∧(r.bg=true→d.length=r.ante.length)∧(r.en=true→l.length=r.key.length+r.post.length)∧stB r.key (l.take r.key.length)=true∧stB r.post ((l.drop r.key.length).take r.post.length)=true∧stB r.ante (d.drop (d.length - r.ante.length))=true:=by
 unfold stF
 by_cases h1:l.length<r.key.length+r.post.length∨d.length<r.ante.length
 · rw [if_pos h1]
   constructor
   · intro h;cases h
   · rintro ⟨a,b,_⟩
     omega
 · rw [if_neg h1]
   by_cases h2:(r.bg=true∧r.ante.length<d.length)∨(r.en=true∧r.key.length+r.post.length<l.length)
   · rw [if_pos h2]
     constructor
     · intro h;cases h
     · rintro ⟨_,_,a,b,_⟩
       rcases h2 with ⟨h2,h3⟩ | ⟨h2,h3⟩
       · have:=a h2;omega
       · have:=b h2;omega
   · rw [if_neg h2]
     simp only [Bool.and_eq_true]
     constructor
     · rintro ⟨⟨a,b⟩,c⟩
       refine ⟨by omega,by omega,fun h => ?_,fun h => ?_,a,b,c⟩
       · by_cases e:r.ante.length<d.length
         · exact absurd (.inl ⟨h,e⟩) h2
         · omega
       · by_cases e:r.key.length+r.post.length<l.length
         · exact absurd (.inr ⟨h,e⟩) h2
         · omega
     · rintro ⟨_,_,_,_,a,b,c⟩
       exact ⟨⟨a,b⟩,c⟩
theorem stB_mem {ls:List (List (Int × Int))} {us:List Int} (h:stB ls us=true) {u:Int} (hu:u∈us):∃ A∈ls,hasB A u=true:=by
 have hl:=st_len h
 obtain ⟨i,hi,rfl⟩:=List.mem_iff_getElem.1 hu
 have hi':i<ls.length:=by omega
 have h1:=stB_at h hi'
 have e1:keyAt ls (i:Nat)=ls[i]:=by unfold keyAt;simp [hi']
 have e2:unitAt us (i:Nat)=us[i]:=by unfold unitAt;simp [hi]
 rw [e1,e2] at h1
 exact ⟨_,List.getElem_mem hi',h1⟩
theorem turn_fits {rs:List Rl} (hB:Bck rs) {r:Rl} (hr:r∈rs) {d l c e1:List Int} (hf:stF r d l=true) (hT:Tl rs c d)
 (hP:r.post.length≤e1.length∧e1.take r.post.length=(l.drop r.key.length).take r.post.length∧((l.drop r.key.length).length=r.post.length→e1.length=r.post.length)) :
 stF (turnR r) c (outs r (l.take r.key.length)++e1)=true:=by
 obtain ⟨h1,h2,h3,h4,h5,h6,h7⟩:=(stF_iff r d l).1 hf
 have ho:=(hB.ok r hr).1
 have hOl:=outs_len r (l.take r.key.length)
 have hkl:(turnR r).key.length=r.res.length:=img_len r
 obtain ⟨t1,t2,t3⟩:=hT r.ante.length h2 fun u hu=>by
  obtain ⟨A,hA,hb⟩:=stB_mem h7 hu
  exact hB.an r hr A hA u (hasB_inL hb)
 rw [stF_iff,hkl]
 refine ⟨?_,t1,fun h => ?_,fun h => ?_,?_,?_,?_⟩
 · show r.res.length+r.post.length≤_
   rw [List.length_append,hOl]
   omega
 · exact (t3 (h3 h).symm).symm
 · have h8:=h4 h
   have:=hP.2.2 (by rw [List.length_drop];omega)
   show (outs r (l.take r.key.length)++e1).length=r.res.length+r.post.length
   rw [List.length_append,hOl,this]
 · rw [List.take_append_of_le_length (by omega),List.take_of_length_le (by omega)]
   exact outs_img ho h5
 · rw [←hOl,List.drop_left]
   show stB r.post (e1.take r.post.length)=true
   rw [hP.2.1]
   exact h6
 · show stB r.ante (c.drop (c.length - r.ante.length))=true
   rw [t2]
   exact h7
theorem turned_none {rs:List Rl} (hB:Bck rs) {d l c e:List Int} {u:Int} (h:ruleN rs d (u::l)=none) (hu:ovU rs u):ruleN (rs.map turnR) c (u::e)=none:=by
 cases hq:ruleN (rs.map turnR) c (u::e) with
 | none=>rfl
 | some x'=>
  exfalso
  obtain ⟨hxm,hf⟩:=rule_some hq
  obtain ⟨x,hx,rfl⟩:=List.mem_map.1 hxm
  have h1:=stF_key hf
  have h0:0<(turnR x).key.length:=(hB.ok x hx).2.i0
  have h2:=stB_at h1.2 h0
  have e0:unitAt ((u::e).take (turnR x).key.length) ((0:Nat):Int)=u:=by
   unfold unitAt
   obtain ⟨m,hm⟩:∃ m,(turnR x).key.length=m+1:=⟨(turnR x).key.length - 1,by omega⟩
   rw [hm]
   rfl
  rw [e0] at h2
  have h3:∃ l∈lsB rs,inL l u=true:=⟨imgF x,List.mem_map.2 ⟨x,hx,rfl⟩,by
   have h4:=hasB_inL h2
   have e1:keyAt (turnR x).key ((0:Nat):Int)=imgF x:=by
    unfold keyAt imgF
    show ((img x)[0]?).getD []=_
    first | rfl | (cases img x <;> rfl)
   rw [←e1]
   exact h4⟩
  have h5:∃ l∈lsG rs,inL l u=true:=Classical.byContradiction fun hn=>hu.2 ⟨h3,hn⟩
  obtain ⟨L,hL,hLu⟩:=h5
  obtain ⟨y,hy,rfl⟩:=List.mem_map.1 hL
  obtain ⟨hyr,hyf⟩:=List.mem_filter.1 hy
  unfold freeB at hyf
  simp only [Bool.and_eq_true,decide_eq_true_eq,Bool.not_eq_true'] at hyf
  obtain ⟨⟨⟨⟨k1,k2⟩,k3⟩,k4⟩,k5⟩:=hyf
  have hkey:∃ S,y.key=[S]:=List.length_eq_one_iff.1 k1
  obtain ⟨S,hS⟩:=hkey
  have hSu:hasB S u=true:=by
   have hok:okS S=true:=List.all_eq_true.1 (hB.ok y hyr).1.kS S (by rw [hS];simp)
   refine inL_hasB hok ?_
   have:keyF y=S:=by
    unfold keyF
    first | (rw [hS];rfl) | simp [hS]
   rw [←this]
   exact hLu
  have hfy:stF y d (u::l)=true:=by
   rw [stF_iff]
   have a0:y.ante=[]:=List.eq_nil_of_length_eq_zero k2
   have p0:y.post=[]:=List.eq_nil_of_length_eq_zero k3
   rw [hS,a0,p0]
   refine ⟨by simp,by simp,fun h => ?_,fun h => ?_,?_,?_,?_⟩
   · rw [k4] at h;cases h
   · rw [k5] at h;cases h
   · simp [stB,hSu]
   · simp [stB]
   · simp [stB]
  rw [rule_none h hyr] at hfy
  cases hfy
theorem turn_alike {x y:Rl} (h1:x.key=y.key) (h2:x.res=y.res):(turnR x).key=(turnR y).key∧(turnR x).res=(turnR y).res:=by
 have hs:∀ p n,spk x p n=spk y p n:=fun p n=>by unfold spk;rw [h2]
 constructor
 · show img x=img y
   unfold img
   rw [h1,h2]
 · show resT x x.key.length=resT y y.key.length
   unfold resT restP
   simp only [h1,h2,hs]
theorem back_units_run {rs:List Rl} (hB:Bck rs) {d l D:List Int} (h:Rn rs d l D):∀ c e,D=d++e→Tl rs c d→(∀ u∈l,ovU rs u)→Rn (rs.map turnR) c e (c++l):=by
 induction h with
 | nil d=>
  intro c e he _ _
  obtain rfl:e=[]:=by simpa using he
  rw [List.append_nil]
  exact .nil c
 | step d l D hl hR ih=>
  intro c e he hT hO
  obtain ⟨e1,he1⟩:=hR.pre
  have hee:e=layd rs d l++e1:=by
   rw [he,List.append_assoc] at he1
   exact List.append_cancel_left he1
  cases hq:ruleN rs d l with
  | none=>
   obtain ⟨l1,l2⟩:=over_none hq
   obtain ⟨u,l',rfl⟩:∃ u l',l=u::l':=by
    cases l with
    | nil=>exact absurd rfl hl
    | cons u l'=>exact ⟨u,l',rfl⟩
   rw [l1] at hee he1 ih
   rw [l2] at ih
   simp only [List.take_succ_cons,List.take_zero,List.drop_succ_cons,List.drop_zero,List.singleton_append] at hee he1 ih
   subst hee
   have hn:=turned_none (c:=c) (e:=e1) hB hq (hO u (by simp))
   obtain ⟨m1,m2⟩:=over_none hn
   refine .step _ _ _ (by simp) ?_
   rw [m1,m2]
   have:=ih (c++[u]) e1 (by simpa using he1) (hT.over u) fun x hx=>hO x (List.mem_cons_of_mem _ hx)
   simpa using this
  | some r=>
   obtain ⟨hr,hf⟩:=rule_some hq
   have ho:=(hB.ok r hr).1
   have hb:=(hB.ok r hr).2
   obtain ⟨l1,l2⟩:=done_some hq (cu_all ho hb)
   rw [l1] at hee he1 ih hR
   rw [l2] at ih hR
   obtain ⟨f1,f2,f3,f4,f5,f6,f7⟩:=(stF_iff r d l).1 hf
   have hP:=post_units hB hR e1 he1 r.post.length (by rw [List.length_drop];omega) fun u hu=>by
    obtain ⟨A,hA,hbu⟩:=stB_mem f6 hu
    exact hB.po r hr A hA u (hasB_inL hbu)
   have hfit:=turn_fits hB hr hf hT hP
   obtain ⟨x',hx'⟩:=rule_ex (List.mem_map.2 ⟨r,hr,rfl⟩) hfit
   obtain ⟨hxm,hxf⟩:=rule_some hx'
   obtain ⟨x,hx,rfl⟩:=List.mem_map.1 hxm
   have hm:=fits_mt (stF_key hxf).2 (stF_key hfit).2
   obtain ⟨k1,k2⟩:=hB.nc x hx r hr hm
   obtain ⟨a1,a2⟩:=turn_alike k1 k2
   have hcu:(turnR x).cu=(turnR x).res.length:=by
    show (x.key.length:Int)=((resT x x.key.length).length:Int)
    rw [resT_len]
   have hkl:(turnR r).key.length=r.res.length:=img_len r
   have hOl:=outs_len r (l.take r.key.length)
   have htk:(outs r (l.take r.key.length)++e1).take (turnR x).key.length=outs r (l.take r.key.length):=by
    rw [a1,hkl,←hOl,List.take_left]
   have hdr:(outs r (l.take r.key.length)++e1).drop (turnR x).key.length=e1:=by
    rw [a1,hkl,←hOl,List.drop_left]
   obtain ⟨m1,m2⟩:=done_some hx' hcu
   have hou:outs (turnR x) (outs r (l.take r.key.length))=l.take r.key.length:=by
    have:outs (turnR x) (outs r (l.take r.key.length))=outs (turnR r) (outs r (l.take r.key.length)):=by
     unfold outs
     rw [a1,a2]
    rw [this]
    exact outs_back ho hb f5
   have hO0:outs r (l.take r.key.length)≠[]:=by
    intro e0
    have h1:=hb.i0
    rw [img_len] at h1
    rw [e0] at hOl
    simp at hOl
    omega
   subst hee
   refine .step _ _ _ (by simp [hO0]) ?_
   rw [m1,m2,htk,hdr,hou]
   have:=ih (c++l.take r.key.length) e1 he1 (Tl.done _ hO0 fun u hu=>core_img hr ho f5 hu) fun x hx=>hO x (List.mem_of_mem_drop hx)
   rw [List.append_assoc,List.take_append_drop] at this
   exact this
end Go.Proofs
