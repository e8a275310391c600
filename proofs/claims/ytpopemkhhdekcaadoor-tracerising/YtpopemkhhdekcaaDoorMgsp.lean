/-
  Several texts in one (Zv Zw).
-/
import Derived.RangeFuncNested
import Derived.RangeFuncBound
import Derived.RangeFuncCalls
import Derived.RangeFuncLeaves
import Derived.Shelf.Abstract
import Derived.Shelf.RegionOpen
import Derived.WalkKit
import Derived.WalkSpells
import Derived.WalkLawsBesides
import Derived.OwnWalkIn
import Derived.TacticsInMore
import Derived.LoopNIn
import Derived.LoopIn
import Derived.BigQuiet
import Derived.RegionIn
import Derived.Deep.QuietTactic
import Derived.Deep.RegionWith
import Derived.Lib.OthersKept
import Derived.Maps.AppendAt
import Derived.Lib.SmallJoins
import Derived.Shelf.SlSortCmp.QuietGrown
import Derived.RangeFuncWrites
import Derived.RangeFuncBox
import Derived.Maps.OwnIn
import Derived.Test.YtpopemkhhdekcaaDoorZkp
import Derived.Test.YtpopemkhhdekcaaDoorZhp
import Derived.Deep.DeepCutAuto
import Derived.Test.YtpopemkhhdekcaaDoorMgqp
import Derived.Test.YtpopemkhhdekcaaDoorMgop
namespace Go.Proofs
open Go.RowKit Go.Shelf
set_option maxRecDepth 100000
attribute [local go_sem] Oper.semAt_some
attribute [local go_sem ↓] Go.wp_at_zero Go.wp_at_succ
structure PQ (hs ts:List Int) (t a b:Int) (p q:Nat):Prop where
 pq:p≤q
 ql:q<hs.length
 hp:hs.getD p 0≤t
 hq:t≤hs.getD q 0
 ha:a=ts.getD p 0
 hb:b=ts.getD q 0
 lo:∀ j,j<hs.length→hs.getD j 0<t→j≤p
 hi:∀ j,j<hs.length→t<hs.getD j 0→q≤j
 way:(q=p+1∧hs.getD p 0<t∧t<hs.getD q 0)∨(hs.getD p 0=t∧hs.getD q 0=t∧(∀ j,j<p→hs.getD j 0<t)∧(∀ j,q<j→j<hs.length→t<hs.getD j 0))
theorem Rise.at' {hs:List Int} (h:Rise hs) {i j:Nat} (hj:j<hs.length) (hij:i≤j):hs.getD i 0≤hs.getD j 0:=by
 rw [getD_lt hj,getD_lt (by omega)];exact h i j (by omega) hj hij
theorem Acr.pq {hs ts:List Int} {t a b:Int} (h:Acr hs ts t a b) (hr:Rise hs) (h0:0<hs.length) (ht0:0≤t) (ht1:t≤hs.getD (hs.length - 1) 0):∃ p q,PQ hs ts t a b p q:=by
 rcases h with ⟨e,_⟩ | ⟨_,_,i,i0,i1,i2,i3,i4,i5⟩ | ⟨_,_,i,k,i0,i1,i2,i3,i4,i5,i6,i7⟩
 · rcases e with e | e | e <;> omega
 · refine ⟨i - 1,i,by omega,i1,by omega,by omega,i4,i5,fun j hj hlt => ?_,fun j hj hlt => ?_,.inl ⟨by omega,i2,i3⟩⟩
   · rcases Nat.lt_or_ge (i - 1) j with e | e
     · have:=hr.at' (i:=i) (j:=j) hj (by omega);omega
     · exact e
   · rcases Nat.lt_or_ge j i with e | e
     · have:=hr.at' (i:=j) (j:=i - 1) (by omega) (by omega);omega
     · exact e
 · refine ⟨i,k,i0,i1,by omega,by omega,i6,i7,fun j hj hlt => ?_,fun j hj hlt => ?_,.inr ⟨i2,i3,i4,i5⟩⟩
   · rcases Nat.lt_or_ge i j with e | e
     · have:=hr.at' (i:=i) (j:=j) hj (by omega);omega
     · exact e
   · rcases Nat.lt_or_ge j k with e | e
     · have:=hr.at' (i:=j) (j:=k) i1 (by omega);omega
     · exact e
theorem PQ.mono {hs ts:List Int} {t a b t' a' b':Int} {p q p' q':Nat} (h:PQ hs ts t a b p q) (h':PQ hs ts t' a' b' p' q') (hl:ts.length=hs.length) (hr:Rise ts) (ht:t<t'):a≤a'∧b≤b':=by
 have h1:=h'.lo p (by have:=h.pq;have:=h.ql;omega) (by have:=h.hp;omega)
 have h2:=h.hi q' h'.ql (by have:=h'.hq;omega)
 rw [h.ha,h.hb,h'.ha,h'.hb]
 exact ⟨hr.at' (by have:=h'.pq;have:=h'.ql;omega) h1,hr.at' (by have:=h'.ql;omega) h2⟩
theorem PQ.le {hs ts:List Int} {t a b:Int} {p q:Nat} (h:PQ hs ts t a b p q) (hl:ts.length=hs.length) (hr:Rise ts):ts.getD 0 0≤a∧a≤b∧b≤ts.getD (ts.length - 1) 0:=by
 have:=h.pq
 have:=h.ql
 rw [h.ha,h.hb]
 exact ⟨hr.at' (by omega) (by omega),hr.at' (by omega) (by omega),hr.at' (by omega) (by omega)⟩
theorem PQ.back {hs ts:List Int} {t a b k x y:Int} {p q p' q':Nat} (h:PQ hs ts t a b p q) (h':PQ ts hs k x y p' q') (hl:ts.length=hs.length) (hrh:Rise hs) (hrt:Rise ts) (hst:∀ i j,i<j→j<hs.length→hs.getD i 0<hs.getD j 0) (hk:(a<k∧k<b)∨(a=b∧a=k)):x≤t∧t≤y:=by
 have e1:=h.pq
 have e2:=h.ql
 have e3:=h'.pq
 have e4:=h'.ql
 have ea:=h.ha
 have eb:=h.hb
 rw [h'.ha,h'.hb]
 rcases hk with ⟨k1,k2⟩ | ⟨k1,k2⟩
 · rcases h.way with ⟨w1,w2,w3⟩ | ⟨w1,w2,_,_⟩
   · have l1:=h'.lo p (by omega) (by omega)
     have l2:=h'.hi q (by omega) (by omega)
     have n1:p'=p:=by
      rcases Nat.lt_or_ge p p' with e | e
      · have:=hrt.at' (i:=q) (j:=p') (by omega) (by omega)
        have:=h'.hp
        omega
      · omega
     have n2:q'=q:=by
      rcases Nat.lt_or_ge q' q with e | e
      · have:=hrt.at' (i:=q') (j:=p) (by omega) (by omega)
        have:=h'.hq
        omega
      · omega
     rw [n1,n2]
     exact ⟨h.hp,h.hq⟩
   · rcases Nat.lt_or_ge p q with e | e
     · have:=hst p q e e2;omega
     · have:p=q:=by omega
       subst this
       omega
 · rcases h'.way with ⟨w1,w2,w3⟩ | ⟨w1,w2,w3,w4⟩
   · exfalso
     rcases Nat.lt_or_ge p' p with e | e
     · have:=hrt.at' (i:=q') (j:=p) (by omega) (by omega);omega
     · have:=hrt.at' (i:=p) (j:=p') (by omega) (by omega);omega
   · have n1:p'≤p:=by
      rcases Nat.lt_or_ge p p' with e | e
      · have:=w3 p e;omega
      · exact e
     have n2:q≤q':=by
      rcases Nat.lt_or_ge q' q with e | e
      · have:=w4 q e (by omega);omega
      · exact e
     have m1:=hrh.at' (i:=p') (j:=p) (by omega) n1
     have m2:=hrh.at' (i:=q) (j:=q') (by omega) n2
     have:=h.hp
     have:=h.hq
     exact ⟨by omega,by omega⟩
def brd (l:List Bk):List (Int × Int):=l.map fun b=>(b.2.1,b.2.2.2)
def mkF (s r:Int):List (Int × Int)→List Bk
 | []=>[]
 | p::ps=>(s,p.1,r,p.2)::mkF p.1 p.2 ps
def lst (ps:List (Int × Int)):Int × Int:=((0,0)::ps).getLastD (0,0)
theorem lst_nil:lst []=(0,0):=rfl
theorem lst_snoc (ps:List (Int × Int)) (p:Int × Int):lst (ps++[p])=p:=by unfold lst;rw [←List.cons_append,List.getLastD_concat]
theorem brd_mkF (s r:Int) (ps:List (Int × Int)):brd (mkF s r ps)=ps:=by
 induction ps generalizing s r with
 | nil=>rfl
 | cons p ps ih=>show (p.1,p.2)::brd (mkF p.1 p.2 ps)=_;rw [ih]
theorem mkF_len (s r:Int) (ps:List (Int × Int)):(mkF s r ps).length=ps.length:=by
 induction ps generalizing s r with
 | nil=>rfl
 | cons p ps ih=>show (mkF p.1 p.2 ps).length+1=ps.length+1;rw [ih]
theorem mkF_snoc (s r:Int) (ps:List (Int × Int)) (p:Int × Int):mkF s r (ps++[p])=mkF s r ps++[((((s,r)::ps).getLastD (0,0)).1,p.1,(((s,r)::ps).getLastD (0,0)).2,p.2)]:=by
 induction ps generalizing s r with
 | nil=>rfl
 | cons q ps ih=>
  show (s,q.1,r,q.2)::mkF q.1 q.2 (ps++[p])=(s,q.1,r,q.2)::mkF q.1 q.2 ps++_
  rw [ih]
  rfl
theorem at_lst (l:List Bk):sAt l l.length=(lst (brd l)).1∧rAt l l.length=(lst (brd l)).2:=by
 rcases List.eq_nil_or_concat l with e | ⟨l',b,e⟩
 · subst e;exact ⟨rfl,rfl⟩
 · rw [List.concat_eq_append] at e
   subst e
   have h:brd (l'++[b])=brd l'++[(b.2.1,b.2.2.2)]:=by simp [brd]
   rw [h,lst_snoc,List.length_append,List.length_singleton]
   refine ⟨?_,?_⟩
   · rw [sAt_succ (by simp)];simp
   · rw [rAt_succ (by simp)];simp
def Rs2 (ps:List (Int × Int)):Prop:=List.Pairwise (fun p q=>p.1<q.1∧p.2≤q.2) ((0,0)::ps)
theorem Rs2.ends {ps:List (Int × Int)} (h:Rs2 ps):∀ p∈(0,0)::ps,p.1≤(lst ps).1∧p.2≤(lst ps).2:=by
 intro p hp
 rcases List.eq_nil_or_concat ps with e | ⟨ps',q,e⟩
 · subst e
   simp at hp
   subst hp
   exact ⟨Int.le_refl _,Int.le_refl _⟩
 · rw [List.concat_eq_append] at e
   subst e
   rw [lst_snoc]
   unfold Rs2 at h
   rw [←List.cons_append,List.pairwise_append] at h
   rw [←List.cons_append,List.mem_append] at hp
   rcases hp with hp | hp
   · have:=h.2.2 p hp q (by simp);exact ⟨by omega,by omega⟩
   · simp at hp;subst hp;exact ⟨Int.le_refl _,Int.le_refl _⟩
theorem rs2_snoc {ps:List (Int × Int)} {p:Int × Int} (h:Rs2 ps) (h1:(lst ps).1<p.1) (h2:(lst ps).2≤p.2):Rs2 (ps++[p]):=by
 unfold Rs2
 rw [←List.cons_append,List.pairwise_append]
 refine ⟨h,by simp,fun q hq p' hp' => ?_⟩
 simp at hp'
 subst hp'
 have:=h.ends q hq
 exact ⟨by omega,by omega⟩
theorem join_snoc {l:List Bk} {b:Bk} : Join (l++[b])↔Join l∧okB (sAt l l.length) (rAt l l.length) b:=by
 have ea:∀ j,j≤l.length→sAt (l++[b]) j=sAt l j∧rAt (l++[b]) j=rAt l j:=fun j hj=>by
  unfold sAt rAt
  simp only [srcs_app,ress_app,List.getD_eq_getElem?_getD]
  rw [List.getElem?_append_left (by rw [srcs_len];omega),List.getElem?_append_left (by rw [ress_len];omega)]
  exact ⟨rfl,rfl⟩
 constructor
 · intro h
   refine ⟨fun j hj hl => ?_,?_⟩
   · have:=h j (by simp;omega) (by simp;omega)
     rw [(ea j (by omega)).1,(ea j (by omega)).2,List.getElem_append_left hj] at this
     exact this
   · have:=h l.length (by simp) (by simp)
     rw [(ea _ (Nat.le_refl _)).1,(ea _ (Nat.le_refl _)).2] at this
     simpa using this
 · rintro ⟨h1,h2⟩ j hj hl
   simp at hj
   rw [(ea j (by omega)).1,(ea j (by omega)).2]
   by_cases e:j<l.length
   · rw [List.getElem_append_left e];exact h1 j e e
   · have:j=l.length:=by omega
     subst this
     simpa using h2
theorem join_iff:∀ (n:Nat) (l:List Bk),l.length=n→(Join l↔l=mkF 0 0 (brd l)∧Rs2 (brd l))
 | 0,l,h=>by
  have:=List.eq_nil_of_length_eq_zero h
  subst this
  exact ⟨fun _=>⟨rfl,by simp [Rs2,brd]⟩,fun _ j hj=>by simp at hj⟩
 | n+1,l,h=>by
  rcases List.eq_nil_or_concat l with e | ⟨l',b,e⟩
  · subst e;simp at h
  · rw [List.concat_eq_append] at e
    subst e
    have hl:l'.length=n:=by simpa using h
    have ih:=join_iff n l' hl
    have hb:brd (l'++[b])=brd l'++[(b.2.1,b.2.2.2)]:=by simp [brd]
    rw [join_snoc,hb,mkF_snoc,(at_lst l').1,(at_lst l').2]
    constructor
    · rintro ⟨h1,q1,q2,q3,q4⟩
      obtain ⟨i1,i2⟩:=ih.1 h1
      refine ⟨?_,rs2_snoc i2 (by rw [←q1];exact q3) (by rw [←q2];exact q4)⟩
      rw [←i1]
      congr 1
      obtain ⟨b1,b2,b3,b4⟩:=b
      show [_]=[_]
      simp only at q1 q2
      rw [q1,q2]
      rfl
    · rintro ⟨h1,h2⟩
      have h3:=List.append_inj h1 (by rw [mkF_len];simp [brd])
      have h4:Rs2 (brd l'):=by
       unfold Rs2 at h2 ⊢
       rw [←List.cons_append,List.pairwise_append] at h2
       exact h2.1
      have h5:=(List.pairwise_append.1 (by rw [List.cons_append];exact h2:List.Pairwise _ (((0,0)::brd l')++[(b.2.1,b.2.2.2)]))).2.2 (lst (brd l')) (by unfold lst;rw [List.getLastD_cons];exact List.getLastD_mem_cons ) (b.2.1,b.2.2.2) (by simp)
      have h6:=h3.2
      injection h6 with h6 _
      refine ⟨ih.2 ⟨h3.1,h4⟩,?_,?_,?_,?_⟩
      · rw [h6];rfl
      · rw [h6];rfl
      · have:b.1=(lst (brd l')).1:=by rw [h6];rfl
        rw [this];exact h5.1
      · have:b.2.2.1=(lst (brd l')).2:=by rw [h6];rfl
        rw [this];exact h5.2
def lk (L:List (Int × Int)) (t:Int):Option Int:=(L.find? fun p=>p.1 == t).map Prod.snd
theorem lk_mem {L:List (Int × Int)} {t r:Int} (h:lk L t=some r):(t,r)∈L:=by
 unfold lk at h
 rw [Option.map_eq_some_iff] at h
 obtain ⟨p,h1,h2⟩:=h
 have h3:=List.find?_some h1
 simp at h3
 have:=List.mem_of_find?_eq_some h1
 rw [←h3,←h2]
 exact this
theorem lk_of {L:List (Int × Int)} (h:L.Pairwise fun p q=>p.1<q.1∧p.2≤q.2) {p:Int × Int} (hp:p∈L):lk L p.1=some p.2:=by
 induction L with
 | nil=>simp at hp
 | cons q L ih=>
  rw [List.pairwise_cons] at h
  unfold lk
  rw [List.find?_cons]
  rcases List.mem_cons.1 hp with e | e
  · subst e;simp
  · have h1:=(h.1 p e).1
    have h2:(q.1 == p.1)=false:=by simp;omega
    rw [h2]
    exact ih h.2 e
def cmp (ps:List (Int × Int)) (g:Int→Option Int):List (Int × Int):=ps.filterMap fun p=>(g p.2).map fun r=>(p.1,r)
theorem cmp_snoc (ps:List (Int × Int)) (p:Int × Int) (g:Int→Option Int):cmp (ps++[p]) g=cmp ps g++(match g p.2 with | some r=>[(p.1,r)] | none=>[]):=by
 unfold cmp
 rw [List.filterMap_append]
 cases h:g p.2 <;> simp [h]
theorem cmp_mem {ps:List (Int × Int)} {g:Int→Option Int} {s r:Int} : (s,r)∈cmp ps g↔∃ q,(s,q)∈ps∧g q=some r:=by
 unfold cmp
 rw [List.mem_filterMap]
 constructor
 · rintro ⟨⟨a,b⟩,h1,h2⟩
   rw [Option.map_eq_some_iff] at h2
   obtain ⟨r',h3,h4⟩:=h2
   injection h4 with h4 h5
   subst h4
   subst h5
   exact ⟨b,h1,h3⟩
 · rintro ⟨q,h1,h2⟩
   exact ⟨(s,q),h1,by simp [h2]⟩
theorem cmp_cmp (ps:List (Int × Int)) (g h:Int→Option Int):cmp (cmp ps g) h=cmp ps fun t=>(g t).bind h:=by
 unfold cmp
 rw [List.filterMap_filterMap]
 congr 1
 funext p
 show ((g p.2).map fun r=>(p.1,r)).bind _=((g p.2).bind h).map _
 cases g p.2 with
 | none=>rfl
 | some r=>rfl
theorem cmp_congr {ps:List (Int × Int)} {g h:Int→Option Int} (e:∀ p∈ps,g p.2=h p.2):cmp ps g=cmp ps h:=by
 induction ps with
 | nil=>rfl
 | cons p ps ih=>
  unfold cmp at ih ⊢
  rw [List.filterMap_cons,List.filterMap_cons,e p (by simp),ih fun q hq=>e q (by simp [hq])]
theorem rise_eq:∀ {a b:List (Int × Int)},a.Pairwise (fun p q=>p.1<q.1∧p.2≤q.2)→b.Pairwise (fun p q=>p.1<q.1∧p.2≤q.2)→(∀ p,p∈a↔p∈b)→a=b
 | [],[],_,_,_=>rfl
 | [],q::b,_,_,h=>absurd ((h q).2 (by simp)) (by simp)
 | p::a,[],_,_,h=>absurd ((h p).1 (by simp)) (by simp)
 | p::a,q::b,ha,hb,h=>by
  rw [List.pairwise_cons] at ha hb
  have e:p=q:=by
   have h1:=(h p).1 (by simp)
   have h2:=(h q).2 (by simp)
   rcases List.mem_cons.1 h1 with e | e
   · exact e
   · rcases List.mem_cons.1 h2 with e' | e'
     · exact e'.symm
     · have:=(ha.1 q e').1;have:=(hb.1 p e).1;omega
  subst e
  rw [rise_eq ha.2 hb.2 fun x => ?_]
  have hx:=h x
  constructor
  · intro hm
    rcases List.mem_cons.1 (hx.1 (by simp [hm])) with e | e
    · subst e;have:=(ha.1 x hm).1;omega
    · exact e
  · intro hm
    rcases List.mem_cons.1 (hx.2 (by simp [hm])) with e | e
    · subst e;have:=(hb.1 x hm).1;omega
    · exact e
theorem Rs2.cmp {ps qs:List (Int × Int)} (h:Rs2 ps) (hq:Rs2 qs):Rs2 (cmp ps (lk ((0,0)::qs))):=by
 have mono:∀ t t' r r',t≤t'→lk ((0,0)::qs) t=some r→lk ((0,0)::qs) t'=some r'→r≤r':=fun t t' r r' ht h1 h2=>by
  by_cases e:t=t'
  · subst e;rw [h1] at h2;injection h2 with h2;omega
  · have m1:=lk_mem h1
    have m2:=lk_mem h2
    have hq':List.Pairwise _ _:=hq
    rcases List.mem_iff_getElem.1 m1 with ⟨i,hi,e1⟩
    rcases List.mem_iff_getElem.1 m2 with ⟨j,hj,e2⟩
    rcases Nat.lt_trichotomy i j with c | c | c
    · have:=List.pairwise_iff_getElem.1 hq' i j hi hj c
      rw [e1,e2] at this
      exact this.2
    · subst c;rw [e1] at e2;injection e2 with e2 _;omega
    · have:=List.pairwise_iff_getElem.1 hq' j i hj hi c
      rw [e1,e2] at this
      have:=this.1
      simp at this
      omega
 have e0:lk ((0,0)::qs) 0=some 0:=rfl
 have e:(0,0)::Go.Proofs.cmp ps (lk ((0,0)::qs))=Go.Proofs.cmp ((0,0)::ps) (lk ((0,0)::qs)):=rfl
 unfold Rs2
 rw [e]
 unfold Go.Proofs.cmp
 rw [List.pairwise_filterMap]
 refine List.Pairwise.imp ?_ h
 rintro ⟨a,b⟩ ⟨c,d⟩ ⟨h1,h2⟩ ⟨x1,x2⟩ hx ⟨y1,y2⟩ hy
 rw [Option.map_eq_some_iff] at hx hy
 obtain ⟨r,hr,er⟩:=hx
 obtain ⟨r',hr',er'⟩:=hy
 injection er with er1 er2
 injection er' with er1' er2'
 subst er1;subst er2;subst er1';subst er2'
 exact ⟨h1,mono _ _ _ _ h2 hr hr'⟩
theorem lk_cmp {ps:List (Int × Int)} (h:Rs2 ps) {g:Int→Option Int} (g0:g 0=some 0) (t:Int):lk ((0,0)::cmp ps g) t=(lk ((0,0)::ps) t).bind g:=by
 have e:(0,0)::cmp ps g=cmp ((0,0)::ps) g:=by unfold cmp;rw [List.filterMap_cons];simp [g0]
 rw [e]
 have:∀ L:List (Int × Int),L.Pairwise (fun p q=>p.1<q.1∧p.2≤q.2)→lk (cmp L g) t=(lk L t).bind g:=by
  intro L hL
  induction L with
  | nil=>rfl
  | cons p L ih=>
   rw [List.pairwise_cons] at hL
   by_cases ht:p.1=t
   · have h1:lk (p::L) t=some p.2:=by unfold lk;rw [List.find?_cons];simp [ht]
     rw [h1]
     show _=g p.2
     cases hg:g p.2 with
     | some r=>
      have:cmp (p::L) g=(p.1,r)::cmp L g:=by unfold cmp;rw [List.filterMap_cons];simp [hg]
      rw [this]
      unfold lk
      rw [List.find?_cons]
      simp [ht]
     | none=>
      have:cmp (p::L) g=cmp L g:=by unfold cmp;rw [List.filterMap_cons];simp [hg]
      rw [this]
      cases hx:lk (cmp L g) t with
      | none=>rfl
      | some r=>
       obtain ⟨q,hq,_⟩:=cmp_mem.1 (lk_mem hx)
       have:=(hL.1 _ hq).1
       simp at this
       omega
   · have h1:lk (p::L) t=lk L t:=by
      have h3:(p.1 == t)=false:=by simpa using ht
      unfold lk
      rw [List.find?_cons]
      simp only [h3]
     rw [h1,←ih hL.2]
     cases hg:g p.2 with
     | some r=>
      have:cmp (p::L) g=(p.1,r)::cmp L g:=by unfold cmp;rw [List.filterMap_cons];simp [hg]
      have h3:(p.1 == t)=false:=by simpa using ht
      rw [this]
      unfold lk
      rw [List.find?_cons]
      simp only [h3]
     | none=>
      have:cmp (p::L) g=cmp L g:=by unfold cmp;rw [List.filterMap_cons];simp [hg]
      rw [this]
 exact this _ h
theorem lst_cmp {ps:List (Int × Int)} {g:Int→Option Int} (g0:g 0=some 0) {q:Int} (hq:g (lst ps).2=some q):lst (cmp ps g)=((lst ps).1,q):=by
 rcases List.eq_nil_or_concat ps with e | ⟨ps',p,e⟩
 · subst e
   rw [lst_nil] at hq
   simp only [g0] at hq
   injection hq with hq
   subst hq
   rfl
 · rw [List.concat_eq_append] at e
   subst e
   rw [lst_snoc] at hq ⊢
   rw [cmp_snoc,hq]
   exact lst_snoc _ _
theorem met_lk (lb:List Bk) (t:Int):(met (srcs lb) t).map (rAt lb)=lk ((0,0)::brd lb) t:=by
 have key:∀ (L:List (Int × Int)),(List.findIdx? (fun x=>x == t) (L.map Prod.fst)).map (fun i=>(L.map Prod.snd).getD i 0)=lk L t:=by
  intro L
  induction L with
  | nil=>rfl
  | cons p L ih=>
   unfold lk
   rw [List.map_cons,List.map_cons,List.findIdx?_cons,List.find?_cons]
   by_cases h:p.1=t
   · simp [h]
   · have h2:(p.1 == t)=false:=by simpa using h
     rw [h2]
     simp only [Bool.false_eq_true,if_false,Option.map_map]
     unfold lk at ih
     rw [←ih]
     rfl
 have h1:srcs lb=((0,0)::brd lb).map Prod.fst:=by unfold srcs brd;simp
 have h2:ress lb=((0,0)::brd lb).map Prod.snd:=by unfold ress brd;simp
 rw [←key,←h1,←h2]
 rfl
theorem thr_eq (la lb:List Bk):∀ n,n≤la.length→thrN la lb n=mkF 0 0 (cmp ((brd la).take n) (lk ((0,0)::brd lb)))
 | 0,_=>by rw [List.take_zero];rfl
 | n+1,h=>by
  have ih:=thr_eq la lb n (by omega)
  have hb:n<(brd la).length:=by simp [brd];omega
  have hn:(brd la)[n]=(sAt la (n+1),rAt la (n+1)):=by rw [sAt_succ (by omega),rAt_succ (by omega)];simp [brd]
  rw [List.take_succ_eq_append_getElem hb,cmp_snoc,hn]
  have hm:=met_lk lb (rAt la (n+1))
  have hl:=at_lst (thrN la lb n)
  rw [ih,brd_mkF] at hl
  cases h1:met (srcs lb) (rAt la (n+1)) with
  | none=>
   rw [h1] at hm
   rw [thrN_none h1,←hm]
   simp only [Option.map_none,List.append_nil]
   exact ih
  | some k=>
   rw [h1] at hm
   rw [thrN_some h1,←hm]
   simp only [Option.map_some]
   rw [mkF_snoc,ih]
   congr 1
   unfold upB
   rw [hl.1,hl.2]
   rfl
theorem thr_all (la lb:List Bk):thrN la lb la.length=mkF 0 0 (cmp (brd la) (lk ((0,0)::brd lb))):=by
 rw [thr_eq la lb _ (Nat.le_refl _),List.take_of_length_le (by simp [brd])]
theorem thr_brd (la lb:List Bk):brd (thrN la lb la.length)=cmp (brd la) (lk ((0,0)::brd lb)):=by rw [thr_all,brd_mkF]
theorem Join.rs2 {l:List Bk} (h:Join l):Rs2 (brd l):=((join_iff _ l rfl).1 h).2
theorem Join.mk' {l:List Bk} (h:Join l):mkF 0 0 (brd l)=l:=((join_iff _ l rfl).1 h).1.symm
theorem join_mkF {ps:List (Int × Int)} (h:Rs2 ps):Join (mkF 0 0 ps):=(join_iff _ _ rfl).2 (by rw [brd_mkF];exact ⟨rfl,h⟩)
theorem lst_mem (ps:List (Int × Int)):lst ps∈(0,0)::ps:=by unfold lst;rw [List.getLastD_cons];exact List.getLastD_mem_cons
theorem thr_join {la lb:List Bk} (ha:Join la) (hb:Join lb):Join (thrN la lb la.length):=by rw [thr_all];exact join_mkF (ha.rs2.cmp hb.rs2)
theorem thr_ends {la lb:List Bk} (h:ThrOk la lb):sAt (thrN la lb la.length) (thrN la lb la.length).length=sAt la la.length∧rAt (thrN la lb la.length) (thrN la lb la.length).length=rAt lb lb.length:=by
 obtain ⟨ha,hb,he⟩:=h
 rw [(at_lst _).1,(at_lst _).2,(at_lst la).1,(at_lst lb).2,thr_brd]
 rw [(at_lst la).2,(at_lst lb).1] at he
 have:=lst_cmp (ps:=brd la) (g:=lk ((0,0)::brd lb)) rfl (q:=(lst (brd lb)).2) (by rw [he];exact lk_of hb.rs2 (lst_mem _))
 rw [this]
 exact ⟨rfl,rfl⟩
theorem thr_three {a b c:List Bk} (hb:Join b):thrN (thrN a b a.length) c (thrN a b a.length).length=thrN a (thrN b c b.length) a.length:=by
 rw [thr_all,thr_brd,thr_all a,thr_brd,cmp_cmp]
 congr 2
 funext t
 exact (lk_cmp hb.rs2 (g:=lk ((0,0)::brd c)) rfl t).symm
def byt (n:Nat):List Bk:=(List.range n).map fun (i:Nat)=>((i:Int),(i:Int)+1,(i:Int),(i:Int)+1)
theorem byt_snoc (n:Nat):byt (n+1)=byt n++[((n:Int),(n:Int)+1,(n:Int),(n:Int)+1)]:=by simp [byt,List.range_succ]
theorem byt_len (n:Nat):(byt n).length=n:=by simp [byt]
theorem byt_ends (n:Nat):sAt (byt n) n=(n:Int)∧rAt (byt n) n=(n:Int):=by
 cases n with
 | zero=>exact ⟨rfl,rfl⟩
 | succ n=>rw [sAt_succ (by rw [byt_len];omega),rAt_succ (by rw [byt_len];omega)];simp [byt]
theorem byt_join (n:Nat):Join (byt n):=by
 induction n with
 | zero=>intro j hj;simp [byt] at hj
 | succ n ih=>
  rw [byt_snoc,join_snoc]
  refine ⟨ih,?_⟩
  rw [byt_len,(byt_ends n).1,(byt_ends n).2]
  refine ⟨rfl,rfl,?_,?_⟩ <;> simp <;> omega
theorem byt_mem (n:Nat) (s r:Int):(s,r)∈brd (byt n)↔s=r∧1≤s∧s≤n:=by
 unfold brd byt
 simp only [List.map_map,List.mem_map,List.mem_range,Function.comp]
 constructor
 · rintro ⟨i,hi,e⟩
   injection e with e1 e2
   omega
 · rintro ⟨rfl,h1,h2⟩
   refine ⟨(s - 1).toNat,by omega,?_⟩
   have:((s - 1).toNat:Int)+1=s:=by omega
   rw [this]
theorem byt_lk (n:Nat) {t:Int} (h0:0≤t) (h1:t≤n):lk ((0,0)::brd (byt n)) t=some t:=by
 have hm:((t,t):Int × Int)∈(0,0)::brd (byt n):=by
  by_cases e:t=0
  · subst e;simp
  · rw [List.mem_cons,byt_mem];right;exact ⟨rfl,by omega,h1⟩
 exact lk_of (byt_join n).rs2 hm
theorem thr_byt {a:List Bk} {m:Nat} (ha:Join a) (hm:rAt a a.length=(m:Int)):thrN a (byt m) a.length=a:=by
 rw [(at_lst a).2] at hm
 have e:cmp (brd a) (lk ((0,0)::brd (byt m)))=brd a:=by
  rw [cmp_congr (h:=some)]
  · unfold cmp;simp
  · intro p hp
    have h1:=ha.rs2.ends p (by simp [hp])
    have h2:=((List.pairwise_cons.1 (show List.Pairwise _ _ from ha.rs2)).1 p hp).2
    exact byt_lk m h2 (by omega)
 rw [thr_all,e,ha.mk']
theorem byt_thr {a:List Bk} {n:Nat} (ha:Join a) (hn:sAt a a.length=(n:Int)):thrN (byt n) a (byt n).length=a:=by
 rw [(at_lst a).1] at hn
 have e:cmp (brd (byt n)) (lk ((0,0)::brd a))=brd a:=by
  have hp:=(byt_join n).rs2.cmp ha.rs2
  refine rise_eq (List.pairwise_cons.1 (show List.Pairwise _ _ from hp)).2 (List.pairwise_cons.1 (show List.Pairwise _ _ from ha.rs2)).2 ?_
  rintro ⟨s,r⟩
  rw [cmp_mem]
  constructor
  · rintro ⟨q,h1,h2⟩
    rw [byt_mem] at h1
    obtain ⟨rfl,h3,h4⟩:=h1
    rcases List.mem_cons.1 (lk_mem h2) with e | e
    · injection e with e _;omega
    · exact e
  · intro hm
    have h1:=ha.rs2.ends (s,r) (by simp [hm])
    have h2:=((List.pairwise_cons.1 (show List.Pairwise _ _ from ha.rs2)).1 _ hm).1
    simp at h2
    refine ⟨s,(byt_mem n s s).2 ⟨rfl,by omega,by simp at h1;omega⟩,lk_of ha.rs2 (p:=(s,r)) (by simp [hm])⟩
 rw [thr_all,e,ha.mk']
theorem bS_join {l:List Bk} (h:Join l):bS l=srcs l:=by unfold bS;rw [if_pos h]
theorem bR_join {l:List Bk} (h:Join l):bR l=ress l:=by unfold bR;rw [if_pos h]
theorem srcs_last (l:List Bk):(srcs l).getD ((srcs l).length - 1) 0=sAt l l.length:=by rw [srcs_len,Nat.add_sub_cancel];rfl
theorem ress_last (l:List Bk):(ress l).getD ((ress l).length - 1) 0=rAt l l.length:=by rw [ress_len,Nat.add_sub_cancel];rfl
theorem srcs_strict {l:List Bk} (h:Join l):∀ i j,i<j→j<(srcs l).length→(srcs l).getD i 0<(srcs l).getD j 0:=by
 intro i j hij hj
 rw [srcs_len] at hj
 induction j with
 | zero=>omega
 | succ j ih=>
  have h1:=(h.at' (j:=j) (by omega)).1
  by_cases e:i=j
  · subst e;exact h1
  · have h2:sAt l i<sAt l j:=ih (by omega) (by omega)
    show sAt l i<sAt l (j+1)
    omega
def TI (w:World) (lv:Value) (l:List Bk) (hs ts:List Int) (lb k:Nat) (wr:World):Prop:=
 KR wr lv l∧(∃ x0 x1,wr.heap[lb]? = some (.cells #[.int .i64 x0,.int .i64 x1] 42 (0,0))∧(k=0→x0=0∧x1=0)∧(0<k→∃ p q,PQ hs ts ((k:Int) - 1) x0 x1 p q))∧Below w.heap.size w wr
theorem TI.ge {hs ts:List Int} {k:Nat} {x0 x1 a b:Int} {p q:Nat} (h0:k=0→x0=0∧x1=0) (h1:0<k→∃ p q,PQ hs ts ((k:Int) - 1) x0 x1 p q) (h:PQ hs ts (k:Int) a b p q) (hl:ts.length=hs.length) (hr:Rise ts) (hz:ts.getD 0 0=0):x0≤a∧x1≤b:=by
 rcases Nat.eq_zero_or_pos k with e | e
 · obtain ⟨e1,e2⟩:=h0 e
   have:=h.le hl hr
   omega
 · obtain ⟨p',q',h'⟩:=h1 e
   exact h'.mono h hl hr (by omega)
theorem TI.next {w:World} {lv:Value} {l:List Bk} {hs ts:List Int} {lb k:Nat} {wr:World} {x0 x1:Int} (hb:wr.heap[lb]? = some (.cells #[.int .i64 x0,.int .i64 x1] 42 (0,0))) (hbe:Below w.heap.size w wr) (hw:w.heap.size≤lb) {w0:World} (hw0:KR w0 lv l) (hb0:Below w0.heap.size w0 wr) (hlb:w0.heap.size≤lb) {a b:Int} {p q:Nat} (hp:PQ hs ts (k:Int) a b p q):TI w lv l hs ts lb (k+1) ((wr.setCell ⟨lb,0,none⟩ (.int .i64 a)).setCell ⟨lb,1,none⟩ (.int .i64 b)):=by
 have hf:Fr wr ((wr.setCell ⟨lb,0,none⟩ (.int .i64 a)).setCell ⟨lb,1,none⟩ (.int .i64 b)) (fun k=>k=lb):=(fr_set _ _ _ _).trans (fr_set _ _ _ _) fun _ _ e=>e
 refine ⟨hw0.below (hb0.trans (hf.below (base:=w0.heap.size) (fun i e=>by have e:i=lb:=e;omega) hb0.size)) (Nat.le_refl _),⟨a,b,?_,fun e=>by omega,fun _=>⟨p,q,?_⟩⟩,hbe.trans (hf.below (fun i e=>by have e:i=lb:=e;omega) hbe.size)⟩
 · rw [set_heap (set_heap hb)];rfl
 · have:((k+1:Nat):Int) - 1=(k:Int):=by omega
   rw [this];exact hp
theorem TI.below {w:World} {lv:Value} {l:List Bk} {hs ts:List Int} {lb k:Nat} {wr v:World} (h:TI w lv l hs ts lb k wr) (hb:Below wr.heap.size wr v):TI w lv l hs ts lb k v:=by
 obtain ⟨h1,⟨x0,x1,h2,h3,h4⟩,h5⟩:=h
 exact ⟨h1.below hb (Nat.le_refl _),⟨x0,x1,(hb.block _ (blk_lt h2)).trans h2,h3,h4⟩,h5.trans (hb.mono h5.size)⟩
theorem TI.zero {w:World} {lv:Value} {l:List Bk} {hs ts:List Int} {lb:Nat} {wr:World} {x0 x1:Int} (hb:wr.heap[lb]? = some (.cells #[.int .i64 x0,.int .i64 x1] 42 (0,0))) (hbe:Below w.heap.size w wr) (hw:w.heap.size≤lb) {w0:World} (hw0:KR w0 lv l) (hb0:Below w0.heap.size w0 wr) (hlb:w0.heap.size≤lb):TI w lv l hs ts lb 0 ((wr.setCell ⟨lb,0,none⟩ (.int .i64 0)).setCell ⟨lb,1,none⟩ (.int .i64 0)):=by
 have hf:Fr wr ((wr.setCell ⟨lb,0,none⟩ (.int .i64 0)).setCell ⟨lb,1,none⟩ (.int .i64 0)) (fun k=>k=lb):=(fr_set _ _ _ _).trans (fr_set _ _ _ _) fun _ _ e=>e
 refine ⟨hw0.below (hb0.trans (hf.below (base:=w0.heap.size) (fun i e=>by have e:i=lb:=e;omega) hb0.size)) (Nat.le_refl _),⟨0,0,?_,fun _=>⟨rfl,rfl⟩,fun e=>by omega⟩,hbe.trans (hf.below (fun i e=>by have e:i=lb:=e;omega) hbe.size)⟩
 rw [set_heap (set_heap hb)];rfl
set_option maxHeartbeats 16000000 in
theorem rising_walk (a:Option Addr) (n c:Nat) (sz:List (Int × Int)) (w:World) (h:Rs w (.slice a n c) sz) (hn:sz.length=n) (hT:Tab w) (hz:0<w.heap.size):Calls Tryd.prog 4 #[.slice a n c] w fun e w'=>e = .returned (.bool true)∧Below w.heap.size w w':=by
 have H9:=Hid.mk' (shown9 w hT hz)
 have H10:Hid (∀ W,Below w.heap.size w W→Calls Tryd.prog 10 #[.slice a n c,.int .i64 (-1)] W (JdQ W (-1))):=fun W hb=>joined_walk a n c sz (-1) W (h.below hb (Nat.le_refl _)) hn (by decide) (by decide)
 clear h hn hT hz
 go_enter Tryd.func4,Tryd.ntmps4
 go_upto_if 24 with (first | (go_at_call 9;refine H9.out.mono ?_;rintro e w1 ⟨rfl,hb1⟩;have H10':=Hid.mk' (H10.out _ hb1);have HB1:=Hid.mk' hb1;clear hb1) | (go_at_call 10;refine H10'.out.mono ?_;rintro e w2 ⟨ov,l,rfl,ho,hj,hb2⟩;obtain ⟨oa,oc,hov⟩:=ho.form;obtain ⟨ln,hln⟩:∃ n,l.length=n:=⟨_,rfl⟩;rw [hln] at hov;subst hov;have hl3:ln≤301:=hln ▸ hj.2.1;have H11:=Hid.mk' (ends_any oa ln oc l w2 ho.kr hln (by omega));have HJ:=Hid.mk' (And.intro ho.kr (And.intro hj (And.intro (HB1.out.trans (hb2.mono HB1.out.size)) hln)));obtain ⟨M,hM⟩:∃ M:Nat,rAt l l.length=(M:Int):=⟨(rAt l l.length).toNat,by have:=hj.2.2.1.1;omega⟩;obtain ⟨N,hN⟩:∃ N:Nat,sAt l l.length=(N:Int):=⟨(sAt l l.length).toNat,by have:=hj.2.2.2.1.1;omega⟩;have hMb:(M:Int)≤1000:=(by have:=hj.2.2.1.2;omega);have hNb:(N:Int)≤1200:=(by have:=hj.2.2.2.1.2;omega);rw [hM] at H11;have HMN:=Hid.mk' (And.intro hM hN);clear ho hj hb2 hM hN hln) | (go_at_call 11;refine H11.out.mono ?_;rintro e w3 ⟨rfl,hx⟩;have hx:=hx.symm;subst hx))
 go_cut [4] (fun s wx=>s = .int .i64 (N:Int)∧Hid (wx=w2))
 case first=>
  by_cases hl0:ln=0
  · have hN0:N=0:=by
     have e1:=HMN.out.2
     have e2:=HJ.out.2.2.2
     have:l=[]:=List.eq_nil_of_length_eq_zero (e2.trans hl0)
     subst this
     have e3:sAt ([]:List Bk) 0=0:=rfl
     have e1:sAt ([]:List Bk) 0=(N:Int):=e1
     omega
    subst hN0
    subst hl0
    go_wp2_with fail
    go_meet
    exact ⟨rfl,rfl⟩
  · obtain ⟨m,hm⟩:∃ m,ln=m+1:=⟨ln - 1,by omega⟩
    obtain ⟨g,o,hae,k0,k1,k2,k3⟩:=kr_cell HJ.out.1 (j:=m) (by have:=HJ.out.2.2.2;omega)
    subst hae
    have hx1:=(rAt_last (HJ.out.2.2.2.trans hm)).2
    rw [HMN.out.2] at hx1
    rw [←hx1] at k1
    have hzI:(0:Int)<(ln:Int):=by omega
    have hzN:0<ln:=by omega
    have hmI:(ln:Int) - 1=(m:Int):=by omega
    have hmn:(m:Int)<(ln:Int):=by omega
    have hm0:(m:Int)≤1000000:=by omega
    clear hx1 hm k0 k2 k3 hl0
    go_wp2_with fail
    go_meet
    exact ⟨rfl,rfl⟩
 case rest=>
  obtain ⟨rfl,HWC⟩:=hcut
  have hwc:=HWC.out
  subst hwc
  clear HWC
  have hT0:Hid (TI w (.slice oa ln oc) l (srcs l) (ress l) wc.heap.size 0 (wc.alloc (.cells #[.int .i64 0,.int .i64 0] 42))):=⟨HJ.out.1.grown ((Grown.refl _).alloc _),⟨0,0,heap_alloc_new _ _,fun _=>⟨rfl,rfl⟩,fun h=>by omega⟩,HJ.out.2.2.1.trans (((Grown.refl wc).alloc _).below.mono HJ.out.2.2.1.size)⟩
  go_wp2
  have hjn:=HJ.out.2.1.1
  have HP1:Hid (∀ (k:Nat),k≤N→∀ a b,Acr (bS l) (bR l) (k:Int) a b→∃ p q,PQ (srcs l) (ress l) (k:Int) a b p q):=fun k hk a b h=>by
   rw [bS_join hjn,bR_join hjn] at h
   exact h.pq (by rw [←bS_join hjn];exact bS_rise l) (by rw [srcs_len];omega) (by omega) (by rw [srcs_last,HMN.out.2];omega)
  have HP2:Hid (∀ (k:Int),0≤k→k≤(M:Int)→∀ a b,Acr (bR l) (bS l) k a b→∃ p q,PQ (ress l) (srcs l) k a b p q):=fun k h0 hk a b h=>by
   rw [bS_join hjn,bR_join hjn] at h
   exact h.pq (by rw [←bR_join hjn];exact bR_rise l) (by rw [ress_len];omega) (by omega) (by rw [ress_last,HMN.out.1];omega)
  have hrS:Rise (srcs l):=by rw [←bS_join hjn];exact bS_rise l
  have hrR:Rise (ress l):=by rw [←bR_join hjn];exact bR_rise l
  have hLn:(ress l).length=(srcs l).length:=by rw [ress_len,srcs_len]
  have HRR:Hid (Rise (srcs l)∧Rise (ress l)∧(ress l).length=(srcs l).length∧(∀ i j,i<j→j<(srcs l).length→(srcs l).getD i 0<(srcs l).getD j 0)∧(ress l).getD ((ress l).length - 1) 0=(M:Int)∧(srcs l).getD ((srcs l).length - 1) 0=(N:Int)):=⟨hrS,hrR,hLn,srcs_strict hjn,by rw [ress_last,HMN.out.1],by rw [srcs_last,HMN.out.2]⟩
  have HLl:Hid (l.length≤1000000):=by have:=HJ.out.2.1.2.1;show _≤_;omega
  have hws:Hid (w.heap.size≤wc.heap.size):=HJ.out.2.2.1.size
  have HK2:=Hid.mk' HJ.out.1
  clear hjn hrS hrR hLn HJ
  go_loopg [7] (N+1) (fun q s7 wr=>∃ k:Nat,s7 = .int .i64 (k:Int)∧k≤N+1∧N+1 - k≤q∧Hid (TI w (.slice oa ln oc) l (srcs l) (ress l) wc.heap.size k wr∧Below wc.heap.size wc wr))
  case atStart=>exact ⟨0,rfl,by omega,by omega,hT0.out,((Grown.refl wc).alloc _).below⟩
  case round=>
   obtain ⟨k,rfl,hk1,hk2,HR⟩:=hrel
   have hkI:(k:Int)≤100000:=by omega
   clear hT0
   obtain ⟨wk,hwk⟩:∃ x,x=wr:=⟨_,rfl⟩
   subst hwk
   by_cases hkN:k≤N
   · have hkNI:(k:Int)≤(N:Int):=by omega
     have HTo:=Hid.mk' (to_any (.slice oa ln oc) l (k:Int) wk HR.out.1.1 HLl.out)
     go_wp2_with (go_at_call 12;refine HTo.out.mono ?_;rintro e v1 ⟨x,y,rfl,hac,hb1⟩;obtain ⟨p,q',hpq⟩:=HP1.out k hkN x y hac;obtain ⟨x0,x1,hbx,hz0,hz1⟩:=HR.out.1.2.1;have hge:=TI.ge hz0 hz1 hpq HRR.out.2.2.1 HRR.out.2.1 rfl;have hle:=hpq.le HRR.out.2.2.1 HRR.out.2.1;rw [HRR.out.2.2.2.2.1] at hle;have hle0:(0:Int)≤x:=hle.1;have hbv:=(hb1.block _ (blk_lt hbx)).trans hbx;have c0:v1.cell? ⟨wc.heap.size,0,none⟩=some (.int .i64 x0):=(by rw [cell_of hbv];rfl);have c1:v1.cell? ⟨wc.heap.size,1,none⟩=some (.int .i64 x1):=(by rw [cell_of hbv];rfl);have f0:∀ j,v1.frozen? ⟨wc.heap.size,j,none⟩=false:=(fun j=>free_of hbv);have g1:¬ x<x0:=(by omega);have g2:¬ y<x1:=(by omega);have g3:¬ y<x:=(by omega);have g4:¬ (M:Int)<y:=(by omega);have HV:Hid (PQ (srcs l) (ress l) (k:Int) x y p q'∧Below wk.heap.size wk v1∧v1.heap[wc.heap.size]? = some (.cells #[.int .i64 x0,.int .i64 x1] 42 (0,0))∧x≤y∧y≤(M:Int)):=⟨hpq,hb1,hbv,hle.2.1,hle.2.2⟩;clear hpq hb1 hbv hac hz0 hz1 hge hle hbx)
     have HX1:Hid (TI w (.slice oa ln oc) l (srcs l) (ress l) wc.heap.size (k+1) ((v1.setCell ⟨wc.heap.size,0,none⟩ (.int .i64 x)).setCell ⟨wc.heap.size,1,none⟩ (.int .i64 y))∧Below wc.heap.size wc ((v1.setCell ⟨wc.heap.size,0,none⟩ (.int .i64 x)).setCell ⟨wc.heap.size,1,none⟩ (.int .i64 y))):=by
      have hbw:=HR.out.1.2.2.trans (HV.out.2.1.mono HR.out.1.2.2.size)
      have hbwc:=HR.out.2.trans (HV.out.2.1.mono HR.out.2.size)
      exact ⟨TI.next HV.out.2.2.1 hbw hws.out HK2.out hbwc (Nat.le_refl _) HV.out.1,hbwc.trans (((fr_set _ _ _ _).trans (fr_set _ _ _ _) fun _ _ e=>e:Fr v1 _ fun k=>k=wc.heap.size).below (fun i e=>by have e:i=wc.heap.size:=e;omega) hbwc.size)⟩
     have hx0:(-1:Int)≤x:=by omega
     have hxy:=HV.out.2.2.2.1
     have hyM:=HV.out.2.2.2.2
     clear HTo c0 c1 f0
     go_loopg [10] ((y+1 - x).toNat) (fun q s10 wr=>∃ kk:Int,s10 = .int .i64 kk∧x≤kk∧kk≤y+1∧(y+1 - kk).toNat≤q∧Hid (TI w (.slice oa ln oc) l (srcs l) (ress l) wc.heap.size (k+1) wr∧Below wc.heap.size wc wr))
     case atStart=>exact ⟨x,rfl,by omega,by omega,by omega,HX1.out⟩
     case round=>
      obtain ⟨kk,rfl,hkk1,hkk2,hkk3,HR2⟩:=hrel
      clear HX1
      by_cases hky:kk≤y
      · have HFr:=Hid.mk' (from_any (.slice oa ln oc) l kk wr HR2.out.1.1 HLl.out)
        have hkM:kk≤(M:Int):=by omega
        go_wp2_with fail
        refine HFr.out.mono ?_
        rintro e v2 ⟨X,Y,rfl,hac2,hb2⟩
        obtain ⟨p2,q2,hpq2⟩:=HP2.out kk (by omega) hkM X Y hac2
        have HV2:Hid (TI w (.slice oa ln oc) l (srcs l) (ress l) wc.heap.size (k+1) v2∧Below wc.heap.size wc v2):=⟨HR2.out.1.below hb2,HR2.out.2.trans (hb2.mono HR2.out.2.size)⟩
        have hback:(x<kk∧kk<y)∨(x=y∧x=kk)→X≤(k:Int)∧(k:Int)≤Y:=HV.out.1.back hpq2 HRR.out.2.2.1 HRR.out.1 HRR.out.2.1 HRR.out.2.2.2.1
        have hway:(x=y∧kk=x∧¬ x<kk∧¬ (k:Int)<X∧¬ Y<(k:Int))∨(x<kk∧kk<y∧¬ (k:Int)<X∧¬ Y<(k:Int))∨(¬ x=y∧kk=x∧¬ x<kk)∨(¬ x=y∧x<kk∧¬ kk<y):=by
         by_cases e1:x=y
         · have:=hback (.inr ⟨e1,by omega⟩)
           exact .inl ⟨e1,by omega,by omega,by omega,by omega⟩
         · by_cases e2:x<kk∧kk<y
           · have:=hback (.inl e2)
             exact .inr (.inl ⟨e2.1,e2.2,by omega,by omega⟩)
           · by_cases e3:kk=x
             · exact .inr (.inr (.inl ⟨e1,e3,by omega⟩))
             · exact .inr (.inr (.inr ⟨e1,by omega,by omega⟩))
        have hm:Hid (x≤kk+1∧kk+1≤y+1∧(y+1 - (kk+1)).toNat<(y+1 - kk).toNat):=⟨by omega,by omega,by omega⟩
        clear hback hpq2 hac2 hb2 HFr
        rcases hway with ⟨e1,e2,e3,e4,e5⟩ | ⟨e1,e2,e4,e5⟩ | ⟨e1,e2,e3⟩ | ⟨e1,e2,e3⟩
        · have hed:decide (x=y)=true:=by simpa using e1
          have heb:(x == y)=true:=by simpa using e1
          clear e2 e1
          go_wp2
          go_roundg ((y+1 - (kk+1)).toNat)
          case measure=>have:=hm.out;omega
          case rel=>exact ⟨kk+1,rfl,hm.out.1,hm.out.2.1,Nat.le_refl _,HV2.out⟩
        · go_wp2
          go_roundg ((y+1 - (kk+1)).toNat)
          case measure=>have:=hm.out;omega
          case rel=>exact ⟨kk+1,rfl,hm.out.1,hm.out.2.1,Nat.le_refl _,HV2.out⟩
        · have hed:decide (x=y)=false:=by simpa using e1
          have heb:(x == y)=false:=by simpa using e1
          clear e2
          go_wp2
          go_roundg ((y+1 - (kk+1)).toNat)
          case measure=>have:=hm.out;omega
          case rel=>exact ⟨kk+1,rfl,hm.out.1,hm.out.2.1,Nat.le_refl _,HV2.out⟩
        · have hed:decide (x=y)=false:=by simpa using e1
          have heb:(x == y)=false:=by simpa using e1
          go_wp2
          go_roundg ((y+1 - (kk+1)).toNat)
          case measure=>have:=hm.out;omega
          case rel=>exact ⟨kk+1,rfl,hm.out.1,hm.out.2.1,Nat.le_refl _,HV2.out⟩
      · go_wp2
        go_roundg (N+1 - (k+1))
        case measure=>omega
        case rel=>exact ⟨k+1,rfl,by omega,Nat.le_refl _,HR2.out⟩
   · have hkNI:¬ (k:Int)≤(N:Int):=by omega
     obtain ⟨x0,x1,hbx,_,_⟩:=HR.out.1.2.1
     have c0:wk.cell? ⟨wc.heap.size,0,none⟩=some (.int .i64 x0):=(by rw [cell_of hbx];rfl)
     have c1:wk.cell? ⟨wc.heap.size,1,none⟩=some (.int .i64 x1):=(by rw [cell_of hbx];rfl)
     have f0:∀ j,wk.frozen? ⟨wc.heap.size,j,none⟩=false:=(fun j=>free_of hbx)
     have HX1:Hid (TI w (.slice oa ln oc) l (ress l) (srcs l) wc.heap.size 0 ((wk.setCell ⟨wc.heap.size,0,none⟩ (.int .i64 0)).setCell ⟨wc.heap.size,1,none⟩ (.int .i64 0))∧Below wc.heap.size wc ((wk.setCell ⟨wc.heap.size,0,none⟩ (.int .i64 0)).setCell ⟨wc.heap.size,1,none⟩ (.int .i64 0))):=
      ⟨TI.zero hbx HR.out.1.2.2 hws.out HK2.out HR.out.2 (Nat.le_refl _),HR.out.2.trans (((fr_set _ _ _ _).trans (fr_set _ _ _ _) fun _ _ e=>e:Fr wk _ fun k=>k=wc.heap.size).below (fun i e=>by have e:i=wc.heap.size:=e;omega) HR.out.2.size)⟩
     clear hbx
     go_wp2
     clear c0 c1 f0
     go_loopg [13] (M+1) (fun q s7 wr=>∃ k:Nat,s7 = .int .i64 (k:Int)∧k≤M+1∧M+1 - k≤q∧Hid (TI w (.slice oa ln oc) l (ress l) (srcs l) wc.heap.size k wr∧Below wc.heap.size wc wr))
     case atStart=>exact ⟨0,rfl,by omega,by omega,HX1.out⟩
     case round=>
      obtain ⟨j,rfl,hj1,hj2,HR2⟩:=hrel
      have hjI:(j:Int)≤100000:=by omega
      clear HX1
      by_cases hjM:j≤M
      · have hjMI:(j:Int)≤(M:Int):=by omega
        have HFr:=Hid.mk' (from_any (.slice oa ln oc) l (j:Int) wr HR2.out.1.1 HLl.out)
        go_wp2_with (go_at_call 13;refine HFr.out.mono ?_;rintro e v1 ⟨x,y,rfl,hac,hb1⟩;obtain ⟨p,q',hpq⟩:=HP2.out (j:Int) (by omega) hjMI x y hac;obtain ⟨x0,x1,hbx,hz0,hz1⟩:=HR2.out.1.2.1;have hge:=TI.ge hz0 hz1 hpq HRR.out.2.2.1.symm HRR.out.1 rfl;have hle:=hpq.le HRR.out.2.2.1.symm HRR.out.1;rw [HRR.out.2.2.2.2.2] at hle;have hle0:(0:Int)≤x:=hle.1;have hbv:=(hb1.block _ (blk_lt hbx)).trans hbx;have c0:v1.cell? ⟨wc.heap.size,0,none⟩=some (.int .i64 x0):=(by rw [cell_of hbv];rfl);have c1:v1.cell? ⟨wc.heap.size,1,none⟩=some (.int .i64 x1):=(by rw [cell_of hbv];rfl);have f0:∀ j,v1.frozen? ⟨wc.heap.size,j,none⟩=false:=(fun j=>free_of hbv);have g1:¬ x<x0:=(by omega);have g2:¬ y<x1:=(by omega);have g3:¬ y<x:=(by omega);have g4:¬ (N:Int)<y:=(by omega);have HV:Hid (PQ (ress l) (srcs l) (j:Int) x y p q'∧Below wr.heap.size wr v1∧v1.heap[wc.heap.size]? = some (.cells #[.int .i64 x0,.int .i64 x1] 42 (0,0))):=⟨hpq,hb1,hbv⟩;clear hpq hb1 hbv hac hz0 hz1 hge hle hbx)
        go_roundg (M+1 - (j+1))
        case measure=>omega
        case rel=>
         have hbw:=HR2.out.1.2.2.trans (HV.out.2.1.mono HR2.out.1.2.2.size)
         have hbwc:=HR2.out.2.trans (HV.out.2.1.mono HR2.out.2.size)
         exact ⟨j+1,rfl,by omega,Nat.le_refl _,TI.next HV.out.2.2 hbw hws.out HK2.out hbwc (Nat.le_refl _) HV.out.1,hbwc.trans (((fr_set _ _ _ _).trans (fr_set _ _ _ _) fun _ _ e=>e:Fr v1 _ fun k=>k=wc.heap.size).below (fun i e=>by have e:i=wc.heap.size:=e;omega) hbwc.size)⟩
      · have hjMI:¬ (j:Int)≤(M:Int):=by omega
        go_wp2
        go_ret
        exact ⟨rfl,HR2.out.1.2.2⟩
end Go.Proofs
