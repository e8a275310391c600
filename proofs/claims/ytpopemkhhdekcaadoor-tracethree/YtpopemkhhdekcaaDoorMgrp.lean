/-
  Several texts in one (Zv Zx).
-/
import Derived.RangeFuncNested
import Derived.RangeFuncBound
import Derived.RangeFuncCalls
import Derived.RangeFuncLeaves
import Derived.Shelf.Abstract
import Derived.Shelf.RegionOpen
import Derived.WalkKit
import Derived.WalkSpells
import Derived.WalkLawsBesides
import Derived.OwnWalkIn
import Derived.TacticsInMore
import Derived.LoopNIn
import Derived.LoopIn
import Derived.BigQuiet
import Derived.RegionIn
import Derived.Deep.QuietTactic
import Derived.Deep.RegionWith
import Derived.Lib.OthersKept
import Derived.Maps.AppendAt
import Derived.Lib.SmallJoins
import Derived.Shelf.SlSortCmp.QuietGrown
import Derived.RangeFuncWrites
import Derived.RangeFuncBox
import Derived.Maps.OwnIn
import Derived.Test.YtpopemkhhdekcaaDoorZkp
import Derived.Test.YtpopemkhhdekcaaDoorZhp
import Derived.Test.YtpopemkhhdekcaaDoorMgqp
import Derived.Test.YtpopemkhhdekcaaDoorMgop
namespace Go.Proofs
open Go.RowKit Go.Shelf
set_option maxRecDepth 100000
attribute [local go_sem] Oper.semAt_some
attribute [local go_sem ↓] Go.wp_at_zero Go.wp_at_succ
structure PQ (hs ts:List Int) (t a b:Int) (p q:Nat):Prop where
 pq:p≤q
 ql:q<hs.length
 hp:hs.getD p 0≤t
 hq:t≤hs.getD q 0
 ha:a=ts.getD p 0
 hb:b=ts.getD q 0
 lo:∀ j,j<hs.length→hs.getD j 0<t→j≤p
 hi:∀ j,j<hs.length→t<hs.getD j 0→q≤j
 way:(q=p+1∧hs.getD p 0<t∧t<hs.getD q 0)∨(hs.getD p 0=t∧hs.getD q 0=t∧(∀ j,j<p→hs.getD j 0<t)∧(∀ j,q<j→j<hs.length→t<hs.getD j 0))
theorem Rise.at' {hs:List Int} (h:Rise hs) {i j:Nat} (hj:j<hs.length) (hij:i≤j):hs.getD i 0≤hs.getD j 0:=by
 rw [getD_lt hj,getD_lt (by omega)];exact h i j (by omega) hj hij
theorem Acr.pq {hs ts:List Int} {t a b:Int} (h:Acr hs ts t a b) (hr:Rise hs) (h0:0<hs.length) (ht0:0≤t) (ht1:t≤hs.getD (hs.length - 1) 0):∃ p q,PQ hs ts t a b p q:=by
 rcases h with ⟨e,_⟩ | ⟨_,_,i,i0,i1,i2,i3,i4,i5⟩ | ⟨_,_,i,k,i0,i1,i2,i3,i4,i5,i6,i7⟩
 · rcases e with e | e | e <;> omega
 · refine ⟨i - 1,i,by omega,i1,by omega,by omega,i4,i5,fun j hj hlt => ?_,fun j hj hlt => ?_,.inl ⟨by omega,i2,i3⟩⟩
   · rcases Nat.lt_or_ge (i - 1) j with e | e
     · have:=hr.at' (i:=i) (j:=j) hj (by omega);omega
     · exact e
   · rcases Nat.lt_or_ge j i with e | e
     · have:=hr.at' (i:=j) (j:=i - 1) (by omega) (by omega);omega
     · exact e
 · refine ⟨i,k,i0,i1,by omega,by omega,i6,i7,fun j hj hlt => ?_,fun j hj hlt => ?_,.inr ⟨i2,i3,i4,i5⟩⟩
   · rcases Nat.lt_or_ge i j with e | e
     · have:=hr.at' (i:=i) (j:=j) hj (by omega);omega
     · exact e
   · rcases Nat.lt_or_ge j k with e | e
     · have:=hr.at' (i:=j) (j:=k) i1 (by omega);omega
     · exact e
theorem PQ.mono {hs ts:List Int} {t a b t' a' b':Int} {p q p' q':Nat} (h:PQ hs ts t a b p q) (h':PQ hs ts t' a' b' p' q') (hl:ts.length=hs.length) (hr:Rise ts) (ht:t<t'):a≤a'∧b≤b':=by
 have h1:=h'.lo p (by have:=h.pq;have:=h.ql;omega) (by have:=h.hp;omega)
 have h2:=h.hi q' h'.ql (by have:=h'.hq;omega)
 rw [h.ha,h.hb,h'.ha,h'.hb]
 exact ⟨hr.at' (by have:=h'.pq;have:=h'.ql;omega) h1,hr.at' (by have:=h'.ql;omega) h2⟩
theorem PQ.le {hs ts:List Int} {t a b:Int} {p q:Nat} (h:PQ hs ts t a b p q) (hl:ts.length=hs.length) (hr:Rise ts):ts.getD 0 0≤a∧a≤b∧b≤ts.getD (ts.length - 1) 0:=by
 have:=h.pq
 have:=h.ql
 rw [h.ha,h.hb]
 exact ⟨hr.at' (by omega) (by omega),hr.at' (by omega) (by omega),hr.at' (by omega) (by omega)⟩
theorem PQ.back {hs ts:List Int} {t a b k x y:Int} {p q p' q':Nat} (h:PQ hs ts t a b p q) (h':PQ ts hs k x y p' q') (hl:ts.length=hs.length) (hrh:Rise hs) (hrt:Rise ts) (hst:∀ i j,i<j→j<hs.length→hs.getD i 0<hs.getD j 0) (hk:(a<k∧k<b)∨(a=b∧a=k)):x≤t∧t≤y:=by
 have e1:=h.pq
 have e2:=h.ql
 have e3:=h'.pq
 have e4:=h'.ql
 have ea:=h.ha
 have eb:=h.hb
 rw [h'.ha,h'.hb]
 rcases hk with ⟨k1,k2⟩ | ⟨k1,k2⟩
 · rcases h.way with ⟨w1,w2,w3⟩ | ⟨w1,w2,_,_⟩
   · have l1:=h'.lo p (by omega) (by omega)
     have l2:=h'.hi q (by omega) (by omega)
     have n1:p'=p:=by
      rcases Nat.lt_or_ge p p' with e | e
      · have:=hrt.at' (i:=q) (j:=p') (by omega) (by omega)
        have:=h'.hp
        omega
      · omega
     have n2:q'=q:=by
      rcases Nat.lt_or_ge q' q with e | e
      · have:=hrt.at' (i:=q') (j:=p) (by omega) (by omega)
        have:=h'.hq
        omega
      · omega
     rw [n1,n2]
     exact ⟨h.hp,h.hq⟩
   · rcases Nat.lt_or_ge p q with e | e
     · have:=hst p q e e2;omega
     · have:p=q:=by omega
       subst this
       omega
 · rcases h'.way with ⟨w1,w2,w3⟩ | ⟨w1,w2,w3,w4⟩
   · exfalso
     rcases Nat.lt_or_ge p' p with e | e
     · have:=hrt.at' (i:=q') (j:=p) (by omega) (by omega);omega
     · have:=hrt.at' (i:=p) (j:=p') (by omega) (by omega);omega
   · have n1:p'≤p:=by
      rcases Nat.lt_or_ge p p' with e | e
      · have:=w3 p e;omega
      · exact e
     have n2:q≤q':=by
      rcases Nat.lt_or_ge q' q with e | e
      · have:=w4 q e (by omega);omega
      · exact e
     have m1:=hrh.at' (i:=p') (j:=p) (by omega) n1
     have m2:=hrh.at' (i:=q) (j:=q') (by omega) n2
     have:=h.hp
     have:=h.hq
     exact ⟨by omega,by omega⟩
def brd (l:List Bk):List (Int × Int):=l.map fun b=>(b.2.1,b.2.2.2)
def mkF (s r:Int):List (Int × Int)→List Bk
 | []=>[]
 | p::ps=>(s,p.1,r,p.2)::mkF p.1 p.2 ps
def lst (ps:List (Int × Int)):Int × Int:=((0,0)::ps).getLastD (0,0)
theorem lst_nil:lst []=(0,0):=rfl
theorem lst_snoc (ps:List (Int × Int)) (p:Int × Int):lst (ps++[p])=p:=by unfold lst;rw [←List.cons_append,List.getLastD_concat]
theorem brd_mkF (s r:Int) (ps:List (Int × Int)):brd (mkF s r ps)=ps:=by
 induction ps generalizing s r with
 | nil=>rfl
 | cons p ps ih=>show (p.1,p.2)::brd (mkF p.1 p.2 ps)=_;rw [ih]
theorem mkF_len (s r:Int) (ps:List (Int × Int)):(mkF s r ps).length=ps.length:=by
 induction ps generalizing s r with
 | nil=>rfl
 | cons p ps ih=>show (mkF p.1 p.2 ps).length+1=ps.length+1;rw [ih]
theorem mkF_snoc (s r:Int) (ps:List (Int × Int)) (p:Int × Int):mkF s r (ps++[p])=mkF s r ps++[((((s,r)::ps).getLastD (0,0)).1,p.1,(((s,r)::ps).getLastD (0,0)).2,p.2)]:=by
 induction ps generalizing s r with
 | nil=>rfl
 | cons q ps ih=>
  show (s,q.1,r,q.2)::mkF q.1 q.2 (ps++[p])=(s,q.1,r,q.2)::mkF q.1 q.2 ps++_
  rw [ih]
  rfl
theorem at_lst (l:List Bk):sAt l l.length=(lst (brd l)).1∧rAt l l.length=(lst (brd l)).2:=by
 rcases List.eq_nil_or_concat l with e | ⟨l',b,e⟩
 · subst e;exact ⟨rfl,rfl⟩
 · rw [List.concat_eq_append] at e
   subst e
   have h:brd (l'++[b])=brd l'++[(b.2.1,b.2.2.2)]:=by simp [brd]
   rw [h,lst_snoc,List.length_append,List.length_singleton]
   refine ⟨?_,?_⟩
   · rw [sAt_succ (by simp)];simp
   · rw [rAt_succ (by simp)];simp
def Rs2 (ps:List (Int × Int)):Prop:=List.Pairwise (fun p q=>p.1<q.1∧p.2≤q.2) ((0,0)::ps)
theorem Rs2.ends {ps:List (Int × Int)} (h:Rs2 ps):∀ p∈(0,0)::ps,p.1≤(lst ps).1∧p.2≤(lst ps).2:=by
 intro p hp
 rcases List.eq_nil_or_concat ps with e | ⟨ps',q,e⟩
 · subst e
   simp at hp
   subst hp
   exact ⟨Int.le_refl _,Int.le_refl _⟩
 · rw [List.concat_eq_append] at e
   subst e
   rw [lst_snoc]
   unfold Rs2 at h
   rw [←List.cons_append,List.pairwise_append] at h
   rw [←List.cons_append,List.mem_append] at hp
   rcases hp with hp | hp
   · have:=h.2.2 p hp q (by simp);exact ⟨by omega,by omega⟩
   · simp at hp;subst hp;exact ⟨Int.le_refl _,Int.le_refl _⟩
theorem rs2_snoc {ps:List (Int × Int)} {p:Int × Int} (h:Rs2 ps) (h1:(lst ps).1<p.1) (h2:(lst ps).2≤p.2):Rs2 (ps++[p]):=by
 unfold Rs2
 rw [←List.cons_append,List.pairwise_append]
 refine ⟨h,by simp,fun q hq p' hp' => ?_⟩
 simp at hp'
 subst hp'
 have:=h.ends q hq
 exact ⟨by omega,by omega⟩
theorem join_snoc {l:List Bk} {b:Bk} : Join (l++[b])↔Join l∧okB (sAt l l.length) (rAt l l.length) b:=by
 have ea:∀ j,j≤l.length→sAt (l++[b]) j=sAt l j∧rAt (l++[b]) j=rAt l j:=fun j hj=>by
  unfold sAt rAt
  simp only [srcs_app,ress_app,List.getD_eq_getElem?_getD]
  rw [List.getElem?_append_left (by rw [srcs_len];omega),List.getElem?_append_left (by rw [ress_len];omega)]
  exact ⟨rfl,rfl⟩
 constructor
 · intro h
   refine ⟨fun j hj hl => ?_,?_⟩
   · have:=h j (by simp;omega) (by simp;omega)
     rw [(ea j (by omega)).1,(ea j (by omega)).2,List.getElem_append_left hj] at this
     exact this
   · have:=h l.length (by simp) (by simp)
     rw [(ea _ (Nat.le_refl _)).1,(ea _ (Nat.le_refl _)).2] at this
     simpa using this
 · rintro ⟨h1,h2⟩ j hj hl
   simp at hj
   rw [(ea j (by omega)).1,(ea j (by omega)).2]
   by_cases e:j<l.length
   · rw [List.getElem_append_left e];exact h1 j e e
   · have:j=l.length:=by omega
     subst this
     simpa using h2
theorem join_iff:∀ (n:Nat) (l:List Bk),l.length=n→(Join l↔l=mkF 0 0 (brd l)∧Rs2 (brd l))
 | 0,l,h=>by
  have:=List.eq_nil_of_length_eq_zero h
  subst this
  exact ⟨fun _=>⟨rfl,by simp [Rs2,brd]⟩,fun _ j hj=>by simp at hj⟩
 | n+1,l,h=>by
  rcases List.eq_nil_or_concat l with e | ⟨l',b,e⟩
  · subst e;simp at h
  · rw [List.concat_eq_append] at e
    subst e
    have hl:l'.length=n:=by simpa using h
    have ih:=join_iff n l' hl
    have hb:brd (l'++[b])=brd l'++[(b.2.1,b.2.2.2)]:=by simp [brd]
    rw [join_snoc,hb,mkF_snoc,(at_lst l').1,(at_lst l').2]
    constructor
    · rintro ⟨h1,q1,q2,q3,q4⟩
      obtain ⟨i1,i2⟩:=ih.1 h1
      refine ⟨?_,rs2_snoc i2 (by rw [←q1];exact q3) (by rw [←q2];exact q4)⟩
      rw [←i1]
      congr 1
      obtain ⟨b1,b2,b3,b4⟩:=b
      show [_]=[_]
      simp only at q1 q2
      rw [q1,q2]
      rfl
    · rintro ⟨h1,h2⟩
      have h3:=List.append_inj h1 (by rw [mkF_len];simp [brd])
      have h4:Rs2 (brd l'):=by
       unfold Rs2 at h2 ⊢
       rw [←List.cons_append,List.pairwise_append] at h2
       exact h2.1
      have h5:=(List.pairwise_append.1 (by rw [List.cons_append];exact h2:List.Pairwise _ (((0,0)::brd l')++[(b.2.1,b.2.2.2)]))).2.2 (lst (brd l')) (by unfold lst;rw [List.getLastD_cons];exact List.getLastD_mem_cons ) (b.2.1,b.2.2.2) (by simp)
      have h6:=h3.2
      injection h6 with h6 _
      refine ⟨ih.2 ⟨h3.1,h4⟩,?_,?_,?_,?_⟩
      · rw [h6];rfl
      · rw [h6];rfl
      · have:b.1=(lst (brd l')).1:=by rw [h6];rfl
        rw [this];exact h5.1
      · have:b.2.2.1=(lst (brd l')).2:=by rw [h6];rfl
        rw [this];exact h5.2
def lk (L:List (Int × Int)) (t:Int):Option Int:=(L.find? fun p=>p.1 == t).map Prod.snd
theorem lk_mem {L:List (Int × Int)} {t r:Int} (h:lk L t=some r):(t,r)∈L:=by
 unfold lk at h
 rw [Option.map_eq_some_iff] at h
 obtain ⟨p,h1,h2⟩:=h
 have h3:=List.find?_some h1
 simp at h3
 have:=List.mem_of_find?_eq_some h1
 rw [←h3,←h2]
 exact this
theorem lk_of {L:List (Int × Int)} (h:L.Pairwise fun p q=>p.1<q.1∧p.2≤q.2) {p:Int × Int} (hp:p∈L):lk L p.1=some p.2:=by
 induction L with
 | nil=>simp at hp
 | cons q L ih=>
  rw [List.pairwise_cons] at h
  unfold lk
  rw [List.find?_cons]
  rcases List.mem_cons.1 hp with e | e
  · subst e;simp
  · have h1:=(h.1 p e).1
    have h2:(q.1 == p.1)=false:=by simp;omega
    rw [h2]
    exact ih h.2 e
def cmp (ps:List (Int × Int)) (g:Int→Option Int):List (Int × Int):=ps.filterMap fun p=>(g p.2).map fun r=>(p.1,r)
theorem cmp_snoc (ps:List (Int × Int)) (p:Int × Int) (g:Int→Option Int):cmp (ps++[p]) g=cmp ps g++(match g p.2 with | some r=>[(p.1,r)] | none=>[]):=by
 unfold cmp
 rw [List.filterMap_append]
 cases h:g p.2 <;> simp [h]
theorem cmp_mem {ps:List (Int × Int)} {g:Int→Option Int} {s r:Int} : (s,r)∈cmp ps g↔∃ q,(s,q)∈ps∧g q=some r:=by
 unfold cmp
 rw [List.mem_filterMap]
 constructor
 · rintro ⟨⟨a,b⟩,h1,h2⟩
   rw [Option.map_eq_some_iff] at h2
   obtain ⟨r',h3,h4⟩:=h2
   injection h4 with h4 h5
   subst h4
   subst h5
   exact ⟨b,h1,h3⟩
 · rintro ⟨q,h1,h2⟩
   exact ⟨(s,q),h1,by simp [h2]⟩
theorem cmp_cmp (ps:List (Int × Int)) (g h:Int→Option Int):cmp (cmp ps g) h=cmp ps fun t=>(g t).bind h:=by
 unfold cmp
 rw [List.filterMap_filterMap]
 congr 1
 funext p
 show ((g p.2).map fun r=>(p.1,r)).bind _=((g p.2).bind h).map _
 cases g p.2 with
 | none=>rfl
 | some r=>rfl
theorem cmp_congr {ps:List (Int × Int)} {g h:Int→Option Int} (e:∀ p∈ps,g p.2=h p.2):cmp ps g=cmp ps h:=by
 induction ps with
 | nil=>rfl
 | cons p ps ih=>
  unfold cmp at ih ⊢
  rw [List.filterMap_cons,List.filterMap_cons,e p (by simp),ih fun q hq=>e q (by simp [hq])]
theorem rise_eq:∀ {a b:List (Int × Int)},a.Pairwise (fun p q=>p.1<q.1∧p.2≤q.2)→b.Pairwise (fun p q=>p.1<q.1∧p.2≤q.2)→(∀ p,p∈a↔p∈b)→a=b
 | [],[],_,_,_=>rfl
 | [],q::b,_,_,h=>absurd ((h q).2 (by simp)) (by simp)
 | p::a,[],_,_,h=>absurd ((h p).1 (by simp)) (by simp)
 | p::a,q::b,ha,hb,h=>by
  rw [List.pairwise_cons] at ha hb
  have e:p=q:=by
   have h1:=(h p).1 (by simp)
   have h2:=(h q).2 (by simp)
   rcases List.mem_cons.1 h1 with e | e
   · exact e
   · rcases List.mem_cons.1 h2 with e' | e'
     · exact e'.symm
     · have:=(ha.1 q e').1;have:=(hb.1 p e).1;omega
  subst e
  rw [rise_eq ha.2 hb.2 fun x => ?_]
  have hx:=h x
  constructor
  · intro hm
    rcases List.mem_cons.1 (hx.1 (by simp [hm])) with e | e
    · subst e;have:=(ha.1 x hm).1;omega
    · exact e
  · intro hm
    rcases List.mem_cons.1 (hx.2 (by simp [hm])) with e | e
    · subst e;have:=(hb.1 x hm).1;omega
    · exact e
theorem Rs2.cmp {ps qs:List (Int × Int)} (h:Rs2 ps) (hq:Rs2 qs):Rs2 (cmp ps (lk ((0,0)::qs))):=by
 have mono:∀ t t' r r',t≤t'→lk ((0,0)::qs) t=some r→lk ((0,0)::qs) t'=some r'→r≤r':=fun t t' r r' ht h1 h2=>by
  by_cases e:t=t'
  · subst e;rw [h1] at h2;injection h2 with h2;omega
  · have m1:=lk_mem h1
    have m2:=lk_mem h2
    have hq':List.Pairwise _ _:=hq
    rcases List.mem_iff_getElem.1 m1 with ⟨i,hi,e1⟩
    rcases List.mem_iff_getElem.1 m2 with ⟨j,hj,e2⟩
    rcases Nat.lt_trichotomy i j with c | c | c
    · have:=List.pairwise_iff_getElem.1 hq' i j hi hj c
      rw [e1,e2] at this
      exact this.2
    · subst c;rw [e1] at e2;injection e2 with e2 _;omega
    · have:=List.pairwise_iff_getElem.1 hq' j i hj hi c
      rw [e1,e2] at this
      have:=this.1
      simp at this
      omega
 have e0:lk ((0,0)::qs) 0=some 0:=rfl
 have e:(0,0)::Go.Proofs.cmp ps (lk ((0,0)::qs))=Go.Proofs.cmp ((0,0)::ps) (lk ((0,0)::qs)):=rfl
 unfold Rs2
 rw [e]
 unfold Go.Proofs.cmp
 rw [List.pairwise_filterMap]
 refine List.Pairwise.imp ?_ h
 rintro ⟨a,b⟩ ⟨c,d⟩ ⟨h1,h2⟩ ⟨x1,x2⟩ hx ⟨y1,y2⟩ hy
 rw [Option.map_eq_some_iff] at hx hy
 obtain ⟨r,hr,er⟩:=hx
 obtain ⟨r',hr',er'⟩:=hy
 injection er with er1 er2
 injection er' with er1' er2'
 subst er1;subst er2;subst er1';subst er2'
 exact ⟨h1,mono _ _ _ _ h2 hr hr'⟩
theorem lk_cmp {ps:List (Int × Int)} (h:Rs2 ps) {g:Int→Option Int} (g0:g 0=some 0) (t:Int):lk ((0,0)::cmp ps g) t=(lk ((0,0)::ps) t).bind g:=by
 have e:(0,0)::cmp ps g=cmp ((0,0)::ps) g:=by unfold cmp;rw [List.filterMap_cons];simp [g0]
 rw [e]
 have:∀ L:List (Int × Int),L.Pairwise (fun p q=>p.1<q.1∧p.2≤q.2)→lk (cmp L g) t=(lk L t).bind g:=by
  intro L hL
  induction L with
  | nil=>rfl
  | cons p L ih=>
   rw [List.pairwise_cons] at hL
   by_cases ht:p.1=t
   · have h1:lk (p::L) t=some p.2:=by unfold lk;rw [List.find?_cons];simp [ht]
     rw [h1]
     show _=g p.2
     cases hg:g p.2 with
     | some r=>
      have:cmp (p::L) g=(p.1,r)::cmp L g:=by unfold cmp;rw [List.filterMap_cons];simp [hg]
      rw [this]
      unfold lk
      rw [List.find?_cons]
      simp [ht]
     | none=>
      have:cmp (p::L) g=cmp L g:=by unfold cmp;rw [List.filterMap_cons];simp [hg]
      rw [this]
      cases hx:lk (cmp L g) t with
      | none=>rfl
      | some r=>
       obtain ⟨q,hq,_⟩:=cmp_mem.1 (lk_mem hx)
       have:=(hL.1 _ hq).1
       simp at this
       omega
   · have h1:lk (p::L) t=lk L t:=by
      have h3:(p.1 == t)=false:=by simpa using ht
      unfold lk
      rw [List.find?_cons]
      simp only [h3]
     rw [h1,←ih hL.2]
     cases hg:g p.2 with
     | some r=>
      have:cmp (p::L) g=(p.1,r)::cmp L g:=by unfold cmp;rw [List.filterMap_cons];simp [hg]
      have h3:(p.1 == t)=false:=by simpa using ht
      rw [this]
      unfold lk
      rw [List.find?_cons]
      simp only [h3]
     | none=>
      have:cmp (p::L) g=cmp L g:=by unfold cmp;rw [List.filterMap_cons];simp [hg]
      rw [this]
 exact this _ h
theorem lst_cmp {ps:List (Int × Int)} {g:Int→Option Int} (g0:g 0=some 0) {q:Int} (hq:g (lst ps).2=some q):lst (cmp ps g)=((lst ps).1,q):=by
 rcases List.eq_nil_or_concat ps with e | ⟨ps',p,e⟩
 · subst e
   rw [lst_nil] at hq
   simp only [g0] at hq
   injection hq with hq
   subst hq
   rfl
 · rw [List.concat_eq_append] at e
   subst e
   rw [lst_snoc] at hq ⊢
   rw [cmp_snoc,hq]
   exact lst_snoc _ _
theorem met_lk (lb:List Bk) (t:Int):(met (srcs lb) t).map (rAt lb)=lk ((0,0)::brd lb) t:=by
 have key:∀ (L:List (Int × Int)),(List.findIdx? (fun x=>x == t) (L.map Prod.fst)).map (fun i=>(L.map Prod.snd).getD i 0)=lk L t:=by
  intro L
  induction L with
  | nil=>rfl
  | cons p L ih=>
   unfold lk
   rw [List.map_cons,List.map_cons,List.findIdx?_cons,List.find?_cons]
   by_cases h:p.1=t
   · simp [h]
   · have h2:(p.1 == t)=false:=by simpa using h
     rw [h2]
     simp only [Bool.false_eq_true,if_false,Option.map_map]
     unfold lk at ih
     rw [←ih]
     rfl
 have h1:srcs lb=((0,0)::brd lb).map Prod.fst:=by unfold srcs brd;simp
 have h2:ress lb=((0,0)::brd lb).map Prod.snd:=by unfold ress brd;simp
 rw [←key,←h1,←h2]
 rfl
theorem thr_eq (la lb:List Bk):∀ n,n≤la.length→thrN la lb n=mkF 0 0 (cmp ((brd la).take n) (lk ((0,0)::brd lb)))
 | 0,_=>by rw [List.take_zero];rfl
 | n+1,h=>by
  have ih:=thr_eq la lb n (by omega)
  have hb:n<(brd la).length:=by simp [brd];omega
  have hn:(brd la)[n]=(sAt la (n+1),rAt la (n+1)):=by rw [sAt_succ (by omega),rAt_succ (by omega)];simp [brd]
  rw [List.take_succ_eq_append_getElem hb,cmp_snoc,hn]
  have hm:=met_lk lb (rAt la (n+1))
  have hl:=at_lst (thrN la lb n)
  rw [ih,brd_mkF] at hl
  cases h1:met (srcs lb) (rAt la (n+1)) with
  | none=>
   rw [h1] at hm
   rw [thrN_none h1,←hm]
   simp only [Option.map_none,List.append_nil]
   exact ih
  | some k=>
   rw [h1] at hm
   rw [thrN_some h1,←hm]
   simp only [Option.map_some]
   rw [mkF_snoc,ih]
   congr 1
   unfold upB
   rw [hl.1,hl.2]
   rfl
theorem thr_all (la lb:List Bk):thrN la lb la.length=mkF 0 0 (cmp (brd la) (lk ((0,0)::brd lb))):=by
 rw [thr_eq la lb _ (Nat.le_refl _),List.take_of_length_le (by simp [brd])]
theorem thr_brd (la lb:List Bk):brd (thrN la lb la.length)=cmp (brd la) (lk ((0,0)::brd lb)):=by rw [thr_all,brd_mkF]
theorem Join.rs2 {l:List Bk} (h:Join l):Rs2 (brd l):=((join_iff _ l rfl).1 h).2
theorem Join.mk' {l:List Bk} (h:Join l):mkF 0 0 (brd l)=l:=((join_iff _ l rfl).1 h).1.symm
theorem join_mkF {ps:List (Int × Int)} (h:Rs2 ps):Join (mkF 0 0 ps):=(join_iff _ _ rfl).2 (by rw [brd_mkF];exact ⟨rfl,h⟩)
theorem lst_mem (ps:List (Int × Int)):lst ps∈(0,0)::ps:=by unfold lst;rw [List.getLastD_cons];exact List.getLastD_mem_cons
theorem thr_join {la lb:List Bk} (ha:Join la) (hb:Join lb):Join (thrN la lb la.length):=by rw [thr_all];exact join_mkF (ha.rs2.cmp hb.rs2)
theorem thr_ends {la lb:List Bk} (h:ThrOk la lb):sAt (thrN la lb la.length) (thrN la lb la.length).length=sAt la la.length∧rAt (thrN la lb la.length) (thrN la lb la.length).length=rAt lb lb.length:=by
 obtain ⟨ha,hb,he⟩:=h
 rw [(at_lst _).1,(at_lst _).2,(at_lst la).1,(at_lst lb).2,thr_brd]
 rw [(at_lst la).2,(at_lst lb).1] at he
 have:=lst_cmp (ps:=brd la) (g:=lk ((0,0)::brd lb)) rfl (q:=(lst (brd lb)).2) (by rw [he];exact lk_of hb.rs2 (lst_mem _))
 rw [this]
 exact ⟨rfl,rfl⟩
theorem thr_three {a b c:List Bk} (hb:Join b):thrN (thrN a b a.length) c (thrN a b a.length).length=thrN a (thrN b c b.length) a.length:=by
 rw [thr_all,thr_brd,thr_all a,thr_brd,cmp_cmp]
 congr 2
 funext t
 exact (lk_cmp hb.rs2 (g:=lk ((0,0)::brd c)) rfl t).symm
def byt (n:Nat):List Bk:=(List.range n).map fun (i:Nat)=>((i:Int),(i:Int)+1,(i:Int),(i:Int)+1)
theorem byt_snoc (n:Nat):byt (n+1)=byt n++[((n:Int),(n:Int)+1,(n:Int),(n:Int)+1)]:=by simp [byt,List.range_succ]
theorem byt_len (n:Nat):(byt n).length=n:=by simp [byt]
theorem byt_ends (n:Nat):sAt (byt n) n=(n:Int)∧rAt (byt n) n=(n:Int):=by
 cases n with
 | zero=>exact ⟨rfl,rfl⟩
 | succ n=>rw [sAt_succ (by rw [byt_len];omega),rAt_succ (by rw [byt_len];omega)];simp [byt]
theorem byt_join (n:Nat):Join (byt n):=by
 induction n with
 | zero=>intro j hj;simp [byt] at hj
 | succ n ih=>
  rw [byt_snoc,join_snoc]
  refine ⟨ih,?_⟩
  rw [byt_len,(byt_ends n).1,(byt_ends n).2]
  refine ⟨rfl,rfl,?_,?_⟩ <;> simp <;> omega
theorem byt_mem (n:Nat) (s r:Int):(s,r)∈brd (byt n)↔s=r∧1≤s∧s≤n:=by
 unfold brd byt
 simp only [List.map_map,List.mem_map,List.mem_range,Function.comp]
 constructor
 · rintro ⟨i,hi,e⟩
   injection e with e1 e2
   omega
 · rintro ⟨rfl,h1,h2⟩
   refine ⟨(s - 1).toNat,by omega,?_⟩
   have:((s - 1).toNat:Int)+1=s:=by omega
   rw [this]
theorem byt_lk (n:Nat) {t:Int} (h0:0≤t) (h1:t≤n):lk ((0,0)::brd (byt n)) t=some t:=by
 have hm:((t,t):Int × Int)∈(0,0)::brd (byt n):=by
  by_cases e:t=0
  · subst e;simp
  · rw [List.mem_cons,byt_mem];right;exact ⟨rfl,by omega,h1⟩
 exact lk_of (byt_join n).rs2 hm
theorem thr_byt {a:List Bk} {m:Nat} (ha:Join a) (hm:rAt a a.length=(m:Int)):thrN a (byt m) a.length=a:=by
 rw [(at_lst a).2] at hm
 have e:cmp (brd a) (lk ((0,0)::brd (byt m)))=brd a:=by
  rw [cmp_congr (h:=some)]
  · unfold cmp;simp
  · intro p hp
    have h1:=ha.rs2.ends p (by simp [hp])
    have h2:=((List.pairwise_cons.1 (show List.Pairwise _ _ from ha.rs2)).1 p hp).2
    exact byt_lk m h2 (by omega)
 rw [thr_all,e,ha.mk']
theorem byt_thr {a:List Bk} {n:Nat} (ha:Join a) (hn:sAt a a.length=(n:Int)):thrN (byt n) a (byt n).length=a:=by
 rw [(at_lst a).1] at hn
 have e:cmp (brd (byt n)) (lk ((0,0)::brd a))=brd a:=by
  have hp:=(byt_join n).rs2.cmp ha.rs2
  refine rise_eq (List.pairwise_cons.1 (show List.Pairwise _ _ from hp)).2 (List.pairwise_cons.1 (show List.Pairwise _ _ from ha.rs2)).2 ?_
  rintro ⟨s,r⟩
  rw [cmp_mem]
  constructor
  · rintro ⟨q,h1,h2⟩
    rw [byt_mem] at h1
    obtain ⟨rfl,h3,h4⟩:=h1
    rcases List.mem_cons.1 (lk_mem h2) with e | e
    · injection e with e _;omega
    · exact e
  · intro hm
    have h1:=ha.rs2.ends (s,r) (by simp [hm])
    have h2:=((List.pairwise_cons.1 (show List.Pairwise _ _ from ha.rs2)).1 _ hm).1
    simp at h2
    refine ⟨s,(byt_mem n s s).2 ⟨rfl,by omega,by simp at h1;omega⟩,lk_of ha.rs2 (p:=(s,r)) (by simp [hm])⟩
 rw [thr_all,e,ha.mk']
theorem ends_v (v:Value) (l:List Bk) (w:World) (h:KR w v l) (hb:l.length≤1000000):Calls Tryd.prog 11 #[v] w fun e w'=>e = .returned (.int .i64 (rAt l l.length))∧w'=w:=by
 have h':=h
 obtain ⟨a,c,rfl,_⟩:=h'
 exact ends_any a _ c l w h rfl hb
theorem same_v (u v:Value) (la lb:List Bk) (w:World) (ha:KR w u la) (hb:KR w v lb) (e:la=lb) (hn:la.length≤1000000):Calls Tryd.prog 15 #[u,v] w fun e w'=>e = .returned (.bool true)∧Below w.heap.size w w':=by
 have ha':=ha
 have hb':=hb
 obtain ⟨a,c,rfl,_⟩:=ha'
 obtain ⟨b,d,rfl,_⟩:=hb'
 refine (same_walk a _ c b _ d la lb w ha hb rfl rfl hn).mono ?_
 rintro e w' ⟨rfl,hg⟩
 exact ⟨by simp [*],hg.below⟩
theorem thr_v (u v:Value) (la lb:List Bk) (w:World) (ha:KR w u la) (hb:KR w v lb) (hn:la.length≤1000000) (hm:lb.length≤1000000) (ok:ThrOk la lb):Calls Tryd.prog 14 #[u,v] w fun e w'=>∃ lv,e = .returned (.tuple #[lv,.int .i64 0])∧KR w' lv (thrN la lb la.length)∧Below w.heap.size w w':=by
 refine (through_any u v la lb w ha hb hn hm).mono ?_
 rintro e w' ⟨lv,ev,rfl,⟨_,rfl,h⟩ | ⟨h,_⟩,hb⟩
 · exact ⟨lv,rfl,h.kr,hb⟩
 · exact absurd ok h
def KRs (w:World) (L:List (Value × List Bk)):Prop:=∀ p∈L,KR w p.1 p.2
theorem KRs.below {w w':World} {L:List (Value × List Bk)} (h:KRs w L) (hb:Below w.heap.size w w'):KRs w' L:=fun p hp=>(h p hp).below hb (Nat.le_refl _)
theorem KRs.cons {w:World} {L:List (Value × List Bk)} (h:KRs w L) {v:Value} {l:List Bk} (hk:KR w v l):KRs w ((v,l)::L):=fun p hp=>by
 rcases List.mem_cons.1 hp with e | e
 · subst e;exact hk
 · exact h p e
theorem KRs.at0 {w:World} {L:List (Value × List Bk)} {v0:Value} {l0:List Bk} (h:KRs w ((v0,l0)::L)):KR w v0 l0:=h _ (List.mem_cons_self ..)
theorem KRs.tl {w:World} {L:List (Value × List Bk)} {p:Value × List Bk} (h:KRs w (p::L)):KRs w L:=fun q hq=>h q (List.mem_cons_of_mem _ hq)
structure T3 (a b c:List Bk) (N M:Nat):Prop where
 ok1:ThrOk a b
 ok2:ThrOk b c
 la:a.length≤301
 lb:b.length≤301
 lc:c.length≤301
 sN:sAt a a.length=(N:Int)
 rM:rAt a a.length=(M:Int)
 n1:N≤1200
 m1:M≤1000
theorem T3.okA {a b c:List Bk} {N M:Nat} (h:T3 a b c N M):ThrOk (thrN a b a.length) c:=⟨thr_join h.ok1.1 h.ok1.2.1,h.ok2.2.1,(thr_ends h.ok1).2.trans h.ok2.2.2⟩
theorem T3.okB {a b c:List Bk} {N M:Nat} (h:T3 a b c N M):ThrOk a (thrN b c b.length):=⟨h.ok1.1,thr_join h.ok2.1 h.ok2.2.1,h.ok1.2.2.trans (thr_ends h.ok2).1.symm⟩
theorem T3.okC {a b c:List Bk} {N M:Nat} (h:T3 a b c N M):ThrOk a (byt M):=⟨h.ok1.1,byt_join M,by rw [byt_len,(byt_ends M).1];exact h.rM⟩
theorem T3.okD {a b c:List Bk} {N M:Nat} (h:T3 a b c N M):ThrOk (byt N) a:=⟨byt_join N,h.ok1.1,by rw [byt_len,(byt_ends N).2];exact h.sN.symm⟩
theorem jd_nat {most:Int} {l:List Bk} (h:Jd most l):∃ M:Nat,rAt l l.length=(M:Int)∧M≤1000:=⟨(rAt l l.length).toNat,by have:=h.2.2.1;omega,by have:=h.2.2.1;omega⟩
set_option maxHeartbeats 16000000 in
theorem three_walk (a0:Option Addr) (n0 c0:Nat) (z0:List (Int × Int)) (a1:Option Addr) (n1 c1:Nat) (z1:List (Int × Int)) (a2:Option Addr) (n2 c2:Nat) (z2:List (Int × Int)) (w:World) (h0:Rs w (.slice a0 n0 c0) z0) (hn0:z0.length=n0) (h1:Rs w (.slice a1 n1 c1) z1) (hn1:z1.length=n1) (h2:Rs w (.slice a2 n2 c2) z2) (hn2:z2.length=n2) (hT:Tab w) (hz:0<w.heap.size):Calls Tryd.prog 5 #[.slice a0 n0 c0,.slice a1 n1 c1,.slice a2 n2 c2] w fun e w'=>e = .returned (.bool true)∧Below w.heap.size w w':=by
 have H9:=Hid.mk' (shown9 w hT hz)
 have HA:Hid (∀ W,Below w.heap.size w W→Calls Tryd.prog 10 #[.slice a0 n0 c0,.int .i64 (-1)] W (JdQ W (-1))):=fun W hb=>joined_walk a0 n0 c0 z0 (-1) W (h0.below hb (Nat.le_refl _)) hn0 (by decide) (by decide)
 have HB:Hid (∀ W (m:Nat),Below w.heap.size w W→m≤1000→Calls Tryd.prog 10 #[.slice a1 n1 c1,.int .i64 (m:Int)] W (JdQ W (m:Int))):=fun W m hb hm=>joined_walk a1 n1 c1 z1 m W (h1.below hb (Nat.le_refl _)) hn1 (by omega) (by omega)
 have HC:Hid (∀ W (m:Nat),Below w.heap.size w W→m≤1000→Calls Tryd.prog 10 #[.slice a2 n2 c2,.int .i64 (m:Int)] W (JdQ W (m:Int))):=fun W m hb hm=>joined_walk a2 n2 c2 z2 m W (h2.below hb (Nat.le_refl _)) hn2 (by omega) (by omega)
 clear h0 hn0 h1 hn1 h2 hn2 hT hz
 go_enter Tryd.func5,Tryd.ntmps5
 go_wp2_with fail
 refine H9.out.mono ?_
 rintro e w1 ⟨rfl,hb1⟩
 have HW1:=Hid.mk' hb1
 clear hb1 H9
 -- a
 go_wp2_with fail
 refine (HA.out w1 HW1.out).mono ?_
 rintro e w2 ⟨ov,a,rfl,ho,hj,hb2⟩
 obtain ⟨aa,ac,hov⟩:=ho.form
 obtain ⟨an,han⟩:∃ n,a.length=n:=⟨_,rfl⟩
 rw [han] at hov
 subst hov
 obtain ⟨M,hM,hM1⟩:=jd_nat hj
 have HJA:=Hid.mk' (And.intro hj (And.intro hM (And.intro hM1 han)))
 have HW2:Hid (Below w.heap.size w w2):=HW1.out.trans (hb2.mono HW1.out.size)
 have HKA:Hid (KR w2 (.slice aa an ac) a):=ho.kr
 have HEa:=Hid.mk' (ends_v (.slice aa an ac) a w2 HKA.out (by have:=hj.2.1;omega))
 rw [hM] at HEa
 clear ho hj hb2 hM han HA
 -- b
 go_wp2_with fail
 refine HEa.out.mono ?_
 rintro e w' ⟨rfl,hx⟩
 have hx:=hx.symm
 subst hx
 go_wp2_with fail
 refine (HB.out w2 M HW2.out hM1).mono ?_
 rintro e w3 ⟨bv,b,rfl,ho,hj,hb2⟩
 obtain ⟨R,hR,hR1⟩:=jd_nat hj
 have HJB:=Hid.mk' (And.intro hj (And.intro hR hR1))
 have HW3:Hid (Below w.heap.size w w3):=HW2.out.trans (hb2.mono HW2.out.size)
 have HK3:Hid (KR w3 bv b∧KR w3 (.slice aa an ac) a):=⟨ho.kr,HKA.out.below hb2 (Nat.le_refl _)⟩
 have HEb:=Hid.mk' (ends_v bv b w3 HK3.out.1 (by have:=hj.2.1;omega))
 rw [hR] at HEb
 clear ho hj hb2 hR HB HEa
 -- c
 go_wp2_with fail
 refine HEb.out.mono ?_
 rintro e w' ⟨rfl,hx⟩
 have hx:=hx.symm
 subst hx
 go_wp2_with fail
 refine (HC.out w3 R HW3.out hR1).mono ?_
 rintro e w4 ⟨cv,c,rfl,ho,hj,hb2⟩
 obtain ⟨E,hE,_⟩:=jd_nat hj
 have HW4:Hid (Below w.heap.size w w4):=HW3.out.trans (hb2.mono HW3.out.size)
 have HK4:Hid (KRs w4 [(.slice aa an ac,a),(bv,b),(cv,c)]):=by
  refine KRs.cons (KRs.cons (KRs.cons (fun _ h=>(by cases h)) ho.kr) (HK3.out.1.below hb2 (Nat.le_refl _))) (HK3.out.2.below hb2 (Nat.le_refl _))
 obtain ⟨N,hN,hN1⟩:∃ N:Nat,sAt a a.length=(N:Int)∧N≤1200:=⟨(sAt a a.length).toNat,by have:=HJA.out.1.2.2.2.1;omega,by have:=HJA.out.1.2.2.2.1;omega⟩
 have HT3:Hid (T3 a b c N M):=⟨⟨HJA.out.1.1,HJB.out.1.1,by rw [HJA.out.2.1];exact (HJB.out.1.2.2.2.2 (by omega)).symm⟩,⟨HJB.out.1.1,hj.1,by rw [HJB.out.2.1];exact (hj.2.2.2.2 (by omega)).symm⟩,HJA.out.1.2.1,HJB.out.1.2.1,hj.2.1,hN,HJA.out.2.1,hN1,hM1⟩
 have HE:Hid (rAt c c.length=(E:Int)):=hE
 have HAN:Hid (a.length=an):=HJA.out.2.2.2
 clear ho hj hb2 hE HC HEb HK3 HKA HJA HJB HW1 HW2 HW3 hN
 have h3:=HT3.out
 -- ab
 go_wp2_with fail
 refine (thr_v (.slice aa an ac) bv a b w4 (HK4.out.at0) (HK4.out.tl.at0) (by have:=HT3.out.la;omega) (by have:=HT3.out.lb;omega) HT3.out.ok1).mono ?_
 rintro e w5 ⟨abv,rfl,hk,hb⟩
 have HW5:Hid (Below w.heap.size w w5):=HW4.out.trans (hb.mono HW4.out.size)
 have HK5:Hid (KRs w5 [(abv,thrN a b a.length),(.slice aa an ac,a),(bv,b),(cv,c)]):=(HK4.out.below hb).cons hk
 clear hk hb HK4 HW4 h3
 -- bc
 go_wp2_with fail
 refine (thr_v bv cv b c w5 (HK5.out.tl.tl.at0) (HK5.out.tl.tl.tl.at0) (by have:=HT3.out.lb;omega) (by have:=HT3.out.lc;omega) HT3.out.ok2).mono ?_
 rintro e w6 ⟨bcv,rfl,hk,hb⟩
 have HW6:Hid (Below w.heap.size w w6):=HW5.out.trans (hb.mono HW5.out.size)
 have HK6:Hid (KRs w6 [(bcv,thrN b c b.length),(abv,thrN a b a.length),(.slice aa an ac,a),(bv,b),(cv,c)]):=(HK5.out.below hb).cons hk
 clear hk hb HK5 HW5
 -- one
 go_wp2_with fail
 refine (thr_v abv cv (thrN a b a.length) c w6 (HK6.out.tl.at0) (HK6.out.tl.tl.tl.tl.at0) (by have:=HT3.out.la;have:=thrN_len a b a.length;omega) (by have:=HT3.out.lc;omega) HT3.out.okA).mono ?_
 rintro e w7 ⟨ov,rfl,hk,hb⟩
 have HW7:Hid (Below w.heap.size w w7):=HW6.out.trans (hb.mono HW6.out.size)
 obtain ⟨one,h1e⟩:∃ x,thrN (thrN a b a.length) c (thrN a b a.length).length=x:=⟨_,rfl⟩
 rw [h1e] at hk
 have h1l:Hid (one.length≤301):=by
  have e1:=thrN_len (thrN a b a.length) c (thrN a b a.length).length
  have e2:=thrN_len a b a.length
  have e3:=HT3.out.la
  rw [h1e] at e1
  show _≤_
  omega
 have h1r:Hid (rAt one one.length=(E:Int)):=by
  have:=(thr_ends HT3.out.okA).2
  rw [h1e,HE.out] at this
  exact this
 have h12:Hid (thrN a (thrN b c b.length) a.length=one):=(thr_three HT3.out.ok1.2.1).symm.trans h1e
 have HK7:Hid (KRs w7 [(ov,one),(bcv,thrN b c b.length),(.slice aa an ac,a),(cv,c)]):=by
  have h6:=HK6.out.below hb
  exact KRs.cons (KRs.cons (KRs.cons (KRs.cons (fun _ h=>(by cases h)) h6.tl.tl.tl.tl.at0) h6.tl.tl.at0) h6.at0) hk
 clear hk hb HK6 HW6 h1e
 -- two
 go_wp2_with fail
 refine (thr_v (.slice aa an ac) bcv a (thrN b c b.length) w7 (HK7.out.tl.tl.at0) (HK7.out.tl.at0) (by have:=HT3.out.la;omega) (by have:=HT3.out.lb;have:=thrN_len b c b.length;omega) HT3.out.okB).mono ?_
 rintro e w8 ⟨tv,rfl,hk,hb⟩
 rw [h12.out] at hk
 have HW8:Hid (Below w.heap.size w w8):=HW7.out.trans (hb.mono HW7.out.size)
 have HK8:Hid (KRs w8 [(tv,one),(ov,one),(.slice aa an ac,a),(cv,c)]):=by
  have h7:=HK7.out.below hb
  exact KRs.cons (KRs.cons (KRs.cons (KRs.cons (fun _ h=>(by cases h)) h7.tl.tl.tl.at0) h7.tl.tl.at0) h7.at0) hk
 clear hk hb HK7 HW7 h12
 -- the same
 go_wp2_with fail
 refine (same_v ov tv one one w8 HK8.out.tl.at0 HK8.out.at0 rfl (by have:=h1l.out;omega)).mono ?_
 rintro e w9 ⟨rfl,hb⟩
 have HW9:Hid (Below w.heap.size w w9):=HW8.out.trans (hb.mono HW8.out.size)
 have HK9:Hid (KRs w9 [(ov,one),(.slice aa an ac,a),(cv,c)]):=(HK8.out.below hb).tl
 clear hb HK8 HW8
 have HEo:=Hid.mk' (ends_v ov one w9 HK9.out.at0 (by have:=h1l.out;omega))
 have HEc:=Hid.mk' (ends_v cv c w9 HK9.out.tl.tl.at0 (by have:=HT3.out.lc;omega))
 have HEa:=Hid.mk' (ends_v (.slice aa an ac) a w9 HK9.out.tl.at0 (by have:=HT3.out.la;omega))
 rw [h1r.out] at HEo
 rw [HE.out] at HEc
 rw [HT3.out.rM] at HEa
 go_wp2_with fail
 refine HEo.out.mono ?_
 rintro e w' ⟨rfl,hx⟩
 have hx:=hx.symm
 subst hx
 go_wp2_with fail
 refine HEc.out.mono ?_
 rintro e w' ⟨rfl,hx⟩
 have hx:=hx.symm
 subst hx
 have HKa:Hid (KR w9 (.slice aa an ac) a):=HK9.out.tl.at0
 clear HEo HEc HK9 h1r h1l HE
 go_wp2_with fail
 refine HEa.out.mono ?_
 rintro e w' ⟨rfl,hx⟩
 have hx:=hx.symm
 subst hx
 clear HEa
 have hMI:(M:Int)≤1000:=by omega
 have hNI:(N:Int)≤1200:=by omega
 go_wp2_with fail
 go_loopg [16,90] M (fun q s16 s90 wr=>∃ (i:Nat) (ba:Option Addr) (bc:Nat),s16 = .slice ba i bc∧s90 = .int .i64 (i:Int)∧i≤M∧M - i≤q∧Hid (OwnK wr w9.heap.size (.slice ba i bc) (byt i)∧Below w9.heap.size w9 wr))
 case atStart=>exact ⟨0,none,0,rfl,rfl,Nat.zero_le _,by omega,OwnK.nil _ _,Below.refl _ _⟩
 case round=>
  obtain ⟨i,ba,bc,rfl,rfl,hi1,hi2,HR⟩:=hrel
  have hiI:(i:Int)≤100000:=by omega
  by_cases hiM:i<M
  · have hiMI:(i:Int)<(M:Int):=by omega
    go_wp2_with (at_builtin;go_must (refine push_K rfl _ _ rfl w9.heap.size (.slice ba i bc) (byt i) rfl (World.ownsRow.alloc HR.out.1 _) _ _ ((i:Int),(i:Int)+1,(i:Int),(i:Int)+1) rfl (heap_alloc_new _ _) (by rw [byt_len];omega) (by have:=HR.out.2.size;simp;omega) ?_;intro gg cap w' q1 q2 q3;rw [byt_len] at q1;have HQ:=Hid.mk' (And.intro q1 q2);rw [byt_len];clear q1 q2 q3))
    go_roundg (M - (i+1))
    case measure=>omega
    case rel=>
     have fq:Fr wr w' (fun k=>(Value.slice ba i bc).ownBlock=some k):=(fr_grown ((Grown.refl wr).alloc _) _).trans (fr_by HQ.out.2) fun _ _ e=>e
     exact ⟨i+1,some ⟨gg,0,none⟩,cap,rfl,rfl,by omega,Nat.le_refl _,by rw [byt_snoc];exact HQ.out.1,HR.out.2.trans (fq.below (fun k hk=>(World.ownsRow.lt HR.out.1 k hk).1) HR.out.2.size)⟩
  · have hiMI:¬ (i:Int)<(M:Int):=by omega
    obtain rfl:i=M:=by omega
    obtain ⟨wb,hwb⟩:∃ x,x=wr:=⟨_,rfl⟩
    subst hwb
    have HRB:=HR
    clear HR
    go_wp2_with fail
    go_loopg [17,19] N (fun q s17 s19 wr=>∃ (j:Nat) (ca:Option Addr) (cc:Nat),s17 = .slice ca j cc∧s19 = .int .i64 (j:Int)∧j≤N∧N - j≤q∧Hid (OwnK wr wb.heap.size (.slice ca j cc) (byt j)∧Below wb.heap.size wb wr))
    case atStart=>exact ⟨0,none,0,rfl,rfl,Nat.zero_le _,by omega,OwnK.nil _ _,Below.refl _ _⟩
    case round=>
     obtain ⟨j,ca,cc,rfl,rfl,hj1,hj2,HR⟩:=hrel
     have hjI:(j:Int)≤100000:=by omega
     have hbw:Below w9.heap.size w9 wr:=HRB.out.2.trans (HR.out.2.mono HRB.out.2.size)
     have HKw:Hid (KR wr (.slice aa an ac) a∧KR wr (.slice ba i bc) (byt i)∧KR wr (.slice ca j cc) (byt j)∧Below w.heap.size w wr):=⟨HKa.out.below hbw (Nat.le_refl _),HRB.out.1.kr.below HR.out.2 (Nat.le_refl _),HR.out.1.kr,HW9.out.trans (hbw.mono HW9.out.size)⟩
     clear hbw
     by_cases hjN:j<N
     · have hjNI:(j:Int)<(N:Int):=by omega
       have han:an≠0:=fun e=>by
        have h1:=HT3.out.sN
        have h2:a=[]:=List.eq_nil_of_length_eq_zero (HAN.out.trans e)
        rw [h2] at h1
        have h1:(0:Int)=(N:Int):=h1
        omega
       obtain ⟨m,hm⟩:∃ m,an=m+1:=⟨an - 1,by omega⟩
       obtain ⟨g,o,hae,k0,k1,k2,k3⟩:=kr_cell HKw.out.1 (j:=m) (by have:=HAN.out;omega)
       subst hae
       have hx1:=(rAt_last (HAN.out.trans hm)).2
       rw [HT3.out.sN] at hx1
       rw [←hx1] at k1
       have hzI:(0:Int)<(an:Int):=by omega
       have hzN:0<an:=by omega
       have hmI:(an:Int) - 1=(m:Int):=by omega
       have hmn:(m:Int)<(an:Int):=by omega
       have hm0:(m:Int)≤1000000:=by have:=HT3.out.la;have:=HAN.out;omega
       clear hx1 hm k0 k2 k3 han
       go_wp2_with (at_builtin;go_must (refine push_K rfl _ _ rfl wb.heap.size (.slice ca j cc) (byt j) rfl (World.ownsRow.alloc HR.out.1 _) _ _ ((j:Int),(j:Int)+1,(j:Int),(j:Int)+1) rfl (heap_alloc_new _ _) (by rw [byt_len];omega) (by have:=HR.out.2.size;simp;omega) ?_;intro gg cap w' q1 q2 q3;rw [byt_len] at q1;have HQ:=Hid.mk' (And.intro q1 q2);rw [byt_len];clear q1 q2 q3))
       go_roundg (N - (j+1))
       case measure=>omega
       case rel=>
        have fq:Fr wr w' (fun k=>(Value.slice ca j cc).ownBlock=some k):=(fr_grown ((Grown.refl wr).alloc _) _).trans (fr_by HQ.out.2) fun _ _ e=>e
        exact ⟨j+1,some ⟨gg,0,none⟩,cap,rfl,rfl,by omega,Nat.le_refl _,by rw [byt_snoc];exact HQ.out.1,HR.out.2.trans (fq.below (fun k hk=>(World.ownsRow.lt HR.out.1 k hk).1) HR.out.2.size)⟩
     · obtain rfl:j=N:=by omega
       by_cases han:an=0
       · subst han
         go_wp2_with fail
         refine (thr_v _ _ a (byt i) wr HKw.out.1 HKw.out.2.1 (by have:=HT3.out.la;omega) (by rw [byt_len];omega) HT3.out.okC).mono ?_
         rintro e v1 ⟨rv,rfl,hk,hb⟩
         rw [thr_byt HT3.out.ok1.1 HT3.out.rM] at hk
         have HV1:=Hid.mk' (And.intro hk hb)
         clear hk hb
         go_wp2_with fail
         refine (thr_v _ _ (byt j) a v1 (HKw.out.2.2.1.below HV1.out.2 (Nat.le_refl _)) (HKw.out.1.below HV1.out.2 (Nat.le_refl _)) (by rw [byt_len];omega) (by have:=HT3.out.la;omega) HT3.out.okD).mono ?_
         rintro e v2 ⟨qv,rfl,hk,hb⟩
         rw [byt_thr HT3.out.ok1.1 HT3.out.sN] at hk
         have HV2:Hid (KR v2 qv a∧KR v2 rv a∧KR v2 (.slice aa 0 ac) a∧Below w.heap.size w v2):=⟨hk,HV1.out.1.below hb (Nat.le_refl _),(HKw.out.1.below HV1.out.2 (Nat.le_refl _)).below hb (Nat.le_refl _),(HKw.out.2.2.2.trans (HV1.out.2.mono HKw.out.2.2.2.size)).trans (hb.mono (Nat.le_trans HKw.out.2.2.2.size HV1.out.2.size))⟩
         clear hk hb
         go_wp2_with fail
         refine (same_v rv _ a a v2 HV2.out.2.1 HV2.out.2.2.1 rfl (by have:=HT3.out.la;omega)).mono ?_
         rintro e v3 ⟨rfl,hb⟩
         have HV3:Hid (KR v3 qv a∧KR v3 (.slice aa 0 ac) a∧Below w.heap.size w v3):=⟨HV2.out.1.below hb (Nat.le_refl _),HV2.out.2.2.1.below hb (Nat.le_refl _),HV2.out.2.2.2.trans (hb.mono HV2.out.2.2.2.size)⟩
         clear hb
         go_wp2_with fail
         refine (same_v qv _ a a v3 HV3.out.1 HV3.out.2.1 rfl (by have:=HT3.out.la;omega)).mono ?_
         rintro e v4 ⟨rfl,hb⟩
         have HV4:Hid (Below w.heap.size w v4):=HV3.out.2.2.trans (hb.mono HV3.out.2.2.size)
         clear hb
         go_wp2
         go_ret
         exact ⟨rfl,HV4.out⟩
       · obtain ⟨m,hm⟩:∃ m,an=m+1:=⟨an - 1,by omega⟩
         obtain ⟨g,o,hae,k0,k1,k2,k3⟩:=kr_cell HKw.out.1 (j:=m) (by have:=HAN.out;omega)
         subst hae
         have hx1:=(rAt_last (HAN.out.trans hm)).2
         rw [HT3.out.sN] at hx1
         rw [←hx1] at k1
         have hzI:(0:Int)<(an:Int):=by omega
         have hzN:0<an:=by omega
         have hmI:(an:Int) - 1=(m:Int):=by omega
         have hmn:(m:Int)<(an:Int):=by omega
         have hm0:(m:Int)≤1000000:=by have:=HT3.out.la;have:=HAN.out;omega
         clear hx1 hm k0 k2 k3
         go_wp2_with fail
         refine (thr_v _ _ a (byt i) wr HKw.out.1 HKw.out.2.1 (by have:=HT3.out.la;omega) (by rw [byt_len];omega) HT3.out.okC).mono ?_
         rintro e v1 ⟨rv,rfl,hk,hb⟩
         rw [thr_byt HT3.out.ok1.1 HT3.out.rM] at hk
         have HV1:=Hid.mk' (And.intro hk hb)
         clear hk hb
         go_wp2_with fail
         refine (thr_v _ _ (byt j) a v1 (HKw.out.2.2.1.below HV1.out.2 (Nat.le_refl _)) (HKw.out.1.below HV1.out.2 (Nat.le_refl _)) (by rw [byt_len];omega) (by have:=HT3.out.la;omega) HT3.out.okD).mono ?_
         rintro e v2 ⟨qv,rfl,hk,hb⟩
         rw [byt_thr HT3.out.ok1.1 HT3.out.sN] at hk
         have HV2:Hid (KR v2 qv a∧KR v2 rv a∧KR v2 (.slice (some ⟨g,o,none⟩) an ac) a∧Below w.heap.size w v2):=⟨hk,HV1.out.1.below hb (Nat.le_refl _),(HKw.out.1.below HV1.out.2 (Nat.le_refl _)).below hb (Nat.le_refl _),(HKw.out.2.2.2.trans (HV1.out.2.mono HKw.out.2.2.2.size)).trans (hb.mono (Nat.le_trans HKw.out.2.2.2.size HV1.out.2.size))⟩
         clear hk hb
         go_wp2_with fail
         refine (same_v rv _ a a v2 HV2.out.2.1 HV2.out.2.2.1 rfl (by have:=HT3.out.la;omega)).mono ?_
         rintro e v3 ⟨rfl,hb⟩
         have HV3:Hid (KR v3 qv a∧KR v3 (.slice (some ⟨g,o,none⟩) an ac) a∧Below w.heap.size w v3):=⟨HV2.out.1.below hb (Nat.le_refl _),HV2.out.2.2.1.below hb (Nat.le_refl _),HV2.out.2.2.2.trans (hb.mono HV2.out.2.2.2.size)⟩
         clear hb
         go_wp2_with fail
         refine (same_v qv _ a a v3 HV3.out.1 HV3.out.2.1 rfl (by have:=HT3.out.la;omega)).mono ?_
         rintro e v4 ⟨rfl,hb⟩
         have HV4:Hid (Below w.heap.size w v4):=HV3.out.2.2.trans (hb.mono HV3.out.2.2.size)
         clear hb
         go_wp2
         go_ret
         exact ⟨rfl,HV4.out⟩
end Go.Proofs
