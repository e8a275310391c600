/-
  Several texts in one (Ic Id Ia Ib Ie Pg Tk Tl Oa9).
-/
import Derived.Test.YtaemgkemlifadaaGreatDoorRcs
import Derived.Test.YtaemgkemlifadaaGreatDoorMgjs
import Derived.Test.YtaemgkemlifadaaGreatDoorMgcs
import Derived.Test.YtaemgkemlifadaaGreatDoorMgds
import Derived.Test.YtaemgkemlifadaaGreatDoorMgbs
import Derived.Test.YtaemgkemlifadaaGreatDoorMgks
import Derived.Test.YtaemgkemlifadaaGreatDoorMgas
import Derived.Test.YtaemgkemlifadaaGreatDoorMgms
import Derived.Test.YtaemgkemlifadaaGreatDoorMgls
namespace Go.Proofs
open Go.RowKit Go.Shelf
set_option maxRecDepth 100000
attribute [local go_sem] Oper.semAt_some
attribute [local go_sem ↓] Go.wp_at_zero Go.wp_at_succ
theorem nth_lt:∀ (l:List (Int × Int)) (n:Int),(∀ x∈l,Whole x)→0≤n→n<tot l→∃ v,nthL l n=some v∧hasU l v
 | [],n,_,h0,h1=>by simp [tot] at h1;omega
 | x::r,n,hw,h0,h1=>by
  rw [tot_cons] at h1
  unfold nthL
  by_cases h:n<x.2 - x.1+1
  · rw [if_pos h]
    exact ⟨_,rfl,(hasU_cons _ _ _).2 (.inl ⟨by omega,by omega⟩)⟩
  · rw [if_neg h]
    obtain ⟨v,h2,h3⟩:=nth_lt r (n - (x.2 - x.1+1)) (fun y hy=>hw y (List.mem_cons_of_mem _ hy)) (by omega) (by omega)
    exact ⟨v,h2,(hasU_cons _ _ _).2 (.inr h3)⟩
theorem place_lt {l:List (Int × Int)} (h:Good l) {u:Int} (hu:hasU l u):placeU l u<tot l:=by
 have h1:=(nth_place h hu).1
 by_cases e:tot l≤placeU l u
 · rw [nth_over l _ h.1 e] at h1
   cases h1
 · omega
structure Paired (f t:List (Int × Int)):Prop where
 vf:validB f=true
 vt:validB t=true
 p:0<lenU f
 e:lenU f=lenU t
theorem part_some {f t:List (Int × Int)} (h:Paired f t) {u:Int} (hu:hasU f u):nthL t (placeU f u)=some (partU f t u)∧hasU t (partU f t u):=by
 have hf:=(validB_iff f).1 h.vf
 have ht:=(validB_iff t).1 h.vt
 have hp:=(nth_place hf.2 hu).2
 have h1:=place_lt hf.2 hu
 have e:=h.e
 unfold lenU at e
 rw [if_pos h.vf,if_pos h.vt] at e
 obtain ⟨v,h2,h3⟩:=nth_lt t (placeU f u) ht.2.1 hp (by omega)
 have hh:hasB f u=true:=by simp [hasB,h.vf,hu]
 have:partU f t u=v:=by
  unfold partU
  rw [if_pos hh]
  unfold nthU
  rw [if_neg (by simp [h.vt];omega),h2]
  rfl
 rw [this]
 exact ⟨h2,h3⟩
theorem wd_unit {u:Int} (h:isU u):wd u≠0:=by
 unfold isU at h
 by_cases h1:(0≤u∧u≤127)∨(1114240≤u∧u≤1114367)
 · rw [wd_1 h1];decide
 · by_cases h2:128≤u∧u≤2047
   · rw [wd_2 h2];decide
   · by_cases h3:2048≤u∧u≤65535
     · rw [wd_3 (by omega)];decide
     · rw [wd_4 (by omega)];decide
theorem hasB_unit {l:List (Int × Int)} {u:Int} (h:hasB l u=true):wd u≠0:=by
 simp only [hasB,Bool.and_eq_true,decide_eq_true_eq] at h
 exact wd_unit (good_units ((validB_iff l).1 h.1).2 h.2)
theorem st_at {ls:List (List (Int × Int))} {us:List Int} (h:stB ls us=true) {j:Nat} (h1:j<ls.length) (h2:j<us.length):hasB ls[j] us[j]=true:=by
 simp only [stB,Bool.and_eq_true,decide_eq_true_eq] at h
 have:=List.all_eq_true.1 h.2 (ls[j],us[j]) (by
  rw [List.mem_iff_getElem]
  exact ⟨j,by rw [List.length_zip];omega,List.getElem_zip⟩)
 exact this
structure Wr (key:List (List (Int × Int))) (us:List Int) (p:Pc) (u:Int):Prop where
 w:wd u≠0
 k:p.k=1∨p.k=2∨p.k=3
 k1:p.k=1→u=p.u
 k2:p.k=2→∃ (j:Nat) (hj:j<us.length),p.y=j∧us[j]=u
 k3:p.k=3→hasB p.tl u=true
theorem wr_any {r:Rl} {us:List Int} (h:layB r us=true) {p:Pc} (hp:p∈r.res):Wr r.key us p (wrt r.key us p):=by
 simp only [layB,Bool.and_eq_true,decide_eq_true_eq] at h
 have hok:=chk_ok h.1
 have hl:=st_len h.2
 rcases pc_ok (hok.pc p hp) with ⟨h1,h2,_,_⟩ | ⟨h1,_,_,h4,h5⟩ | ⟨h1,_,h3,h4,h5⟩
 · have e:wrt r.key us p=p.u:=by unfold wrt;rw [if_neg (by omega),if_neg (by omega)]
   rw [e]
   exact ⟨h2,.inl h1,fun _=>rfl,fun k=>by omega,fun k=>by omega⟩
 · obtain ⟨j,hj⟩:∃ j:Nat,p.y=(j:Int):=⟨p.y.toNat,by omega⟩
   have hjk:j<r.key.length:=by omega
   have hju:j<us.length:=by omega
   have e:wrt r.key us p=us[j]:=by
    unfold wrt
    rw [if_neg (by omega),if_pos h1,hj]
    simp [unitAt,hju]
   rw [e]
   exact ⟨hasB_unit (st_at h.2 hjk hju),.inr (.inl h1),fun k=>by omega,fun _=>⟨j,hju,hj,rfl⟩,fun k=>by omega⟩
 · obtain ⟨j,hj⟩:∃ j:Nat,p.y=(j:Int):=⟨p.y.toNat,by omega⟩
   have hjk:j<r.key.length:=by omega
   have hju:j<us.length:=by omega
   have e1:keyAt r.key (j:Int)=r.key[j]:=by simp [keyAt,hjk]
   have e2:unitAt us (j:Int)=us[j]:=by simp [unitAt,hju]
   have e:wrt r.key us p=partU r.key[j] p.tl us[j]:=by
    unfold wrt
    rw [if_pos h1,hj,e1,e2]
   rw [hj,e1] at h5
   simp only [matB,Bool.and_eq_true,decide_eq_true_eq] at h5
   have hS:=List.all_eq_true.1 hok.kS r.key[j] (List.getElem_mem hjk)
   have hS2:=hS
   simp only [okS,Bool.and_eq_true] at hS2
   have hP:Paired r.key[j] p.tl:=⟨hS2.1,h5.1,lenU_ok hS,h5.2⟩
   have hh:=st_at h.2 hjk hju
   have hh2:=hh
   simp only [hasB,Bool.and_eq_true,decide_eq_true_eq] at hh2
   have hq:=(part_some hP hh2.2).2
   have hb:hasB p.tl (partU r.key[j] p.tl us[j])=true:=by simp [hasB,h5.1,hq]
   rw [e]
   exact ⟨hasB_unit hb,.inr (.inr h1),fun k=>by omega,fun k=>by omega,fun _=>hb⟩
def wS (rs:List Rl) (st:St):List Int→Int
 | []=>0
 | u::l=>wK rs st u+wS rs st l
theorem wS_append (rs:List Rl) (st:St) (l k:List Int):wS rs st (l++k)=wS rs st l+wS rs st k:=by
 induction l with
 | nil=>simp [wS]
 | cons u l ih=>simp only [List.cons_append,wS,ih];omega
open Classical in
noncomputable def gmx (rs:List Rl) (st:St) (P:Int→Prop):Nat→Int
 | 0=>0
 | n+1=>if ∃ u,P u∧wK rs st u=((n+1:Nat):Int) then ((n+1:Nat):Int) else gmx rs st P n
theorem gmx_ge {rs:List Rl} {st:St} {P:Int→Prop} {u:Int} (hu:P u):∀ n:Nat,wK rs st u≤n→1≤wK rs st u→wK rs st u≤gmx rs st P n
 | 0,h,h1=>by omega
 | n+1,h,h1=>by
  rw [gmx]
  split
  · exact h
  · rename_i hn
    refine gmx_ge hu n ?_ h1
    by_cases e:wK rs st u=((n+1:Nat):Int)
    · exact absurd ⟨u,hu,e⟩ hn
    · omega
theorem gmx_is {rs:List Rl} {st:St} {P:Int→Prop} : ∀ n:Nat,gmx rs st P n=0∨∃ u,P u∧wK rs st u=gmx rs st P n
 | 0 => .inl rfl
 | n+1=>by
  rw [gmx]
  split
  · rename_i h
    obtain ⟨u,h1,h2⟩:=h
    exact .inr ⟨u,h1,h2⟩
  · exact gmx_is n
noncomputable def gG (rs:List Rl) (st:St) (s:List (Int × Int)):Int:=gmx rs st (hasU s) 64
theorem gG_ge {rs:List Rl} {st:St} (h:Fin rs st) {s:List (Int × Int)} {u:Int} (hu:hasU s u):wK rs st u≤gG rs st s:=gmx_ge hu 64 (h.wK_in u).2 (h.wK_in u).1
theorem gG_le {rs:List Rl} {st:St} (h:Fin rs st) {j:Nat} (hj:j<st.bk.length):gG rs st (usAt st.bk j)≤wtAt st.bk j:=by
 have hpos:1≤wtAt st.bk j:=by
  unfold wtAt
  rw [List.getElem?_eq_getElem hj]
  exact (h.run.ok.pb _ (List.getElem_mem hj)).2.1
 rcases gmx_is (rs:=rs) (st:=st) (P:=hasU (usAt st.bk j)) 64 with e | ⟨u,h1,h2⟩
 · unfold gG;omega
 · unfold gG
   rw [←h2]
   exact h.unit_leK hj h1
def cys:List Pc→List Nat
 | []=>[]
 | p::l=>if p.k=2 then p.y.toNat::cys l else cys l
theorem cys_len (l:List Pc):((cys l).length:Int)=copN l:=by
 induction l with
 | nil=>rfl
 | cons p l ih=>
  simp only [cys,copN]
  split
  · simp only [List.length_cons];omega
  · omega
theorem cys_mem:∀ {l:List Pc} {y:Nat},y∈cys l→∃ p∈l,p.k=2∧p.y.toNat=y
 | p::l,y,h=>by
  simp only [cys] at h
  split at h
  · rename_i hk
    rcases List.mem_cons.1 h with rfl | h
    · exact ⟨p,List.mem_cons_self,hk,rfl⟩
    · obtain ⟨q,h1,h2⟩:=cys_mem h
      exact ⟨q,List.mem_cons_of_mem _ h1,h2⟩
  · obtain ⟨q,h1,h2⟩:=cys_mem h
    exact ⟨q,List.mem_cons_of_mem _ h1,h2⟩
theorem cpW_no:∀ (l:List Pc) (c:List Bool),c.length=8→(∀ p∈l,p.k=2→p.y.toNat<8)→cpW c l=false→(cys l).Nodup∧∀ y∈cys l,(c[y]?).getD false=false
 | [],c,_,_,_=>⟨List.nodup_nil,by simp [cys]⟩
 | p::l,c,hc,h8,h=>by
  rw [cpW] at h
  rw [cys]
  by_cases hk:p.k=2
  · rw [if_neg (by omega)] at h
    rw [if_pos hk]
    have hy8:=h8 p List.mem_cons_self hk
    by_cases hy:(c[p.y.toNat]?).getD false=true
    · rw [if_pos hy] at h;cases h
    · rw [if_neg hy] at h
      obtain ⟨h1,h2⟩:=cpW_no l (c.set p.y.toNat true) (by simp [hc]) (fun q hq=>h8 q (List.mem_cons_of_mem _ hq)) h
      have hne:∀ z∈cys l,z≠p.y.toNat∧(c[z]?).getD false=false:=fun z hz=>by
       have:=h2 z hz
       rw [List.getElem?_set] at this
       by_cases e:p.y.toNat=z
       · rw [if_pos e,if_pos (by omega)] at this
         simp at this
       · rw [if_neg e] at this
         exact ⟨fun e2=>e e2.symm,this⟩
      refine ⟨List.nodup_cons.2 ⟨fun hm=>(hne _ hm).1 rfl,h1⟩,fun y hy' => ?_⟩
      rcases List.mem_cons.1 hy' with rfl | hy'
      · simpa using hy
      · exact (hne y hy').2
  · rw [if_pos hk] at h
    rw [if_neg hk]
    exact cpW_no l c hc (fun q hq=>h8 q (List.mem_cons_of_mem _ hq)) h
def sF (F:Nat→Int):List Nat→Int
 | []=>0
 | y::l=>F y+sF F l
def sR (F:Nat→Int):Nat→Int
 | 0=>0
 | n+1=>sR F n+F n
theorem sF_same {F G:Nat→Int} : ∀ (l:List Nat),(∀ y∈l,F y=G y)→sF F l=sF G l
 | [],_=>rfl
 | y::l,h=>by
  rw [sF,sF,h y List.mem_cons_self,sF_same l fun z hz=>h z (List.mem_cons_of_mem _ hz)]
theorem sR_nonneg {F:Nat→Int} (h:∀ j,0≤F j):∀ n,0≤sR F n
 | 0=>Int.le_refl _
 | n+1=>by have:=sR_nonneg h n;have:=h n;rw [sR];omega
theorem sR_without (F:Nat→Int) (y:Nat):∀ n,sR (fun j=>if j=y then 0 else F j) n=sR F n - if y<n then F y else 0
 | 0=>by simp [sR]
 | n+1=>by
  rw [sR,sR,sR_without F y n]
  by_cases e:n=y
  · subst e
    rw [if_pos rfl,if_neg (by omega),if_pos (by omega)]
    omega
  · rw [if_neg e]
    by_cases h:y<n
    · rw [if_pos h,if_pos (by omega)];omega
    · rw [if_neg h,if_neg (by omega)];omega
theorem nodup_sum {n:Nat} : ∀ (l:List Nat) (F:Nat→Int),(∀ j,0≤F j)→l.Nodup→(∀ y∈l,y<n)→sF F l≤sR F n
 | [],F,h,_,_=>sR_nonneg h n
 | y::l,F,h,hn,hy=>by
  have hn2:=List.nodup_cons.1 hn
  have ih:=nodup_sum l (fun j=>if j=y then 0 else F j) (fun j=>by by_cases e:j=y <;> simp [e,h]) hn2.2 (fun z hz=>hy z (List.mem_cons_of_mem _ hz))
  rw [sR_without,if_pos (hy y List.mem_cons_self)] at ih
  rw [sF,sF_same l (G:=fun j=>if j=y then 0 else F j) fun z hz=>by
   have:z≠y:=fun e=>hn2.1 (e ▸ hz)
   simp [this]]
  omega
theorem sR_shift (F:Nat→Int):∀ n,sR F (n+1)=F 0+sR (fun j=>F (j+1)) n
 | 0=>by simp [sR]
 | n+1=>by rw [sR,sR_shift F n,sR];omega
theorem wS_sR (rs:List Rl) (st:St):∀ us:List Int,wS rs st us=sR (fun j=>wK rs st (us[j]?.getD 0)) us.length
 | []=>rfl
 | u::us=>by
  rw [List.length_cons,sR_shift,wS,wS_sR rs st us]
  simp
theorem sR_minus (F:Nat→Int):∀ n,sR (fun j=>if j=0 then 0 else F j - 1) (n+1)=sR F (n+1) - F 0 - n
 | 0=>by simp [sR]
 | n+1=>by
  have e:sR F (n+1+1)=sR F (n+1)+F (n+1):=rfl
  rw [sR,sR_minus F n,if_neg (by omega),e]
  omega
theorem back_sum {rs:List Rl} {st:St} (n:Nat) (us:List Int) (f:Pc→Int) (G:List (Int × Int)→Int):∀ l:List Pc,(∀ p∈l,(p.k≠2→wK rs st (f p)≤G (mayB p))∧(p.k=2→f p=us[p.y.toNat]?.getD 0))→wS rs st (l.map f)≤gs G (pbs n l) n+sF (fun j=>wK rs st (us[j]?.getD 0)) (cys l)
 | [],_=>by simp [wS,pbs,gs,cys,sF]
 | p::l,h=>by
  have ih:=back_sum n us f G l fun q hq=>h q (List.mem_cons_of_mem _ hq)
  have hp:=h p List.mem_cons_self
  rw [List.map_cons,wS]
  simp only [pbs,cys]
  by_cases hk:p.k=2
  · rw [if_pos hk,if_pos hk,sF,hp.2 hk]
    omega
  · rw [if_neg hk,if_neg hk]
    have:=hp.1 hk
    simp only [gs,if_pos]
    omega
theorem sF_minus (F:Nat→Int):∀ l:List Nat,(∀ y∈l,y≠0)→sF (fun j=>if j=0 then 0 else F j - 1) l=sF F l - l.length
 | [],_=>by simp [sF]
 | y::l,h=>by
  rw [sF,sF,sF_minus F l fun z hz=>h z (List.mem_cons_of_mem _ hz),if_neg (h y List.mem_cons_self),List.length_cons]
  omega
theorem Fin.light {rs:List Rl} {st:St} (h:Fin rs st) {i:Nat} (hi:i<rs.length) {us:List Int} (hl:layB rs[i] us=true):wS rs st ((backP rs[i]).map (wrt rs[i].key us))+1≤wS rs st us:=by
 have hO:=h.ok _ (List.getElem_mem hi)
 have hst:stB rs[i].key us=true:=by simp only [layB,Bool.and_eq_true] at hl;exact hl.2
 have hlen:=st_len hst
 have hk0:=hO.k0
 have hw:=fun p (hp:p∈backP rs[i])=>wr_any hl (List.mem_of_mem_drop hp)
 have h1:=back_sum (rs:=rs) (st:=st) i us (wrt rs[i].key us) (gG rs st) (backP rs[i]) fun p hp=>by
  have w:=hw p hp
  refine ⟨fun h2=>gG_ge h ?_,fun h2 => ?_⟩
  · rcases w.k with k | k | k
    · rw [w.k1 k,mayB,if_neg (by omega)]
      exact ⟨(p.u,p.u),by simp,Int.le_refl _,Int.le_refl _⟩
    · exact absurd k h2
    · rw [mayB,if_pos k]
      have:=w.k3 k
      simp only [hasB,Bool.and_eq_true,decide_eq_true_eq] at this
      exact this.2
  · obtain ⟨j,hj,h3,h4⟩:=w.k2 h2
    rw [h3,←h4]
    simp [hj]
 have h2:=h.gen (gG rs st) (fun j hj=>gG_le h hj) hi
 have hcp:=h.cp _ (List.getElem_mem hi)
 have hy:∀ p∈backP rs[i],p.k=2→p.y.toNat<us.length:=fun p hp k=>by
  obtain ⟨j,hj,h3,_⟩:=(hw p hp).k2 k
  omega
 have hn:=cpW_no (backP rs[i]) _ (by simp) (fun p hp k=>by have:=hy p hp k;have:=hO.k8;omega) hcp
 have hne:∀ y∈cys (backP rs[i]),y≠0:=fun y hy e=>by
  have:=hn.2 y hy
  subst e
  simp at this
 have hlt:∀ y∈cys (backP rs[i]),y<us.length:=fun y hy'=>by
  obtain ⟨p,hp,k,e⟩:=cys_mem hy'
  rw [←e]
  exact hy p hp k
 have h3:=nodup_sum (n:=us.length) (cys (backP rs[i])) (fun j=>if j=0 then 0 else wK rs st (us[j]?.getD 0) - 1) (fun j=>by
  have:=(h.wK_in (us[j]?.getD 0)).1
  by_cases e:j=0
  · simp [e]
  · simp only [e,if_false];omega) hn.1 hlt
 rw [sF_minus _ _ hne,cys_len] at h3
 obtain ⟨n,hn'⟩:∃ n,us.length=n+1:=⟨us.length - 1,by omega⟩
 rw [hn',sR_minus (fun j=>wK rs st (us[j]?.getD 0)) n,←hn',←wS_sR] at h3
 have h4:at0 st.ws i≤wK rs st (us[0]?.getD 0):=by
  refine Fin.wK_ge hi ?_
  have:=st_at hst hk0 (by omega)
  rw [fstS_at hi,show keyAt rs[i].key 0=rs[i].key[0] by simp [keyAt,hk0]]
  rw [List.getElem?_eq_getElem (by omega)]
  exact this
 omega
def stF (r:Rl) (d l:List Int):Bool:=
 if l.length<r.key.length+r.post.length∨d.length<r.ante.length then false
 else if (r.bg=true∧r.ante.length<d.length)∨(r.en=true∧r.key.length+r.post.length<l.length) then false
 else (stB r.key (l.take r.key.length) && stB r.post ((l.drop r.key.length).take r.post.length)) && stB r.ante (d.drop (d.length - r.ante.length))
theorem stF_key {r:Rl} {d l:List Int} (h:stF r d l=true):r.key.length≤l.length∧stB r.key (l.take r.key.length)=true:=by
 unfold stF at h
 split at h
 · cases h
 · rename_i h1
   split at h
   · cases h
   · simp only [Bool.and_eq_true] at h
     exact ⟨by omega,h.1.1⟩
theorem ir_mid {w:World} {g o N c k n:Nat} {l:List Int} (h:IR w (.slice (some ⟨g,o,none⟩) N c) l) (hk:k≤n) (hn:n≤N):IR w (.slice (some ⟨g,o+k,none⟩) (n - k) (c - k)) ((l.drop k).take (n - k)):=ir_take (ir_drop h (by omega)) (by omega)
theorem ir_zero {w:World} {A:Option Addr} {l:List Int} (h:l=[]):IR w (.slice A 0 0) l:=by
 subst h
 exact ⟨A,0,rfl,Nat.le_refl _,.inl rfl⟩
theorem ir_len {w:World} {a:Option Addr} {n c:Nat} {l:List Int} (h:IR w (.slice a n c) l):l.length=n∧n≤c:=by
 obtain ⟨a',c',e,h1,_⟩:=h
 injection e with e1 e2 e3
 omega
set_option maxHeartbeats 8000000 in
theorem rstF_any (r:Rl) (av kv pv rv dv lv:Value) (d l:List Int) (w:World) (h:RR w av kv pv rv r) (hd:IR w dv d) (hl:IR w lv l) (hO:Ok r) (hdn:d.length≤1000000000) (hdw:dv = .slice none 0 0∨∃ g o n c,dv = .slice (some ⟨g,o,none⟩) n c) (hln:l.length≤1000000000) :
 Calls Tryz.prog 80 #[.agg #[.bool r.bg,av,kv,pv,.bool r.en,rv,.int .i64 r.cu],dv,lv] w fun e w'=>e = .returned (.bool (stF r d l))∧Grown w w':=by
 have HS1:Hid (∀ V (x:Value),Grown w V→IR w x (l.take r.key.length)→Calls Tryz.prog 105 #[x,kv] V fun e w'=>e = .returned (.bool (stB r.key (l.take r.key.length)))∧Grown V w'):=fun V x hg hx=>rstands_any kv x r.key _ V (h.k.grown hg) (hx.grown hg) (by have:=hO.k8;omega) hO.kS
 have HS2:Hid (∀ V (x:Value),Grown w V→IR w x ((l.drop r.key.length).take r.post.length)→Calls Tryz.prog 105 #[x,pv] V fun e w'=>e = .returned (.bool (stB r.post ((l.drop r.key.length).take r.post.length)))∧Grown V w'):=fun V x hg hx=>rstands_any pv x r.post _ V (h.p.grown hg) (hx.grown hg) (by have:=hO.p8;omega) hO.pS
 have HS3:Hid (∀ V (x:Value),Grown w V→IR w x (d.drop (d.length - r.ante.length))→Calls Tryz.prog 105 #[x,av] V fun e w'=>e = .returned (.bool (stB r.ante (d.drop (d.length - r.ante.length))))∧Grown V w'):=fun V x hg hx=>rstands_any av x r.ante _ V (h.a.grown hg) (hx.grown hg) (by have:=hO.a8;omega) hO.aS
 have HID:Hid (IR w dv d):=hd
 have HIL:Hid (IR w lv l):=hl
 obtain ⟨da,dc,hdv,hdc,_⟩:=hd
 subst hdv
 have HDW:Hid ((da=none∧dc=0)∨∃ g o,da=some ⟨g,o,none⟩):=by
  rcases hdw with h1 | ⟨g,o,n,c,h1⟩
  · injection h1 with h1 h2 h3;exact .inl ⟨h1,h3⟩
  · injection h1 with h1;exact .inr ⟨g,o,h1⟩
 clear hdw
 obtain ⟨la,lc,hlv,hlc,_⟩:=hl
 subst hlv
 obtain ⟨aa,ac,hav,hx1,hx2⟩:=h.a
 subst hav
 clear hx1 hx2
 obtain ⟨ka,kc,hkv,hx1,hx2⟩:=h.k
 subst hkv
 clear hx1 hx2
 obtain ⟨pa,pc,hpv,hx1,hx2⟩:=h.p
 subst hpv
 clear hx1 hx2
 obtain ⟨ra,rn,rc,rfl⟩:=h.r.sl
 have hk0:=hO.k0
 have hk8:=hO.k8
 have hp8:=hO.p8
 have ha8:=hO.a8
 obtain ⟨B1,hB1⟩:∃ B1,stB r.key (l.take r.key.length)=B1:=⟨_,rfl⟩
 obtain ⟨B2,hB2⟩:∃ B2,stB r.post ((l.drop r.key.length).take r.post.length)=B2:=⟨_,rfl⟩
 obtain ⟨B3,hB3⟩:∃ B3,stB r.ante (d.drop (d.length - r.ante.length))=B3:=⟨_,rfl⟩
 rw [hB1] at HS1
 rw [hB2] at HS2
 rw [hB3] at HS3
 unfold stF
 rw [hB1,hB2,hB3]
 clear h hO hB1 hB2 hB3
 obtain ⟨kn,hkn⟩:∃ kn,r.key.length=kn:=⟨_,rfl⟩
 obtain ⟨pn,hpn⟩:∃ pn,r.post.length=pn:=⟨_,rfl⟩
 obtain ⟨an,han⟩:∃ an,r.ante.length=an:=⟨_,rfl⟩
 obtain ⟨ln,hln'⟩:∃ ln,l.length=ln:=⟨_,rfl⟩
 obtain ⟨dn,hdn'⟩:∃ dn,d.length=dn:=⟨_,rfl⟩
 rw [hkn] at HS1 HS2 hk0 hk8 ⊢
 rw [hpn] at HS2 hp8 ⊢
 rw [han] at HS3 ha8 ⊢
 rw [hln'] at HIL hlc hln ⊢
 rw [hdn'] at HID HS3 hdc hdn ⊢
 obtain ⟨xb,hxb⟩:∃ xb,r.bg=xb:=⟨_,rfl⟩
 obtain ⟨xe,hxe⟩:∃ xe,r.en=xe:=⟨_,rfl⟩
 obtain ⟨xc,hxc⟩:∃ xc,r.cu=xc:=⟨_,rfl⟩
 rw [hxb,hxe,hxc]
 have HLN:Hid (l.length=ln∧d.length=dn):=⟨hln',hdn'⟩
 clear hkn hpn han hln' hdn' hxb hxe hxc
 have i1:(0:Int)<(kn:Int):=by omega
 have i2:(kn:Int)≤8:=by omega
 have i3:(pn:Int)≤8:=by omega
 have i4:(an:Int)≤8:=by omega
 have i5:(ln:Int)≤1000000000:=by omega
 have i6:(dn:Int)≤1000000000:=by omega
 obtain ⟨W0,hW0⟩:∃ W0,W0=w.alloc (.cells #[.bool xb,.slice aa an ac,.slice ka kn kc,.slice pa pn pc,.bool xe,.slice ra rn rc,.int .i64 xc] 53):=⟨_,rfl⟩
 have HG0:Hid (Grown w W0):=by show Grown _ _;rw [hW0];exact (Grown.refl _).alloc _
 have f0:W0.cell? ⟨w.heap.size,0,none⟩=some (.bool xb):=by rw [hW0];simp
 have f1:W0.cell? ⟨w.heap.size,1,none⟩=some (.slice aa an ac):=by rw [hW0];simp
 have f2:W0.cell? ⟨w.heap.size,2,none⟩=some (.slice ka kn kc):=by rw [hW0];simp
 have f3:W0.cell? ⟨w.heap.size,3,none⟩=some (.slice pa pn pc):=by rw [hW0];simp
 have f4:W0.cell? ⟨w.heap.size,4,none⟩=some (.bool xe):=by rw [hW0];simp
 by_cases c1:ln<kn+pn
 · as_aux_lemma=>
    have c1':(ln:Int)<(kn:Int)+(pn:Int):=by omega
    rw [if_pos (.inl c1)]
    go_enter Tryz.func80,Tryz.ntmps80
    go_wp2
    go_ret
    exact ⟨rfl,(Grown.refl _).alloc _⟩
 have c1':¬ (ln:Int)<(kn:Int)+(pn:Int):=by omega
 have c1d:decide ((ln:Int)<(kn:Int)+(pn:Int))=false:=by simp;omega
 by_cases c2:dn<an
 · as_aux_lemma=>
    have c2':(dn:Int)<(an:Int):=by omega
    rw [if_pos (.inr c2)]
    go_enter Tryz.func80,Tryz.ntmps80
    go_wp2
    go_ret
    exact ⟨rfl,(Grown.refl _).alloc _⟩
 have c2':¬ (dn:Int)<(an:Int):=by omega
 have c2d:decide ((dn:Int)<(an:Int))=false:=by simp;omega
 have c2e:decide (dn<an)=false:=by simp;omega
 rw [if_neg (by omega)]
 by_cases c3:(xb=true∧an<dn)∨(xe=true∧kn+pn<ln)
 · rw [if_pos c3]
   rcases c3 with ⟨h1,h2⟩ | ⟨h1,h2⟩
   · as_aux_lemma=>
      subst h1
      have h2':(an:Int)<(dn:Int):=by omega
      go_enter Tryz.func80,Tryz.ntmps80
      go_wp2
      go_ret
      exact ⟨rfl,(Grown.refl _).alloc _⟩
   · subst h1
     have h2':(kn:Int)+(pn:Int)<(ln:Int):=by omega
     cases xb with
     | false=>
      as_aux_lemma=>
       go_enter Tryz.func80,Tryz.ntmps80
       go_wp2
       go_ret
       exact ⟨rfl,(Grown.refl _).alloc _⟩
     | true=>
      by_cases h3:an<dn
      · as_aux_lemma=>
         have h3':(an:Int)<(dn:Int):=by omega
         go_enter Tryz.func80,Tryz.ntmps80
         go_wp2
         go_ret
         exact ⟨rfl,(Grown.refl _).alloc _⟩
      · as_aux_lemma=>
         have h3':¬ (an:Int)<(dn:Int):=by omega
         have h3d:decide ((an:Int)<(dn:Int))=false:=by simp;omega
         have h3e:decide (an<dn)=false:=by simp;omega
         go_enter Tryz.func80,Tryz.ntmps80
         go_wp2
         go_ret
         exact ⟨rfl,(Grown.refl _).alloc _⟩
 rw [if_neg c3]
 have HCut:Hid (∀ (P:Prop),P→P):=fun _ h=>h
 have HA:Hid (∀ (V:World),Grown W0 V→Grown w V):=fun V hg=>HG0.out.trans hg
 obtain ⟨lg,lo,hla⟩:∃ lg lo,la=some ⟨lg,lo,none⟩:=by
  obtain ⟨a',c',e,_,hr⟩:=HIL.out
  obtain ⟨g,o,h1,_⟩:=hr.resolve_left (fun e2=>by have:=HLN.out.1;rw [e2] at this;simp at this;omega)
  injection e with e1
  exact ⟨g,o,e1.trans h1⟩
 subst hla
 have j1:(kn:Int)≤(ln:Int):=by omega
 have j2:(kn:Int)≤(kn:Int)+(pn:Int):=by omega
 have j3:(kn:Int)+(pn:Int)≤(lc:Int):=by omega
 have j4:(kn:Int)≤(lc:Int):=by omega
 have j5:(kn:Int)+(pn:Int)≤(ln:Int):=by omega
 have j6:(ln:Int)≤(lc:Int):=by omega
 have HC1:Hid (∀ m os,Calls Tryz.prog 105 #[.slice (some ⟨lg,lo,none⟩) kn lc,.slice ka kn kc] (Go.Sort.grow (W0.drewN m) os) fun e w'=>e = .returned (.bool B1)∧Grown (Go.Sort.grow (W0.drewN m) os) w'):=fun m os=>HS1.out _ _ (HG0.out.quiet m os) (ir_take HIL.out (by omega))
 have g1:=fun m os=>((Grown.refl W0).quiet m os).cellv f1
 have g2:=fun m os=>((Grown.refl W0).quiet m os).cellv f2
 have g3:=fun m os=>((Grown.refl W0).quiet m os).cellv f3
 go_enter Tryz.func80,Tryz.ntmps80
 go_upto_region 6 with fail
 rw [←hW0]
 go_cut [48] (fun s wx=>s = .bool false∧wx=W0)
 case first=>
  cases xb with
  | false=>
   cases xe with
   | false=>
    go_wp2
    go_meet
    exact ⟨rfl,by first | rfl | exact hW0.symm⟩
   | true=>
    have h5:¬ (kn:Int)+(pn:Int)<(ln:Int):=fun h=>c3 (.inr ⟨rfl,by omega⟩)
    have h6:decide ((kn:Int)+(pn:Int)<(ln:Int))=false:=by simpa using h5
    go_wp2
    go_meet
    exact ⟨rfl,by first | rfl | exact hW0.symm⟩
  | true=>
   have h7:¬ (an:Int)<(dn:Int):=fun h=>c3 (.inl ⟨rfl,by omega⟩)
   have h8:decide ((an:Int)<(dn:Int))=false:=by simpa using h7
   have h9:decide (an<dn)=false:=by simp;omega
   cases xe with
   | false=>
    go_wp2
    go_meet
    exact ⟨rfl,by first | rfl | exact hW0.symm⟩
   | true=>
    have h5:¬ (kn:Int)+(pn:Int)<(ln:Int):=fun h=>c3 (.inr ⟨rfl,by omega⟩)
    have h6:decide ((kn:Int)+(pn:Int)<(ln:Int))=false:=by simpa using h5
    go_wp2
    go_meet
    exact ⟨rfl,by first | rfl | exact hW0.symm⟩
 obtain ⟨hcs,hcw⟩:=hcut
 subst hcs
 have hcw2:=hcw.symm
 clear hcw
 subst hcw2
 clear c3 hW0
 cases B1 with
 | false=>
  clear HS1 HS2 HS3
  go_wp2
  refine wp_region_quiet_grown mixed (by kernel_rfl) ?_
  iterate 6 (go_big_quiet_step ((go_at_call 105;exact grown_of (HC1.out _ _))))
  repeat (go_big_quiet_step (fail))
  refine wpQuiet_nil ?_
  intro _ hw'
  obtain ⟨⟨nq,osq⟩,hw''⟩:=hw'
  subst hw''
  go_wp2
  go_ret
  exact ⟨rfl,HG0.out.quiet _ _⟩
 | true=>
  by_cases hk:kn=lc
  · have hz:=i1
    have hpn0:pn=0:=by omega
    subst hpn0
    have hkE:kn=lc:=hk
    have HC2:Hid (∀ m os,Calls Tryz.prog 105 #[.slice (some ⟨lg,lo,none⟩) 0 0,.slice pa 0 pc] (Go.Sort.grow (W0.drewN m) os) fun e w'=>e = .returned (.bool B2)∧Grown (Go.Sort.grow (W0.drewN m) os) w'):=fun m os=>HS2.out _ _ (HG0.out.quiet m os) (ir_zero (by simp))
    subst hkE
    cases B2 with
    | false=>
     clear HS1 HS2 HS3
     go_wp2
     refine wp_region_quiet_grown mixed (by kernel_rfl) ?_
     iterate 6 (go_big_quiet_step ((go_at_call 105;exact grown_of (HC1.out _ _))))
     iterate 8 (go_big_quiet_step ((go_at_call 105;exact grown_of (HC2.out _ _))))
     repeat (go_big_quiet_step (fail))
     refine wpQuiet_nil ?_
     intro _ hw'
     obtain ⟨⟨nq,osq⟩,hw''⟩:=hw'
     subst hw''
     go_wp2
     go_ret
     exact ⟨rfl,HG0.out.quiet _ _⟩
    | true=>
     have j8:((dn - an:Nat):Int)=(dn:Int) - (an:Int):=by omega
     obtain ⟨e9,he9⟩:∃ e9,dn - an=e9:=⟨_,rfl⟩
     rw [he9] at j8
     have j9:=j8.symm
     have j10:(e9:Int)≤(dn:Int):=by omega
     have j11:(e9:Int)≤(dc:Int):=by omega
     have j12:(0:Int)≤(e9:Int):=by omega
     have j13:(dn:Int)≤(dc:Int):=by omega
     clear j8
     by_cases hd0:e9=dc
     · have HC3:Hid (∀ m os,Calls Tryz.prog 105 #[.slice da 0 0,.slice aa an ac] (Go.Sort.grow (W0.drewN m) os) fun e w'=>e = .returned (.bool B3)∧Grown (Go.Sort.grow (W0.drewN m) os) w'):=fun m os=>HS3.out _ _ (HG0.out.quiet m os) (ir_zero (by rw [he9];exact List.drop_eq_nil_of_le (by have:=HLN.out.2;omega)))
       have han0:an=0:=by omega
       have hde:dn=dc:=by omega
       clear HS1 HS2 HS3 he9
       subst hd0
       subst han0
       obtain rfl:=hde
       go_wp2
       refine wp_region_quiet_grown mixed (by kernel_rfl) ?_
       iterate 6 (go_big_quiet_step ((go_at_call 105;exact grown_of (HC1.out _ _))))
       iterate 8 (go_big_quiet_step ((go_at_call 105;exact grown_of (HC2.out _ _))))
       iterate 11 (go_big_quiet_step ((go_at_call 105;exact grown_of (HC3.out _ _))))
       repeat (go_big_quiet_step (fail))
       refine wpQuiet_nil ?_
       intro _ hw'
       obtain ⟨⟨nq,osq⟩,hw''⟩:=hw'
       subst hw''
       go_wp2
       go_ret
       exact ⟨by simp,HG0.out.quiet _ _⟩
     · obtain ⟨dg,dO,hda⟩:∃ dg dO,da=some ⟨dg,dO,none⟩:=by
        rcases HDW.out with ⟨_,h2⟩ | h2
        · omega
        · exact h2
       subst hda
       have HC3:Hid (∀ m os,Calls Tryz.prog 105 #[.slice (some ⟨dg,dO+e9,none⟩) an (dc - e9),.slice aa an ac] (Go.Sort.grow (W0.drewN m) os) fun e w'=>e = .returned (.bool B3)∧Grown (Go.Sort.grow (W0.drewN m) os) w'):=fun m os=>HS3.out _ _ (HG0.out.quiet m os) (by
        have:=ir_drop HID.out (n:=e9) (by omega)
        rw [show dn - e9=an by omega] at this
        rw [he9]
        exact this)
       have hdI:((e9:Int) == (dc:Int))=false:=by simp;omega
       have hdJ:dn - e9=an:=by omega
       clear HS1 HS2 HS3 he9
       go_wp2
       refine wp_region_quiet_grown mixed (by kernel_rfl) ?_
       iterate 6 (go_big_quiet_step ((go_at_call 105;exact grown_of (HC1.out _ _))))
       iterate 8 (go_big_quiet_step ((go_at_call 105;exact grown_of (HC2.out _ _))))
       iterate 11 (go_big_quiet_step ((go_at_call 105;exact grown_of (HC3.out _ _))))
       repeat (go_big_quiet_step (fail))
       refine wpQuiet_nil ?_
       intro _ hw'
       obtain ⟨⟨nq,osq⟩,hw''⟩:=hw'
       subst hw''
       go_wp2
       go_ret
       exact ⟨by simp,HG0.out.quiet _ _⟩
  · have hz:=i1
    have hkI:((kn:Int) == (lc:Int))=false:=by simp;omega
    have HC2:Hid (∀ m os,Calls Tryz.prog 105 #[.slice (some ⟨lg,lo+kn,none⟩) pn (lc - kn),.slice pa pn pc] (Go.Sort.grow (W0.drewN m) os) fun e w'=>e = .returned (.bool B2)∧Grown (Go.Sort.grow (W0.drewN m) os) w'):=fun m os=>HS2.out _ _ (HG0.out.quiet m os) (by
     have:=ir_mid HIL.out (k:=kn) (n:=kn+pn) (by omega) (by omega)
     rw [show kn+pn - kn=pn by omega] at this
     exact this)
    cases B2 with
    | false=>
     clear HS1 HS2 HS3
     go_wp2
     refine wp_region_quiet_grown mixed (by kernel_rfl) ?_
     iterate 6 (go_big_quiet_step ((go_at_call 105;exact grown_of (HC1.out _ _))))
     iterate 8 (go_big_quiet_step ((go_at_call 105;exact grown_of (HC2.out _ _))))
     repeat (go_big_quiet_step (fail))
     refine wpQuiet_nil ?_
     intro _ hw'
     obtain ⟨⟨nq,osq⟩,hw''⟩:=hw'
     subst hw''
     go_wp2
     go_ret
     exact ⟨rfl,HG0.out.quiet _ _⟩
    | true=>
     have j8:((dn - an:Nat):Int)=(dn:Int) - (an:Int):=by omega
     obtain ⟨e9,he9⟩:∃ e9,dn - an=e9:=⟨_,rfl⟩
     rw [he9] at j8
     have j9:=j8.symm
     have j10:(e9:Int)≤(dn:Int):=by omega
     have j11:(e9:Int)≤(dc:Int):=by omega
     have j12:(0:Int)≤(e9:Int):=by omega
     have j13:(dn:Int)≤(dc:Int):=by omega
     clear j8
     by_cases hd0:e9=dc
     · have HC3:Hid (∀ m os,Calls Tryz.prog 105 #[.slice da 0 0,.slice aa an ac] (Go.Sort.grow (W0.drewN m) os) fun e w'=>e = .returned (.bool B3)∧Grown (Go.Sort.grow (W0.drewN m) os) w'):=fun m os=>HS3.out _ _ (HG0.out.quiet m os) (ir_zero (by rw [he9];exact List.drop_eq_nil_of_le (by have:=HLN.out.2;omega)))
       have han0:an=0:=by omega
       have hde:dn=dc:=by omega
       clear HS1 HS2 HS3 he9
       subst hd0
       subst han0
       obtain rfl:=hde
       go_wp2
       refine wp_region_quiet_grown mixed (by kernel_rfl) ?_
       iterate 6 (go_big_quiet_step ((go_at_call 105;exact grown_of (HC1.out _ _))))
       iterate 8 (go_big_quiet_step ((go_at_call 105;exact grown_of (HC2.out _ _))))
       iterate 11 (go_big_quiet_step ((go_at_call 105;exact grown_of (HC3.out _ _))))
       repeat (go_big_quiet_step (fail))
       refine wpQuiet_nil ?_
       intro _ hw'
       obtain ⟨⟨nq,osq⟩,hw''⟩:=hw'
       subst hw''
       go_wp2
       go_ret
       exact ⟨by simp,HG0.out.quiet _ _⟩
     · obtain ⟨dg,dO,hda⟩:∃ dg dO,da=some ⟨dg,dO,none⟩:=by
        rcases HDW.out with ⟨_,h2⟩ | h2
        · omega
        · exact h2
       subst hda
       have HC3:Hid (∀ m os,Calls Tryz.prog 105 #[.slice (some ⟨dg,dO+e9,none⟩) an (dc - e9),.slice aa an ac] (Go.Sort.grow (W0.drewN m) os) fun e w'=>e = .returned (.bool B3)∧Grown (Go.Sort.grow (W0.drewN m) os) w'):=fun m os=>HS3.out _ _ (HG0.out.quiet m os) (by
        have:=ir_drop HID.out (n:=e9) (by omega)
        rw [show dn - e9=an by omega] at this
        rw [he9]
        exact this)
       have hdI:((e9:Int) == (dc:Int))=false:=by simp;omega
       have hdJ:dn - e9=an:=by omega
       clear HS1 HS2 HS3 he9
       go_wp2
       refine wp_region_quiet_grown mixed (by kernel_rfl) ?_
       iterate 6 (go_big_quiet_step ((go_at_call 105;exact grown_of (HC1.out _ _))))
       iterate 8 (go_big_quiet_step ((go_at_call 105;exact grown_of (HC2.out _ _))))
       iterate 11 (go_big_quiet_step ((go_at_call 105;exact grown_of (HC3.out _ _))))
       repeat (go_big_quiet_step (fail))
       refine wpQuiet_nil ?_
       intro _ hw'
       obtain ⟨⟨nq,osq⟩,hw''⟩:=hw'
       subst hw''
       go_wp2
       go_ret
       exact ⟨by simp,HG0.out.quiet _ _⟩
def kl (rs:List Rl) (i:Int):Nat:=((rs[i.toNat]?).map fun r=>r.key.length).getD 0
def nxtK (rs:List Rl) (d l:List Int):Nat→Int
 | 0 => -1
 | k+1=>if ((rs[k]?).map fun r=>stF r d l).getD false=true∧(nxtK rs d l k<0∨kl rs (nxtK rs d l k)<kl rs k) then (k:Int) else nxtK rs d l k
theorem nxtK_is (rs:List Rl) (d l:List Int):∀ k,k≤rs.length→nxtK rs d l k = -1∨∃ i:Nat,∃ hi:i<rs.length,i<k∧nxtK rs d l k=i∧stF rs[i] d l=true
 | 0,_ => .inl rfl
 | k+1,hk=>by
  rw [nxtK]
  split
  · rename_i h
    refine .inr ⟨k,by omega,by omega,rfl,?_⟩
    have:=h.1
    rw [List.getElem?_eq_getElem (by omega)] at this
    simpa using this
  · rcases nxtK_is rs d l k (by omega) with h | ⟨i,hi,h1,h2⟩
    · exact .inl h
    · exact .inr ⟨i,hi,by omega,h2⟩
set_option maxHeartbeats 8000000 in
theorem rnext_any (v dv lv:Value) (rs:List Rl) (d l:List Int) (w:World) (h:PsR w v rs) (hO:∀ r∈rs,Ok r) (hn:rs.length≤256) (hd:IR w dv d) (hl:IR w lv l) (hdn:d.length≤1000000000) (hdw:dv = .slice none 0 0∨∃ g o n c,dv = .slice (some ⟨g,o,none⟩) n c) (hln:l.length≤1000000000) :
 Calls Tryz.prog 55 #[.agg #[v],dv,lv] w fun e w'=>e = .returned (.int .i64 (nxtK rs d l rs.length))∧Grown w w':=by
 have HP:Hid (∀ V,Grown w V→PsR V v rs):=fun V hg=>h.grown hg
 have HO:Hid (∀ r∈rs,Ok r):=hO
 have HS:Hid (∀ (V:World) (r:Rl) (av kv pv rv:Value),Grown w V→RR V av kv pv rv r→Ok r→Calls Tryz.prog 80 #[.agg #[.bool r.bg,av,kv,pv,.bool r.en,rv,.int .i64 r.cu],dv,lv] V fun e w'=>e = .returned (.bool (stF r d l))∧Grown V w'):=fun V r av kv pv rv hg hr ho=>rstF_any r av kv pv rv dv lv d l V hr (hd.grown hg) (hl.grown hg) ho hdn hdw hln
 obtain ⟨d1,d2,d3,rfl⟩:=hd.sl
 obtain ⟨l1,l2,l3,rfl⟩:=hl.sl
 obtain ⟨ra,rc,hv,hx1,hx2⟩:=h
 subst hv
 clear hx1 hx2 hd hl hdn hdw hln hO
 obtain ⟨n,hN⟩:∃ n,rs.length=n:=⟨_,rfl⟩
 have HN:Hid (rs.length=n):=hN
 have hnI:(n:Int)≤256:=by omega
 rw [hN] at HP ⊢
 obtain ⟨R,hR⟩:∃ R,nxtK rs d l n=R:=⟨_,rfl⟩
 have HR:Hid (nxtK rs d l n=R):=hR
 rw [hR]
 clear hN hn hR
 go_enter Tryz.func55,Tryz.ntmps55
 go_wp2
 obtain ⟨wA,hwA⟩:∃ wA,wA=w.alloc (.cells #[.slice ra n rc] 24):=⟨_,rfl⟩
 have HGA:Hid (Grown w wA):=by show Grown _ _;rw [hwA];exact (Grown.refl _).alloc _
 have cA:wA.cell? ⟨w.heap.size,0,none⟩=some (.slice ra n rc):=by rw [hwA];simp
 try rw [←hwA]
 clear hwA
 go_loopw [7,8] (fun vb vi wr=>∃ (k:Nat) (b:Int),vi = .int .i64 k∧vb = .int .i64 b∧k≤n∧Hid (b=nxtK rs d l k)∧Grown wA wr) (fun _ vi _=>n - (intOf vi).toNat)
 case atStart=>exact ⟨0,-1,rfl,rfl,by omega,rfl,Grown.refl _⟩
 case round=>
  obtain ⟨k,b,rfl,rfl,hk,HB,hG⟩:=hrel
  have hk0:(0:Int)≤(k:Int):=by omega
  have c0:=hG.cellv cA
  by_cases hlt:k<n
  · have hlt':(k:Int)<(n:Int):=by omega
    have hkl:k<rs.length:=by rw [HN.out];exact hlt
    obtain ⟨a',c',e',_,hP⟩:=HP.out wr (HGA.out.trans hG)
    obtain ⟨g,o,ha',hP2⟩:=hP.resolve_left (fun e=>by rw [e] at hkl;simp at hkl)
    injection e' with e1 e2 e3
    clear e2 e3
    rw [ha'] at e1
    subst e1
    obtain ⟨av,kv,pv,rv,q0,q1,q2,q3,q4,q5,q6,hR⟩:=hP2 k hkl
    have HC0:=fun (V:World) (hg:Grown wr V)=>HS.out V rs[k] av kv pv rv (HGA.out.trans (hG.trans hg)) (hR.grown hg) (HO.out _ (List.getElem_mem hkl))
    have hnx:nxtK rs d l (k+1)=if stF rs[k] d l=true∧(b<0∨kl rs b<rs[k].key.length) then (k:Int) else b:=by
     have e:kl rs (k:Int)=rs[k].key.length:=by simp [kl,hkl]
     rw [nxtK,List.getElem?_eq_getElem hkl,HB.out,e]
     simp
    obtain ⟨S,hS⟩:∃ S,stF rs[k] d l=S:=⟨_,rfl⟩
    rw [hS] at HC0 hnx
    have HC:Hid (∀ m os,Calls Tryz.prog 80 #[.agg #[.bool rs[k].bg,av,kv,pv,.bool rs[k].en,rv,.int .i64 rs[k].cu],.slice d1 d2 d3,.slice l1 l2 l3] (Go.Sort.grow (wr.drewN m) os) fun e w'=>e = .returned (.bool S)∧Grown (Go.Sort.grow (wr.drewN m) os) w'):=fun m os=>HC0 _ ((Grown.refl wr).quiet m os)
    have hbi:=nxtK_is rs d l k (by omega)
    rw [←HB.out] at hbi
    obtain ⟨ka,kc,hkv,hx1,hx2⟩:=hR.k
    clear hx1 hx2
    obtain ⟨kn,hkn⟩:∃ kn,rs[k].key.length=kn:=⟨_,rfl⟩
    rw [hkn] at hkv hnx
    subst hkv
    obtain ⟨a1,a2,a3,rfl⟩:=hR.a.sl
    obtain ⟨p1,p2,p3,rfl⟩:=hR.p.sl
    obtain ⟨r1,r2,r3,rfl⟩:=hR.r.sl
    generalize rs[k].bg=xb at q0 HC
    generalize rs[k].en=xe at q4 HC
    generalize rs[k].cu=xc at q6 HC
    have k0:=fun m os=>((Grown.refl wr).quiet m os).cellv c0
    have p0:=fun m os=>((Grown.refl wr).quiet m os).cellv q0
    have p1:=fun m os=>((Grown.refl wr).quiet m os).cellv q1
    have p2:=fun m os=>((Grown.refl wr).quiet m os).cellv q2
    have p3:=fun m os=>((Grown.refl wr).quiet m os).cellv q3
    have p4:=fun m os=>((Grown.refl wr).quiet m os).cellv q4
    have p5:=fun m os=>((Grown.refl wr).quiet m os).cellv q5
    have p6:=fun m os=>((Grown.refl wr).quiet m os).cellv q6
    have HGW:Hid (∀ m os,Grown wA (Go.Sort.grow (wr.drewN m) os)):=fun m os=>hG.quiet m os
    have HKL:Hid (∀ i:Nat,i<n→∃ kn' ka' kc',(∀ m os,(Go.Sort.grow (wr.drewN m) os).cell? ⟨g,o+i*7+2,none⟩=some (.slice ka' kn' kc'))∧kl rs (i:Int)=kn'):=fun i hi=>by
     have hil:i<rs.length:=by rw [HN.out];exact hi
     obtain ⟨_,kv',_,_,_,_,z2,_,_,_,_,hR'⟩:=hP2 i hil
     obtain ⟨ka',kc',hkv',_,_⟩:=hR'.k
     exact ⟨_,ka',kc',fun m os=>by rw [←hkv'];exact ((Grown.refl wr).quiet m os).cellv z2,by simp [kl,hil]⟩
    have HNX:=Hid.mk' hnx
    have HBI:=Hid.mk' hbi
    clear HC0 hR hP hP2 ha' hS hnx hbi hkn q0 q1 q2 q3 q4 q5 q6 HB hG
    cases S with
    | false=>
     as_aux_lemma=>
      have HX:Hid (b=nxtK rs d l (k+1)):=by rw [HNX.out];simp [Hid]
      clear HNX HKL HBI
      go_wp2
      refine wp_region_quiet_grown mixed (by kernel_rfl) ?_
      repeat (go_big_quiet_step ((go_at_call 80;exact grown_of (HC.out _ _))))
      refine wpQuiet_nil ?_
      intro _ hw'
      obtain ⟨⟨nq,osq⟩,hw''⟩:=hw'
      subst hw''
      go_wp2
      exact ⟨⟨k+1,b,by go_num,rfl,by omega,HX,HGW.out _ _⟩,by simp [intOf];omega⟩
    | true=>
     by_cases hb:b<0
     · as_aux_lemma=>
        have HX:Hid ((k:Int)=nxtK rs d l (k+1)):=by rw [HNX.out];simp [Hid,hb]
        clear HNX HKL HBI
        go_wp2
        refine wp_region_quiet_grown mixed (by kernel_rfl) ?_
        repeat (go_big_quiet_step ((go_at_call 80;exact grown_of (HC.out _ _))))
        refine wpQuiet_nil ?_
        intro _ hw'
        obtain ⟨⟨nq,osq⟩,hw''⟩:=hw'
        subst hw''
        go_wp2
        exact ⟨⟨k+1,k,by go_num,rfl,by omega,HX,HGW.out _ _⟩,by simp [intOf];omega⟩
     · obtain ⟨bi,hbi⟩:∃ bi:Nat,b=(bi:Int):=⟨b.toNat,by omega⟩
       subst hbi
       have hbn:bi<n:=by
        rcases HBI.out with h1 | ⟨i,_,h2,h3,_⟩
        · omega
        · omega
       have hbnI:(bi:Int)<(n:Int):=by omega
       have hb0:(0:Int)≤(bi:Int):=by omega
       have hbd:decide ((bi:Int)<0)=false:=by simp
       obtain ⟨kn',ka',kc',z2,hz⟩:=HKL.out bi hbn
       have HNY:=Hid.mk' (by have:=HNX.out;rw [hz] at this;exact this)
       clear HNX HKL HBI hz
       by_cases hgt:kn'<kn
       · as_aux_lemma=>
          have hgtI:(kn':Int)<(kn:Int):=by omega
          have HX:Hid ((k:Int)=nxtK rs d l (k+1)):=by rw [HNY.out];simp [Hid,hgt]
          clear HNY
          go_wp2
          refine wp_region_quiet_grown mixed (by kernel_rfl) ?_
          repeat (go_big_quiet_step ((go_at_call 80;exact grown_of (HC.out _ _))))
          refine wpQuiet_nil ?_
          intro _ hw'
          obtain ⟨⟨nq,osq⟩,hw''⟩:=hw'
          subst hw''
          go_wp2
          exact ⟨⟨k+1,k,by go_num,rfl,by omega,HX,HGW.out _ _⟩,by simp [intOf];omega⟩
       · as_aux_lemma=>
          have hgtI:¬ (kn':Int)<(kn:Int):=by omega
          have hgtD:decide ((kn':Int)<(kn:Int))=false:=by simp;omega
          have hgtE:decide (kn'<kn)=false:=by simp;omega
          have HX:Hid ((bi:Int)=nxtK rs d l (k+1)):=by rw [HNY.out,if_neg (by simp;omega)];rfl
          clear HNY
          go_wp2
          refine wp_region_quiet_grown mixed (by kernel_rfl) ?_
          repeat (go_big_quiet_step ((go_at_call 80;exact grown_of (HC.out _ _))))
          refine wpQuiet_nil ?_
          intro _ hw'
          obtain ⟨⟨nq,osq⟩,hw''⟩:=hw'
          subst hw''
          go_wp2
          exact ⟨⟨k+1,bi,by go_num,rfl,by omega,HX,HGW.out _ _⟩,by simp [intOf];omega⟩
  · as_aux_lemma=>
     have hge:¬ (k:Int)<(n:Int):=by omega
     have HQ:Hid (b=R):=by
      have:k=n:=by omega
      rw [HB.out,this];exact HR.out
     clear HB
     go_wp2
     go_ret
     exact ⟨by rw [HQ.out];rfl,HGA.out.trans hG⟩
structure Stp where
 (r d l t a b:Int)
def stepL (rs:List Rl) (l:List Int) (x:Stp):List Int:=
 if x.r<0 then l.drop 1 else match rs[x.r.toNat]? with
 | none=>[]
 | some r=>(backP r).map (wrt r.key (l.take x.t.toNat))++l.drop x.t.toNat
def OkStp (rs:List Rl) (l:List Int) (x:Stp):Prop:=
 (x.r = -1∧x.t=1∧x.a=1∧0<l.length)∨∃ (i:Nat) (hi:i<rs.length),x.r=i∧x.t=rs[i].key.length∧rs[i].key.length≤l.length∧layB rs[i] (l.take rs[i].key.length)=true∧x.a=rs[i].cu
def AllU (l:List Int):Prop:=∀ u∈l,wd u≠0
theorem AllU.append {l k:List Int} (h:AllU l) (h2:AllU k):AllU (l++k):=fun u hu=>(List.mem_append.1 hu).elim (h u) (h2 u)
theorem stepL_rule {rs:List Rl} {l:List Int} {x:Stp} {i:Nat} (hi:i<rs.length) (h1:x.r=i) (h2:x.t=rs[i].key.length):stepL rs l x=(backP rs[i]).map (wrt rs[i].key (l.take rs[i].key.length))++l.drop rs[i].key.length:=by
 unfold stepL
 rw [if_neg (by omega),h1,h2]
 simp [hi]
theorem back_units {r:Rl} {us:List Int} (hl:layB r us=true):AllU ((backP r).map (wrt r.key us)):=fun u hu=>by
 obtain ⟨p,hp,rfl⟩:=List.mem_map.1 hu
 exact (wr_any hl (List.mem_of_mem_drop hp)).w
theorem OkStp.light {rs:List Rl} {st:St} (h:Fin rs st) {l:List Int} {x:Stp} (hx:OkStp rs l x):wS rs st (stepL rs l x)+1≤wS rs st l:=by
 rcases hx with ⟨h1,h2,h3,h4⟩ | ⟨i,hi,h1,h2,h3,h4,h5⟩
 · unfold stepL
   rw [if_pos (by omega)]
   match l,h4 with
   | u::l,_=>
    rw [List.drop_one,List.tail_cons,wS]
    have:=(h.wK_in u).1
    omega
 · rw [stepL_rule hi h1 h2,wS_append]
   have:=h.light hi h4
   have e:wS rs st l=wS rs st (l.take rs[i].key.length)+wS rs st (l.drop rs[i].key.length):=by rw [←wS_append,List.take_append_drop]
   omega
theorem OkStp.units {rs:List Rl} {l:List Int} {x:Stp} (hx:OkStp rs l x) (hu:AllU l):AllU (stepL rs l x):=by
 rcases hx with ⟨h1,h2,h3,h4⟩ | ⟨i,hi,h1,h2,h3,h4,h5⟩
 · unfold stepL
   rw [if_pos (by omega)]
   exact fun u h=>hu u (List.mem_of_mem_drop h)
 · rw [stepL_rule hi h1 h2]
   exact (back_units h4).append fun u h=>hu u (List.mem_of_mem_drop h)
def lft (rs:List Rl) (l:List Int) (xs:List Stp):List Int:=xs.foldl (stepL rs) l
theorem lft_snoc (rs:List Rl) (l:List Int) (xs:List Stp) (x:Stp):lft rs l (xs++[x])=stepL rs (lft rs l xs) x:=by simp [lft]
def GoOk (rs:List Rl) (l:List Int) (xs:List Stp):Prop:=∀ (i:Nat) (h:i<xs.length),OkStp rs (lft rs l (xs.take i)) xs[i]
theorem GoOk.nil (rs:List Rl) (l:List Int):GoOk rs l []:=fun i h=>by simp at h
theorem GoOk.snoc {rs:List Rl} {l:List Int} {xs:List Stp} {x:Stp} (h:GoOk rs l xs) (hx:OkStp rs (lft rs l xs) x):GoOk rs l (xs++[x]):=fun i hi=>by
 by_cases e:i<xs.length
 · have:=h i e
   rw [List.take_append_of_le_length (by omega),List.getElem_append_left e]
   exact this
 · have e2:i=xs.length:=by rw [List.length_append,List.length_singleton] at hi;omega
   subst e2
   simpa using hx
theorem lft_succ (rs:List Rl) (l:List Int) (xs:List Stp) {i:Nat} (h:i<xs.length):lft rs l (xs.take (i+1))=stepL rs (lft rs l (xs.take i)) xs[i]:=by
 rw [List.take_add_one,List.getElem?_eq_getElem h]
 exact lft_snoc rs l _ _
theorem GoOk.weight {rs:List Rl} {st:St} (hF:Fin rs st) {l:List Int} {xs:List Stp} (h:GoOk rs l xs):∀ i,i≤xs.length→(i:Int)+wS rs st (lft rs l (xs.take i))≤wS rs st l
 | 0,_=>by simp [lft]
 | i+1,hi=>by
  have ih:=h.weight hF i (by omega)
  have:=(h i (by omega)).light hF
  rw [lft_succ rs l xs (by omega)]
  omega
theorem wS_len {rs:List Rl} {st:St} (h:Fin rs st):∀ l:List Int,(l.length:Int)≤wS rs st l∧wS rs st l≤64*l.length
 | []=>by simp [wS]
 | u::l=>by
  have:=wS_len h l
  have:=h.wK_in u
  rw [wS,List.length_cons]
  omega
def sumA:List Stp→Int
 | []=>0
 | x::l=>x.a+sumA l
theorem sumA_snoc (l:List Stp) (x:Stp):sumA (l++[x])=sumA l+x.a:=by
 induction l with
 | nil=>simp [sumA]
 | cons y l ih=>simp only [List.cons_append,sumA,ih];omega
theorem nextS_ok {rs:List Rl} (hc:∀ r∈rs,chk r=0) (d:List Int) {l:List Int} (hl:0<l.length) :
 (nxtK rs d l rs.length = -1∧OkStp rs l ⟨-1,d.length,l.length,1,1,0⟩)∨∃ (i:Nat) (hi:i<rs.length),nxtK rs d l rs.length=i∧rs[i].key.length≤l.length∧layB rs[i] (l.take rs[i].key.length)=true∧OkStp rs l ⟨i,d.length,l.length,rs[i].key.length,rs[i].cu,(backP rs[i]).length⟩:=by
 rcases nxtK_is rs d l rs.length (Nat.le_refl _) with h | ⟨i,hi,_,h1,h2⟩
 · exact .inl ⟨h,.inl ⟨rfl,rfl,rfl,hl⟩⟩
 · have h3:=stF_key h2
   have h4:layB rs[i] (l.take rs[i].key.length)=true:=by
    simp only [layB,Bool.and_eq_true,decide_eq_true_eq]
    exact ⟨hc _ (List.getElem_mem hi),h3.2⟩
   exact .inr ⟨i,hi,h1,h3.1,h4,.inr ⟨i,hi,rfl,rfl,h3.1,h4,rfl⟩⟩
def ruleN (rs:List Rl) (d l:List Int):Option Rl:=if nxtK rs d l rs.length<0 then none else rs[(nxtK rs d l rs.length).toNat]?
def stp (rs:List Rl) (d l:List Int):Stp:=match ruleN rs d l with
 | none=>⟨-1,d.length,l.length,1,1,0⟩
 | some r=>⟨nxtK rs d l rs.length,d.length,l.length,r.key.length,r.cu,(backP r).length⟩
def layd (rs:List Rl) (d l:List Int):List Int:=match ruleN rs d l with
 | none=>l.take 1
 | some r=>(outs r (l.take r.key.length)).take r.cu.toNat
def lefd (rs:List Rl) (d l:List Int):List Int:=match ruleN rs d l with
 | none=>l.drop 1
 | some r=>(outs r (l.take r.key.length)).drop r.cu.toNat++l.drop r.key.length
def go3 (rs:List Rl) (l0:List Int):Nat→List Stp × List Int × List Int
 | 0=>([],[],l0)
 | k+1=>if (go3 rs l0 k).2.2=[] then go3 rs l0 k else ((go3 rs l0 k).1++[stp rs (go3 rs l0 k).2.1 (go3 rs l0 k).2.2],(go3 rs l0 k).2.1++layd rs (go3 rs l0 k).2.1 (go3 rs l0 k).2.2,lefd rs (go3 rs l0 k).2.1 (go3 rs l0 k).2.2)
def G3 (rs:List Rl) (l0:List Int) (xs:List Stp) (d l:List Int):Prop:=go3 rs l0 xs.length=(xs,d,l)
theorem G3.nil (rs:List Rl) (l0:List Int):G3 rs l0 [] [] l0:=rfl
theorem G3.snoc {rs:List Rl} {l0:List Int} {xs:List Stp} {d l:List Int} (h:G3 rs l0 xs d l) (hl:l≠[]):G3 rs l0 (xs++[stp rs d l]) (d++layd rs d l) (lefd rs d l):=by
 unfold G3 at h ⊢
 rw [List.length_append,List.length_singleton,go3,h]
 simp only []
 rw [if_neg hl]
theorem go3_stay {rs:List Rl} {l0:List Int} {k:Nat} (h:(go3 rs l0 k).2.2=[]):∀ m,go3 rs l0 (k+m)=go3 rs l0 k
 | 0=>rfl
 | m+1=>by
  have ih:=go3_stay h m
  rw [←Nat.add_assoc,go3,ih,if_pos h]
theorem G3.one {rs:List Rl} {l0:List Int} {xs xs':List Stp} {d d':List Int} (h:G3 rs l0 xs d []) (h':G3 rs l0 xs' d' []):xs=xs'∧d=d':=by
 unfold G3 at h h'
 have key:∀ (a b:Nat),a≤b→(go3 rs l0 a).2.2=[]→go3 rs l0 b=go3 rs l0 a:=fun a b hab h0=>by
  have:=go3_stay h0 (b - a)
  rwa [show a+(b - a)=b by omega] at this
 have e:(xs,d,([]:List Int))=(xs',d',[]):=by
  rcases Nat.le_total xs.length xs'.length with hl | hl
  · have:=key _ _ hl (by rw [h])
    rw [h,h'] at this
    exact this.symm
  · have:=key _ _ hl (by rw [h'])
    rw [h,h'] at this
    exact this
 injection e with e1 e2
 injection e2 with e2 _
 exact ⟨e1,e2⟩
theorem ruleN_is {rs:List Rl} (d l:List Int):(ruleN rs d l=none∧nxtK rs d l rs.length = -1)∨∃ (i:Nat) (hi:i<rs.length),nxtK rs d l rs.length=i∧ruleN rs d l=some rs[i]:=by
 rcases nxtK_is rs d l rs.length (Nat.le_refl _) with h | ⟨i,hi,_,h1,_⟩
 · exact .inl ⟨by unfold ruleN;rw [if_pos (by omega)],h⟩
 · exact .inr ⟨i,hi,h1,by unfold ruleN;rw [if_neg (by omega),h1];simp [hi]⟩
theorem stp_none {rs:List Rl} {d l:List Int} (h:nxtK rs d l rs.length = -1):stp rs d l=⟨-1,d.length,l.length,1,1,0⟩∧layd rs d l=l.take 1∧lefd rs d l=l.drop 1:=by
 have e:ruleN rs d l=none:=by unfold ruleN;rw [if_pos (by omega)]
 unfold stp layd lefd
 rw [e]
 exact ⟨rfl,rfl,rfl⟩
theorem stp_rule {rs:List Rl} {d l:List Int} {i:Nat} (hi:i<rs.length) (h:nxtK rs d l rs.length=i):stp rs d l=⟨i,d.length,l.length,rs[i].key.length,rs[i].cu,(backP rs[i]).length⟩∧layd rs d l=(outs rs[i] (l.take rs[i].key.length)).take rs[i].cu.toNat∧lefd rs d l=(outs rs[i] (l.take rs[i].key.length)).drop rs[i].cu.toNat++l.drop rs[i].key.length:=by
 have e:ruleN rs d l=some rs[i]:=by unfold ruleN;rw [if_neg (by omega),h];simp [hi]
 unfold stp layd lefd
 rw [e,h]
 exact ⟨rfl,rfl,rfl⟩
structure G3K (rs:List Rl) (l0:List Int) (k:Nat) (p:List Stp × List Int × List Int):Prop where
 ok:GoOk rs l0 p.1
 lf:lft rs l0 p.1=p.2.2
 dn:(p.2.1.length:Int)=sumA p.1
 d16:p.2.1.length≤16*p.1.length
 un:AllU l0→AllU p.2.2∧AllU p.2.1
 k:p.1.length=k∨p.1.length≤k∧p.2.2=[]
theorem stp_ok {rs:List Rl} (hc:∀ r∈rs,chk r=0) (d:List Int) {l:List Int} (hl:l≠[]):OkStp rs l (stp rs d l)∧stepL rs l (stp rs d l)=lefd rs d l∧(layd rs d l).length=(stp rs d l).a∧(layd rs d l).length≤16∧(AllU l→AllU (layd rs d l)):=by
 have hl0:=List.length_pos_iff.2 hl
 rcases nextS_ok hc d hl0 with ⟨h,hok⟩ | ⟨i,hi,h,h2,h3,hok⟩
 · obtain ⟨e1,e2,e3⟩:=stp_none h
   rw [e1,e2,e3]
   refine ⟨hok,by unfold stepL;rw [if_pos (show (-1:Int)<0 by decide)],by simp;omega,by simp;omega,fun hu u h=>hu u (List.mem_of_mem_take h)⟩
 · obtain ⟨e1,e2,e3⟩:=stp_rule hi h
   rw [e1,e2,e3]
   have hO:=chk_ok (hc _ (List.getElem_mem hi))
   have ho:(outs rs[i] (l.take rs[i].key.length)).length=rs[i].res.length:=by simp [outs]
   have q1:=hO.r16
   have q2:=hO.c0
   have q3:=hO.c1
   have e4:((outs rs[i] (l.take rs[i].key.length)).take rs[i].cu.toNat).length=rs[i].cu.toNat:=by rw [List.length_take,ho];omega
   refine ⟨hok,?_,by rw [e4];show _=rs[i].cu;omega,by rw [e4];omega,fun hu u h => ?_⟩
   · rw [stepL_rule hi rfl rfl]
     simp [outs,backP,List.map_drop]
   · obtain ⟨p,hp,rfl⟩:=List.mem_map.1 (List.mem_of_mem_take h)
     exact (wr_any h3 hp).w
theorem go3_ok {rs:List Rl} (hc:∀ r∈rs,chk r=0) (l0:List Int):∀ k,G3K rs l0 k (go3 rs l0 k)
 | 0=>⟨GoOk.nil _ _,rfl,rfl,by simp [go3],fun h=>⟨h,fun u hu=>by simp [go3] at hu⟩,.inl rfl⟩
 | k+1=>by
  have ih:=go3_ok hc l0 k
  rw [go3]
  by_cases hl:(go3 rs l0 k).2.2=[]
  · rw [if_pos hl]
    exact ⟨ih.ok,ih.lf,ih.dn,ih.d16,ih.un,.inr ⟨by rcases ih.k with h | h <;> omega,hl⟩⟩
  · rw [if_neg hl]
    obtain ⟨h1,h2,h3,h4,h5⟩:=stp_ok hc (go3 rs l0 k).2.1 hl
    have hk:(go3 rs l0 k).1.length=k:=ih.k.resolve_right fun h=>hl h.2
    refine ⟨ih.ok.snoc (by rw [ih.lf];exact h1),by rw [lft_snoc,ih.lf];exact h2,?_,?_,fun hu => ?_,.inl (by simp [hk])⟩
    · have:=ih.dn
      rw [sumA_snoc,List.length_append]
      omega
    · have:=ih.d16
      simp only [List.length_append,List.length_singleton]
      omega
    · have:=ih.un hu
      refine ⟨?_,this.2.append (h5 this.1)⟩
      show AllU (lefd rs _ _)
      rw [←h2]
      exact h1.units this.1
theorem G3.k {rs:List Rl} (hc:∀ r∈rs,chk r=0) {l0:List Int} {xs:List Stp} {d l:List Int} (h:G3 rs l0 xs d l):G3K rs l0 xs.length (xs,d,l):=by
 have:=go3_ok hc l0 xs.length
 unfold G3 at h
 rwa [h] at this
theorem G3.lens {rs:List Rl} {st:St} (hF:Fin rs st) (hc:∀ r∈rs,chk r=0) {l0:List Int} {xs:List Stp} {d l:List Int} (h:G3 rs l0 xs d l):(xs.length:Int)+l.length≤wS rs st l0∧wS rs st l0≤64*l0.length∧d.length≤16*xs.length:=by
 have hk:=h.k hc
 have h1:=hk.ok.weight hF xs.length (Nat.le_refl _)
 have e:lft rs l0 (xs.take xs.length)=l:=by rw [List.take_length];exact hk.lf
 rw [e] at h1
 have h2:=(wS_len hF l0).2
 have h3:=(wS_len hF l).1
 exact ⟨by omega,h2,hk.d16⟩
def fin3 (rs:List Rl) (st:St) (l0:List Int):List Stp × List Int × List Int:=go3 rs l0 (wS rs st l0).toNat
theorem fin3_end {rs:List Rl} {st:St} (hF:Fin rs st) (hc:∀ r∈rs,chk r=0) (l0:List Int):(fin3 rs st l0).2.2=[]:=by
 unfold fin3
 have hk:=go3_ok hc l0 (wS rs st l0).toNat
 rcases hk.k with h | h
 · have h1:=hk.ok.weight hF _ (Nat.le_refl _)
   rw [List.take_length,hk.lf,h] at h1
   have h2:=(wS_len hF l0).1
   have h3:=(wS_len hF (go3 rs l0 (wS rs st l0).toNat).2.2).1
   exact List.eq_nil_of_length_eq_zero (by omega)
 · exact h.2
theorem go3_pre (rs:List Rl) (l0:List Int):∀ k m,(go3 rs l0 k).1 <+: (go3 rs l0 (k+m)).1
 | k,0=>List.prefix_refl _
 | k,m+1=>by
  refine (go3_pre rs l0 k m).trans ?_
  rw [←Nat.add_assoc,go3]
  split
  · exact List.prefix_refl _
  · exact List.prefix_append _ _
theorem fin3_G3 {rs:List Rl} {st:St} (hF:Fin rs st) (hc:∀ r∈rs,chk r=0) (l0:List Int):G3 rs l0 (fin3 rs st l0).1 (fin3 rs st l0).2.1 []:=by
 have he:=fin3_end hF hc l0
 have hk:=go3_ok hc l0 (wS rs st l0).toNat
 unfold G3
 have key:go3 rs l0 (fin3 rs st l0).1.length=fin3 rs st l0:=by
  have:∀ K,go3 rs l0 (go3 rs l0 K).1.length=go3 rs l0 K:=fun K=>by
   induction K with
   | zero=>rfl
   | succ K ih=>
    by_cases hl:(go3 rs l0 K).2.2=[]
    · have e:go3 rs l0 (K+1)=go3 rs l0 K:=by rw [go3,if_pos hl]
      rw [e,ih]
    · have hK:=(go3_ok hc l0 K).k.resolve_right fun h=>hl h.2
      have e:(go3 rs l0 (K+1)).1.length=K+1:=by rw [go3,if_neg hl];simp [hK]
      rw [e]
  exact this _
 rw [key]
 rcases hX:fin3 rs st l0 with ⟨a,b,c⟩
 rw [hX] at he
 simp only at he
 rw [he]
theorem G3.prefix {rs:List Rl} {l0:List Int} {xs xf:List Stp} {d l df:List Int} (h:G3 rs l0 xs d l) (hf:G3 rs l0 xf df []):xs=xf.take xs.length:=by
 unfold G3 at h hf
 rcases Nat.le_total xs.length xf.length with h1 | h1
 · have hp:=go3_pre rs l0 xs.length (xf.length - xs.length)
   rw [show xs.length+(xf.length - xs.length)=xf.length by omega,hf,h] at hp
   exact List.prefix_iff_eq_take.1 hp
 · have:=go3_stay (rs:=rs) (l0:=l0) (k:=xf.length) (by rw [hf]) (xs.length - xf.length)
   rw [show xf.length+(xs.length - xf.length)=xs.length by omega,h,hf] at this
   injection this with e _
   rw [e];simp
theorem beg_of_fit {r:Rl} {u:Int} {dn lr:List Int} (h:fitsB r dn (u::lr)=true):fitsB (key1 r) [] [u]=true:=by
 unfold fitsB at h
 rw [Bool.and_eq_true,decide_eq_true_iff] at h
 obtain ⟨h1,h2⟩:=h
 have hO:=chk_ok h1
 unfold fitB at h2
 rw [Bool.and_eq_true] at h2
 have hk:=hO.k0
 have hS:=hO.kS
 cases hke:r.key with
 | nil=>rw [hke] at hk;simp at hk
 | cons s ks=>
  rw [hke] at h2 hS
  have h3:=h2.1
  rw [List.cons_append] at h3
  unfold stU at h3
  rw [Bool.and_eq_true] at h3
  rw [List.all_cons,Bool.and_eq_true] at hS
  have hc:chk (key1 r)=0:=by
   unfold chk key1
   simp [hke,hS.1,fstE]
  unfold fitsB fitB
  rw [hc]
  simp [key1,hke,stU,h3.1]
theorem begF_fit {rs:List Rl} {u:Int} {dn lr:List Int} (n:Int):(begF rs u n && fitN rs dn (u::lr) n)=fitN rs dn (u::lr) n:=by
 unfold begF fitN
 cases rs[n.toNat]? with
 | none=>rfl
 | some r=>
  cases hf:fitsB r dn (u::lr) with
  | false=>simp [hf]
  | true=>simp [hf,beg_of_fit hf]
theorem nxtW_eq (rs:List Rl) (d dn:List Int) (u:Int) (lr:List Int):nxtW rs d dn (u::lr)=(d.find? (fitN rs dn (u::lr))).getD (-1):=by
 unfold nxtW begL
 rw [List.find?_filter]
 have e:(fun a=>decide (begF rs ((u::lr).headD 0) a=true∧fitN rs dn (u::lr) a=true))=fitN rs dn (u::lr):=by
  funext n
  have:=begF_fit (rs:=rs) (u:=u) (dn:=dn) (lr:=lr) n
  refine Eq.trans ?_ this
  rw [Bool.decide_and,Bool.decide_eq_true,Bool.decide_eq_true]
  rfl
 rw [e]
theorem pig:∀ (n:Nat) (f:Nat→Nat),(∀ i,i<n→f i<n)→(∀ i j,i<j→j<n→f i≠f j)→∀ m,m<n→∃ i,i<n∧f i=m
 | 0,_,_,_,m,hm=>by omega
 | n+1,f,h1,h2,m,hm=>by
  have ih:=pig n (fun i=>if f i=n then f n else f i) (fun i hi=>by
   have a:=h1 i (by omega)
   have b:=h1 n (by omega)
   have c:=h2 i n hi (by omega)
   show (if f i=n then f n else f i)<n
   split <;> omega) (fun i j hij hj=>by
   have a:=h2 i j hij (by omega)
   have b:=h2 i n (by omega) (by omega)
   have c:=h2 j n hj (by omega)
   show (if f i=n then f n else f i)≠(if f j=n then f n else f j)
   split <;> split <;> omega)
  by_cases hmn:m=n
  · by_cases hp:f n=n
    · exact ⟨n,by omega,by omega⟩
    · obtain ⟨i,hi,he⟩:=ih (f n) (by have:=h1 n (by omega);omega)
      have c:=h2 i n hi (by omega)
      have he:(if f i=n then f n else f i)=f n:=he
      split at he
      · rename_i h;exact ⟨i,by omega,by omega⟩
      · exact absurd he c
  · obtain ⟨i,hi,he⟩:=ih m (by omega)
    have he:(if f i=n then f n else f i)=m:=he
    split at he
    · exact ⟨n,by omega,he⟩
    · exact ⟨i,by omega,he⟩
theorem bAt_in {d:List Int} {i:Nat} (h:i<d.length):bAt d i=d[i]:=by simp [bAt,h]
theorem ord_all {key:Int→Int} {d:List Int} {n:Nat} (h:Sg key d 0 n) (m:Nat) (hm:m<n):∃ i,i<n∧bAt d i=(m:Int):=by
 obtain ⟨i,hi,he⟩:=pig n (fun i=>(bAt d i).toNat) (fun i hi=>by have:=h.r i (Nat.zero_le _) hi;show (bAt d i).toNat<n;omega) (fun i j hij hj=>by
  have a:=h.s i j (Nat.zero_le _) hij hj
  have b:=h.r i (Nat.zero_le _) (by omega)
  have c:=h.r j (Nat.zero_le _) hj
  show (bAt d i).toNat≠(bAt d j).toNat
  intro e
  have e2:bAt d i=bAt d j:=by omega
  unfold lt at a
  rw [e2] at a
  omega) m hm
 have b:=h.r i (Nat.zero_le _) hi
 have he:(bAt d i).toNat=m:=he
 exact ⟨i,hi,by omega⟩
theorem fitN_at {rs:List Rl} {dn lf:List Int} {j:Nat} (hj:j<rs.length) (hc:chk rs[j]=0):fitN rs dn lf (j:Int)=fitB rs[j] dn lf:=by
 unfold fitN
 rw [Int.toNat_natCast,List.getElem?_eq_getElem hj]
 simp [fitsB,hc]
theorem nxt_best {rs:List Rl} {d dn lf:List Int} (h:Sg (klI rs) d 0 rs.length) (hl:d.length=rs.length) (hall:(allE rs).2=0) (hck:∀ r∈rs,chk r=0):(d.find? (fitN rs dn lf)).getD (-1)=fdF rs dn lf:=by
 obtain ⟨m,hB⟩:=fdF_best dn lf hall
 have hfit:∀ (j:Nat) (hj:j<rs.length),fitN rs dn lf (j:Int)=fitB rs[j] dn lf:=fun j hj=>fitN_at hj (hck _ (List.getElem_mem hj))
 cases hf:d.find? (fitN rs dn lf) with
 | none=>
  have hno:=List.find?_eq_none.1 hf
  rcases hB with ⟨e,_⟩ | ⟨j,hj,_,_,hfj,_⟩
  · injection e with e _
    rw [e];rfl
  · obtain ⟨i,hi,he⟩:=ord_all h j hj
    rw [bAt_in (by omega)] at he
    have:=hno d[i] (List.getElem_mem (by omega))
    rw [he,hfit j hj] at this
    exact absurd hfj this
 | some x=>
  obtain ⟨hx,aa,bs,hd,has⟩:=List.find?_eq_some_iff_append.1 hf
  have hk:aa.length<d.length:=by rw [hd];simp
  have hdk:bAt d aa.length=x:=by rw [bAt_in hk];simp [hd]
  have hr:=h.r aa.length (Nat.zero_le _) (by omega)
  rw [hdk] at hr
  obtain ⟨j,rfl⟩:∃ j:Nat,x=(j:Int):=⟨x.toNat,by omega⟩
  have hj:j<rs.length:=by omega
  rw [hfit j hj] at hx
  rcases hB with ⟨_,hno⟩ | ⟨j',hj',_,e,hfj',hmax⟩
  · rw [hno j hj hj] at hx;cases hx
  · injection e with e _
    rw [e]
    show (j:Int)=(j':Int)
    obtain ⟨i,hi,he⟩:=ord_all h j' hj'
    by_cases hik:i<aa.length
    · have hmem:d[i]'(by omega)∈aa:=by
       have:d[i]'(by omega)=aa[i]:=by simp [hd,hik]
       rw [this]
       exact List.getElem_mem hik
      have:=has _ hmem
      rw [bAt_in (by omega)] at he
      rw [he,hfit j' hj',hfj'] at this
      cases this
    · by_cases hik2:i=aa.length
      · subst hik2;rw [←hdk,he]
      · have hlt:=h.s aa.length i (Nat.zero_le _) (by omega) hi
        rw [hdk,he] at hlt
        unfold lt at hlt
        rw [kl_at hj,kl_at hj'] at hlt
        have:=hmax j hj hj hx
        omega
theorem stB_iff:∀ (ls:List (List (Int × Int))) (us:List Int),stB ls us=true↔ls.length=us.length∧∀ (i:Nat) (s:List (Int × Int)) (u:Int),ls[i]? = some s→us[i]? = some u→hasB s u=true
 | [],[]=>by simp [stB]
 | [],u::us=>by simp [stB]
 | s::ls,[]=>by simp [stB]
 | s::ls,u::us=>by
  have e:stB (s::ls) (u::us)=(hasB s u && stB ls us):=by
   unfold stB
   simp only [List.length_cons,List.zip_cons_cons,List.all_cons,Nat.add_right_cancel_iff]
   cases decide (ls.length=us.length) <;> cases hasB s u <;> simp
  rw [e,Bool.and_eq_true,stB_iff ls us]
  constructor
  · rintro ⟨h1,h2,h3⟩
    refine ⟨by simp [h2],fun i a b ha hb => ?_⟩
    cases i with
    | zero=>simp at ha hb;subst ha hb;exact h1
    | succ i=>exact h3 i a b (by simpa using ha) (by simpa using hb)
  · rintro ⟨h1,h2⟩
    exact ⟨h2 0 s u rfl rfl,by simpa using h1,fun i a b ha hb=>h2 (i+1) a b (by simpa using ha) (by simpa using hb)⟩
theorem stU_iff:∀ (ss:List (List (Int × Int))) (us:List Int) (al:Bool),stU us ss al=true↔ss.length≤us.length∧(∀ (i:Nat) (s:List (Int × Int)) (u:Int),ss[i]? = some s→us[i]? = some u→hasB s u=true)∧(al=true→us.length≤ss.length)
 | [],us,al=>by
  rw [stU_end]
  cases us <;> cases al <;> simp
 | s::ss,[],al=>by simp [stU_none]
 | s::ss,u::us,al=>by
  rw [stU_cons,Bool.and_eq_true,stU_iff ss us al]
  constructor
  · rintro ⟨h1,h2,h3,h4⟩
    refine ⟨by simpa using h2,fun i a b ha hb => ?_,fun h=>by simpa using h4 h⟩
    cases i with
    | zero=>simp at ha hb;subst ha hb;exact h1
    | succ i=>exact h3 i a b (by simpa using ha) (by simpa using hb)
  · rintro ⟨h1,h2,h3⟩
    exact ⟨h2 0 s u rfl rfl,by simpa using h1,fun i a b ha hb=>h2 (i+1) a b (by simpa using ha) (by simpa using hb),fun h=>by simpa using h3 h⟩
theorem stF_fit (r:Rl) (d l:List Int):stF r d l=fitB r d l:=by
 rw [Bool.eq_iff_iff]
 unfold fitB stF
 rw [Bool.and_eq_true,stU_iff,stU_iff,List.length_append,List.length_reverse,List.length_reverse]
 by_cases h1:l.length<r.key.length+r.post.length∨d.length<r.ante.length
 · rw [if_pos h1]
   constructor
   · intro h;cases h
   · rintro ⟨⟨a,_⟩,b,_⟩;omega
 · rw [if_neg h1]
   by_cases h2:(r.bg=true∧r.ante.length<d.length)∨(r.en=true∧r.key.length+r.post.length<l.length)
   · rw [if_pos h2]
     constructor
     · intro h;cases h
     · rintro ⟨⟨_,_,a⟩,_,_,b⟩
       rcases h2 with ⟨e,h⟩ | ⟨e,h⟩
       · have:=b e;omega
       · have:=a e;omega
   · rw [if_neg h2,Bool.and_eq_true,Bool.and_eq_true,stB_iff,stB_iff,stB_iff]
     have hl1:r.key.length+r.post.length≤l.length:=by omega
     have hd1:r.ante.length≤d.length:=by omega
     constructor
     · rintro ⟨⟨⟨_,hk⟩,⟨_,hp⟩⟩,⟨_,ha⟩⟩
       refine ⟨⟨hl1,fun i s u hs hu => ?_,fun e => ?_⟩,hd1,fun i s u hs hu => ?_,fun e => ?_⟩
       · by_cases hi:i<r.key.length
         · rw [List.getElem?_append_left hi] at hs
           exact hk i s u hs (by rw [List.getElem?_take,if_pos hi];exact hu)
         · rw [List.getElem?_append_right (by omega)] at hs
           have hip:=(List.getElem?_eq_some_iff.1 hs).1
           refine hp (i - r.key.length) s u hs ?_
           rw [List.getElem?_take,if_pos hip,List.getElem?_drop,show r.key.length+(i - r.key.length)=i by omega]
           exact hu
       · rcases Nat.lt_or_ge (r.key.length+r.post.length) l.length with h | h
         · exact absurd (.inr ⟨e,h⟩) h2
         · exact h
       · have hi:i<r.ante.length:=by have:=(List.getElem?_eq_some_iff.1 hs).1;simpa using this
         rw [List.getElem?_reverse hi] at hs
         rw [List.getElem?_reverse (by omega)] at hu
         refine ha (r.ante.length - 1 - i) s u hs ?_
         rw [List.getElem?_drop,show d.length - r.ante.length+(r.ante.length - 1 - i)=d.length - 1 - i by omega]
         exact hu
       · rcases Nat.lt_or_ge r.ante.length d.length with h | h
         · exact absurd (.inl ⟨e,h⟩) h2
         · exact h
     · rintro ⟨⟨_,hk,_⟩,_,ha,_⟩
       refine ⟨⟨⟨by rw [List.length_take];omega,fun i s u hs hu => ?_⟩,⟨by rw [List.length_take,List.length_drop];omega,fun i s u hs hu => ?_⟩⟩,⟨by rw [List.length_drop];omega,fun i s u hs hu => ?_⟩⟩
       · have hi:=(List.getElem?_eq_some_iff.1 hs).1
         rw [List.getElem?_take,if_pos hi] at hu
         exact hk i s u (by rw [List.getElem?_append_left hi];exact hs) hu
       · have hi:=(List.getElem?_eq_some_iff.1 hs).1
         rw [List.getElem?_take,if_pos hi,List.getElem?_drop] at hu
         exact hk (r.key.length+i) s u (by rw [List.getElem?_append_right (by omega),show r.key.length+i - r.key.length=i by omega];exact hs) hu
       · have hi:=(List.getElem?_eq_some_iff.1 hs).1
         rw [List.getElem?_drop] at hu
         refine ha (r.ante.length - 1 - i) s u ?_ ?_
         · rw [List.getElem?_reverse (by omega),show r.ante.length - 1 - (r.ante.length - 1 - i)=i by omega];exact hs
         · rw [List.getElem?_reverse (by omega),show d.length - 1 - (r.ante.length - 1 - i)=d.length - r.ante.length+i by omega];exact hu
theorem nxtK_fd {rs:List Rl} (d l:List Int) (hO:∀ r∈rs,0<r.key.length):∀ k,k≤rs.length→nxtK rs d l k=(fdK rs d l k).1
 | 0,_=>rfl
 | k+1,hk=>by
  have hkl:k<rs.length:=hk
  have h0:=hO _ (List.getElem_mem hkl)
  have e:kl rs (k:Int)=rs[k].key.length:=by simp [kl,hkl]
  rw [nxtK,fdK_succ d l hkl,nxtK_fd d l hO k (by omega),List.getElem?_eq_getElem hkl,e]
  have hs:(((some rs[k]).map fun r=>stF r d l).getD false)=fitB rs[k] d l:=stF_fit _ _ _
  rw [hs]
  rcases fdK_best d l hO k (by omega) with ⟨e1,_⟩ | ⟨j,hj,_,e1,_⟩
  · rw [e1]
    by_cases hf:fitB rs[k] d l=true
    · rw [if_pos ⟨hf,.inl (by decide)⟩,if_pos ⟨h0,hf⟩]
    · rw [if_neg (fun h=>hf h.1),if_neg (fun h=>hf h.2)]
  · rw [e1]
    have ej:kl rs (j:Int)=rs[j].key.length:=by simp [kl,hj]
    simp only [ej]
    by_cases hf:fitB rs[k] d l=true∧rs[j].key.length<rs[k].key.length
    · rw [if_pos ⟨hf.1,.inr hf.2⟩,if_pos ⟨hf.2,hf.1⟩]
    · rw [if_neg,if_neg]
      · exact fun h=>hf ⟨h.2,h.1⟩
      · rintro ⟨h1,h2 | h2⟩
        · omega
        · exact hf ⟨h1,h2⟩
end Go.Proofs
