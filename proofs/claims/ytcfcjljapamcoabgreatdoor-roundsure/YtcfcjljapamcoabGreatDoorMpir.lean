/-
  Several texts in one (Y2r Y3r).
-/
import Derived.Test.YtcfcjljapamcoabGreatDoorMphr
namespace Go.Proofs
open Go.RowKit Go.Shelf
set_option maxRecDepth 100000
attribute [local go_sem] Oper.semAt_some
def Bdr (x:Int × Int):Prop:=x.1≤x.2∧0≤x.1∧x.2≤2000000
theorem Whole.bd {x:Int × Int} (h:Whole x):Bdr x:=by
 unfold Whole at h
 exact ⟨h.1,by omega,by omega⟩
def addS (c:Int→Int) (l:List (Int × Int)) (t:Int):Int→Int:=l.foldl (fun c x=>addC (addC c x.1 t) (x.2+1) (-t)) c
theorem addS_succ (c:Int→Int) (l:List (Int × Int)) (t:Int) {k:Nat} (hk:k<l.length):addS c (l.take (k+1)) t=addC (addC (addS c (l.take k) t) (rg l k).1 t) ((rg l k).2+1) (-t):=by
 unfold addS
 rw [List.take_succ_eq_append_getElem hk,List.foldl_append,rg_lt hk]
 rfl
theorem addC_bd {c:Int→Int} {N:Nat} (h:∀ k,-(N:Int)≤c k∧c k≤(N:Int)) {a b:Int} (hb : -1≤b∧b≤1):∀ k,-((N+1:Nat):Int)≤addC c a b k∧addC c a b k≤((N+1:Nat):Int):=fun k=>by
 have:=h k
 unfold addC
 split <;> omega
theorem addS_bd {c:Int→Int} {N:Nat} (h:∀ k,-(N:Int)≤c k∧c k≤(N:Int)) {l:List (Int × Int)} {t:Int} (ht : -1≤t∧t≤1):∀ n,n≤l.length→∀ k,-((N+2*n:Nat):Int)≤addS c (l.take n) t k∧addS c (l.take n) t k≤((N+2*n:Nat):Int)
 | 0,_=>by simpa [addS] using h
 | n+1,hn=>by
  rw [addS_succ c l t (show n<l.length by omega)]
  exact addC_bd (addC_bd (addS_bd h ht n (by omega)) ht) ⟨by omega,by omega⟩
set_option maxHeartbeats 2000000 in
theorem add_any (W:World) (m N:Nat) (c:Int→Int) (v:Value) (l:List (Int × Int)) (t:Int) (h:IMap W m N (cntF c)) (hl:l.length≤10000000) (hN:N≤500000000) (ht : -1≤t∧t≤1) (hb:∀ x∈l,Bdr x) (hR:∀ W',Tn m W W'→Rs W' v l) (hc:∀ k,-(N:Int)≤c k∧c k≤(N:Int)) :
 Calls Tryz.prog 33 #[.map (some m),v,.int .i64 t] W (TuQ m (N+2*l.length) (addS c l t) W):=by
 obtain ⟨n,hn⟩:∃ n,l.length=n:=⟨_,rfl⟩
 obtain ⟨a,cap,rfl,hcap,_⟩:=hR W (Tn.refl _ _)
 have hm:=h.lt
 have H:Hid (l.length=n∧(∀ x∈l,Bdr x)∧(∀ W',Tn m W W'→l=[]∨∃ g o,a=some ⟨g,o,none⟩∧Reads W' g o l)∧(∀ k,-(N:Int)≤c k∧c k≤(N:Int))∧m<W.heap.size):=⟨hn,hb,fun W' hT=>by
  obtain ⟨a2,c2,e,_,h3⟩:=hR W' hT
  injection e with e1 e2 e3
  subst e1
  exact h3,hc,hm⟩
 have H0:Hid (IMap W m N (cntF c)):=h
 have hwt:IntKind.i64.wrap (-t) = -t:=by rw [IntKind.wrap_i64];omega
 rw [hn] at hl ⊢
 clear h hb hR hc hn hm hcap
 go_enter Tryz.func33,Tryz.ntmps33
 go_wp2
 go_loopw [10] (fun vi wr=>∃ k:Nat,vi = .int .i64 k∧k≤n∧Hid (IMap wr m (N+2*k) (cntF (addS c (l.take k) t))∧Tn m W wr)) (fun vi _=>n - (intOf vi).toNat)
 case atStart=>exact ⟨0,rfl,by omega,by simpa [addS] using H0.out,Tn.refl _ _⟩
 case round=>
  obtain ⟨k,rfl,hk,HB⟩:=hrel
  by_cases hlt:k<n
  · have hlt':(k:Int)<(n:Int):=by omega
    have hpos:(0:Int)≤(k:Int):=by omega
    have hkl:k<l.length:=by rw [H.out.1];exact hlt
    obtain ⟨g,o,rfl,hR⟩:=(H.out.2.2.1 wr HB.out.2).resolve_left (by rintro rfl;simp at hkl)
    obtain ⟨p,q,hpq⟩:∃ p q:Int,rg l k=(p,q):=⟨_,_,rfl⟩
    obtain ⟨ca,cb⟩:=hR k hkl
    rw [hpq] at ca cb
    simp only at ca cb
    have hw:Bdr (p,q):=by rw [←hpq,rg_lt hkl];exact H.out.2.1 _ (List.getElem_mem hkl)
    obtain ⟨b1,b2,b3⟩:p≤q∧0≤p∧q≤2000000:=hw
    have HS:Hid (addS c (l.take (k+1)) t=addC (addC (addS c (l.take k) t) p t) (q+1) (-t)):=by
     have:=addS_succ c l t hkl
     rw [hpq] at this
     exact this
    have HC:Hid (∀ j,-((N+2*k:Nat):Int)≤addS c (l.take k) t j∧addS c (l.take k) t j≤((N+2*k:Nat):Int)):=addS_bd H.out.2.2.2.1 ht k (by have:=H.out.1;omega)
    have hkN:N+2*k≤900000000:=by omega
    have hmw:m<wr.heap.size:=Nat.lt_of_lt_of_le H.out.2.2.2.2 HB.out.2.size
    clear hpq hR
    go_wp2_with fail
    refine (turn_any _ m (N+2*k) _ p t (HB.out.1.kept fun ob ho=>by simpa using (Below.heap_alloc _ _ _ hmw).trans ho) (by omega) ⟨by omega,by omega⟩ ht HC.out).mono ?_
    rintro e w1 ⟨rfl,hI1,hT1⟩
    have H1:Hid (IMap w1 m (N+2*k+1) (cntF (addC (addS c (l.take k) t) p t))∧Tn m W w1):=⟨hI1,(HB.out.2.alloc (Nat.le_of_lt H.out.2.2.2.2) _).trans hT1⟩
    have cq:w1.cell? ⟨wr.heap.size,1,none⟩=some (.int .i64 q):=by
     have hbk:w1.heap[wr.heap.size]? = some (.cells #[.int .i64 p,.int .i64 q] 55 (0,0)):=(hT1.2 _ (by omega) (by simp)).trans (World.alloc_heap_new _ _)
     rw [cell_of hbk]
     rfl
    have hwq:IntKind.i64.wrap (q+1)=q+1:=by rw [IntKind.wrap_i64];omega
    clear hI1 HB hT1
    go_wp2_with fail
    refine (turn_any _ m (N+2*k+1) _ (q+1) (-t) H1.out.1 (by omega) ⟨by omega,by omega⟩ ⟨by omega,by omega⟩ (addC_bd HC.out ht)).mono ?_
    rintro e w2 ⟨rfl,hI2,hT2⟩
    have H2:Hid (IMap w2 m (N+2*(k+1)) (cntF (addS c (l.take (k+1)) t))∧Tn m W w2):=⟨by rw [HS.out];exact hI2,H1.out.2.trans hT2⟩
    clear hI2 hT2 H1 cq
    go_wp2
    exact ⟨⟨k+1,by go_num,by omega,H2⟩,by simp [intOf];omega⟩
  · have HF:Hid (IMap wr m (N+2*n) (cntF (addS c l t))∧Tn m W wr):=by
     have hrf:k=n:=by omega
     have:=HB.out
     rw [hrf,List.take_of_length_le (by rw [H.out.1];exact Nat.le_refl _)] at this
     exact this
    clear HB
    go_wp2
    refine bodyPost_end (results_none rfl _ _ _) rfl ?_
    exact ⟨rfl,HF.out⟩
end Go.Proofs
namespace Go.Proofs
open Go.RowKit Go.Shelf
def inR (x:Int × Int) (u:Int):Bool:=decide (x.1≤u) && decide (u≤x.2)
def inL (l:List (Int × Int)) (u:Int):Bool:=l.any (inR · u)
def cntL (l:List (Int × Int)) (u:Int):Int:=(l.filter (inR · u)).length
theorem cntL_nil (u:Int):cntL [] u=0:=rfl
theorem cntL_nonneg (l:List (Int × Int)) (u:Int):0≤cntL l u:=by unfold cntL;omega
theorem cntL_pos {l:List (Int × Int)} {u:Int} : 0<cntL l u↔inL l u=true:=by
 unfold cntL inL
 rw [List.any_eq_true]
 constructor
 · intro h
   obtain ⟨x,hx⟩:=List.exists_mem_of_length_pos (l:=l.filter (inR · u)) (by omega)
   exact ⟨x,(List.mem_filter.1 hx).1,(List.mem_filter.1 hx).2⟩
 · rintro ⟨x,hx,hu⟩
   have:=List.length_pos_of_mem (List.mem_filter.2 ⟨hx,hu⟩:x∈l.filter (inR · u))
   omega
def sumK (c:Int→Int) (ks:List Int) (x:Int):Int:=(ks.map fun k=>if k≤x then c k else 0).sum
theorem sumK_nil (c:Int→Int) (x:Int):sumK c [] x=0:=rfl
theorem sumK_cons (c:Int→Int) (k:Int) (ks:List Int) (x:Int):sumK c (k::ks) x=(if k≤x then c k else 0)+sumK c ks x:=by simp [sumK]
theorem sumK_perm (c:Int→Int) {a b:List Int} (h:a.Perm b) (x:Int):sumK c a x=sumK c b x:=by
 induction h with
 | nil=>rfl
 | cons k _ ih=>rw [sumK_cons,sumK_cons,ih]
 | swap a b l=>rw [sumK_cons,sumK_cons,sumK_cons,sumK_cons];omega
 | trans _ _ h1 h2=>rw [h1,h2]
structure Keys (c:Int→Int) (ks:List Int):Prop where
 nd:ks.Nodup
 all:∀ k,c k≠0→k∈ks
def Sums (c:Int→Int) (P:Int→Int):Prop:=(∃ ks,Keys c ks)∧∀ ks,Keys c ks→∀ x,sumK c ks x=P x
theorem sumK_addC_out {c:Int→Int} {ks:List Int} {a b:Int} (h:a ∉ ks) (x:Int):sumK (addC c a b) ks x=sumK c ks x:=by
 induction ks with
 | nil=>rfl
 | cons k ks ih=>
  have h1:k≠a:=fun e=>h (by rw [e];simp)
  rw [sumK_cons,sumK_cons,ih fun hm=>h (List.mem_cons_of_mem _ hm)]
  unfold addC
  rw [if_neg h1]
theorem sumK_addC {c:Int→Int} {ks:List Int} {a b:Int} (hn:ks.Nodup) (h:a∈ks) (x:Int):sumK (addC c a b) ks x=sumK c ks x+if a≤x then b else 0:=by
 induction ks with
 | nil=>cases h
 | cons k ks ih=>
  rw [List.nodup_cons] at hn
  rw [sumK_cons,sumK_cons]
  by_cases hk:k=a
  · subst hk
    rw [sumK_addC_out hn.1]
    unfold addC
    rw [if_pos rfl]
    split <;> omega
  · have h2:a∈ks:=by
     rcases List.mem_cons.1 h with h | h
     · exact absurd h.symm hk
     · exact h
    rw [ih hn.2 h2]
    have:addC c a b k=c k:=by unfold addC;rw [if_neg hk]
    rw [this]
    omega
theorem keys_same {c:Int→Int} {a b:List Int} (ha:Keys c a) (hb:Keys c b) (x:Int):sumK c a x=sumK c b x:=by
 have key:∀ (l:List Int),sumK c l x=sumK c (l.filter fun k=>decide (c k≠0)) x:=fun l=>by
  induction l with
  | nil=>rfl
  | cons k l ih=>
   rw [sumK_cons,ih]
   by_cases h:c k=0
   · rw [List.filter_cons_of_neg (by simpa using h),h]
     split <;> simp
   · rw [List.filter_cons_of_pos (by simpa using h),sumK_cons]
 rw [key a,key b]
 apply sumK_perm
 refine (List.perm_ext_iff_of_nodup (ha.nd.filter _) (hb.nd.filter _)).2 fun k => ?_
 simp only [List.mem_filter,decide_eq_true_eq]
 exact ⟨fun h=>⟨hb.all k h.2,h.2⟩,fun h=>⟨ha.all k h.2,h.2⟩⟩
theorem Sums.mk' {c P:Int→Int} {ks:List Int} (h:Keys c ks) (hs:∀ x,sumK c ks x=P x):Sums c P:=⟨⟨ks,h⟩,fun l hl x=>by rw [keys_same hl h,hs]⟩
theorem Sums.zero:Sums (fun _=>0) fun _=>0:=Sums.mk' (ks:=[]) ⟨List.nodup_nil,fun _ h=>absurd rfl h⟩ fun _=>rfl
theorem Sums.add {c P:Int→Int} (h:Sums c P) (a b:Int):Sums (addC c a b) fun x=>P x+if a≤x then b else 0:=by
 obtain ⟨⟨ks,hk⟩,hs⟩:=h
 have hk2:Keys c (if a∈ks then ks else a::ks):=by
  split
  · exact hk
  · rename_i hn
    exact ⟨List.nodup_cons.2 ⟨hn,hk.nd⟩,fun k hk0=>List.mem_cons_of_mem _ (hk.all k hk0)⟩
 have ha:a∈(if a∈ks then ks else a::ks):=by
  split
  · assumption
  · simp
 refine Sums.mk' (ks:=if a∈ks then ks else a::ks) ⟨hk2.nd,fun k h0 => ?_⟩ fun x=>by rw [sumK_addC hk2.nd ha,hs _ hk2]
 by_cases hka:k=a
 · rw [hka];exact ha
 · refine hk2.all k fun e=>h0 ?_
   unfold addC
   rw [if_neg hka]
   exact e
theorem Sums.addS {P:Int→Int} (t:Int):∀ (l:List (Int × Int)) {c:Int→Int},(∀ x∈l,x.1≤x.2)→Sums c P→∃ Q,Sums (addS c l t) Q∧∀ u,Q u=P u+t*cntL l u:=by
 intro l
 induction l generalizing P with
 | nil=>exact fun _ h=>⟨P,h,fun u=>by rw [cntL_nil];omega⟩
 | cons x l ih=>
  intro c hx h
  have h1:=(h.add x.1 t).add (x.2+1) (-t)
  obtain ⟨Q,hQ,hq⟩:=ih (fun y hy=>hx y (List.mem_cons_of_mem _ hy)) h1
  refine ⟨Q,hQ,fun u => ?_⟩
  have hx1:=hx x (by simp)
  have hc:cntL (x::l) u=(if inR x u then 1 else 0)+cntL l u:=by
   unfold cntL
   by_cases hh:inR x u=true <;> simp [hh] <;> omega
  rw [hq,hc,Int.mul_add]
  have hin:(if inR x u=true then (1:Int) else 0)=if x.1≤u then (if x.2+1≤u then 0 else 1) else 0:=by
   unfold inR
   by_cases h1:x.1≤u <;> by_cases h2:x.2+1≤u
   all_goals simp [h1,h2] <;> omega
  rw [hin]
  by_cases h1:x.1≤u <;> by_cases h2:x.2+1≤u
  all_goals simp only [h1,h2,if_true,if_false];omega
end Go.Proofs
