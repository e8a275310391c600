/-
  Several texts in one (Y9n Yan).
-/
import Derived.Test.YtcfcjljapamcoaaGreatDoorY8n
namespace Go.Proofs
open Go.RowKit Go.Shelf
def UsQ (W:World) (P:Int→Int) (e:Ending) (w':World):Prop:=∃ v s,e = .returned v∧OwnR w' W.heap.size v s∧Up s∧(∀ u,inL s u=true↔0<P u)∧Below W.heap.size W w'
theorem unitsT_any (W:World) (m N:Nat) (c P:Int→Int) (h:IMap W m N (cntF c)) (hN:N≤1000000000) (hc:∀ k,-(N:Int)≤c k∧c k≤(N:Int)) (hkb:∀ k,c k≠0 → -100000000≤k∧k≤100000000) (hS:Sums c P) (hP:P 100000000≤0) (_hP0:∀ u,u < -100000000→P u≤0) :
 Calls Tryz.prog 82 #[.map (some m)] W (UsQ W P):=by
 refine (unitsT_any' W m N c h hN hc hkb).mono ?_
 rintro e w' ⟨v,ks,rfl,hO,hp,hk,hk0,hb⟩
 have hsum:0+(ks.map c).sum≤0:=by
  rw [Int.zero_add,←sumK_all (u:=100000000) fun k hm=>(hkb k (hk0 k hm)).2,hS.2 ks hk]
  exact hP
 refine ⟨v,_,rfl,hO,runU_up c ks 0 0 [] hp (fun h=>by omega) ⟨List.Pairwise.nil,by simp⟩ (by simp),fun u => ?_,hb⟩
 rw [runU_in c ks 0 0 [] hp (fun h=>by omega) hsum u]
 constructor
 · rintro (h | ⟨k,r,e,⟨h1,_⟩ | ⟨_,h2⟩⟩)
   · simp [inL] at h
   · omega
   · rw [Int.zero_add,hS.2 ks hk] at h2
     exact h2
 · intro hu
   have hs:=hS.2 ks hk u
   cases hks:ks with
   | nil=>rw [hks,sumK_nil] at hs;omega
   | cons k r=>
    rw [←hks]
    refine .inr ⟨k,r,hks,.inr ⟨?_,by rw [Int.zero_add,hs];exact hu⟩⟩
    by_cases hku:k≤u
    · exact hku
    · have:sumK c ks u=0:=sumK_small fun j hj=>by
       rw [hks] at hj hp
       rcases List.mem_cons.1 hj with rfl | hj
       · omega
       · have:=(List.pairwise_cons.1 hp).1 j hj;omega
      omega
end Go.Proofs
namespace Go.Proofs
open Go.RowKit Go.Shelf
set_option maxRecDepth 100000
attribute [local go_sem] Oper.semAt_some
theorem cntF_zero:cntF (fun _=>0)=fun _=>none:=by
 funext k
 simp [cntF]
theorem made0 (w:World):IMap (w.alloc (.map #[] 0)) w.heap.size 0 (cntF fun _=>0):=by rw [cntF_zero];exact IMap.made w
def KeyB (c:Int→Int):Prop:=∀ k,c k≠0→0≤k∧k≤2000001
theorem KeyB.add {c:Int→Int} (h:KeyB c) {a:Int} (ha:0≤a∧a≤2000001) (b:Int):KeyB (addC c a b):=fun k hk=>by
 unfold addC at hk
 by_cases e:k=a
 · subst e;exact ha
 · rw [if_neg e] at hk;exact h k hk
theorem KeyB.addS {t:Int} : ∀ (l:List (Int × Int)) {c:Int→Int},KeyB c→(∀ x∈l,Bdr x)→KeyB (addS c l t)
 | [],_,h,_=>h
 | x::l,c,h,hb=>by
  obtain ⟨b1,b2,b3⟩:=hb x (by simp)
  exact KeyB.addS l ((h.add ⟨by omega,by omega⟩ t).add ⟨by omega,by omega⟩ (-t)) fun y hy=>hb y (List.mem_cons_of_mem _ hy)
theorem addS_bd' {c:Int→Int} {N:Nat} (h:∀ k,-(N:Int)≤c k∧c k≤(N:Int)) {l:List (Int × Int)} {t:Int} (ht : -1≤t∧t≤1):∀ k,-((N+2*l.length:Nat):Int)≤addS c l t k∧addS c l t k≤((N+2*l.length:Nat):Int):=by
 have:=addS_bd h (l:=l) ht l.length (Nat.le_refl _)
 rwa [List.take_length] at this
theorem cntL_up:∀ {l:List (Int × Int)},Up l→∀ u,cntL l u=if inL l u=true then 1 else 0
 | [],_,u=>by simp [cntL,inL]
 | x::l,h,u=>by
  have hp:=List.pairwise_cons.1 h.1
  have ih:=cntL_up (l:=l) ⟨hp.2,fun y hy=>h.2 y (List.mem_cons_of_mem _ hy)⟩ u
  have e1:cntL (x::l) u=(if inR x u then 1 else 0)+cntL l u:=by
   unfold cntL
   by_cases hh:inR x u=true <;> simp [hh] <;> omega
  have e2:inL (x::l) u=(inR x u || inL l u):=rfl
  rw [e1,ih,e2]
  by_cases hx:inR x u=true
  · have hn:inL l u=false:=by
     rw [inL,List.any_eq_false]
     intro y hy hu
     have h1:=hp.1 y hy
     have h2:=(inR_iff x u).1 hx
     have h3:=(inR_iff y u).1 hu
     omega
    simp [hx,hn]
  · simp [hx]
theorem cntL_out {l:List (Int × Int)} (hb:∀ x∈l,Bdr x) {u:Int} (hu:u<0∨2000000<u):cntL l u=0:=by
 unfold cntL
 rw [List.filter_eq_nil_iff.2]
 · rfl
 · intro x hx h
   have h2:=(inR_iff x u).1 h
   obtain ⟨b1,b2,b3⟩:=hb x hx
   omega
def LesQ (w:World) (a b:List (Int × Int)) (e:Ending) (w':World):Prop:=∃ v s,e = .returned v∧OwnR w' w.heap.size v s∧Up s∧(∀ u,inL s u=true↔(inL a u=true∧inL b u=false))∧Below w.heap.size w w'
set_option maxHeartbeats 2000000 in
theorem less_any (w:World) (av bv:Value) (a b:List (Int × Int)) (ha:Rs w av a) (hb:Rs w bv b) (hal:a.length≤10000000) (hbl:b.length≤10000000) (hab:∀ x∈a,Bdr x) (hbb:∀ x∈b,Bdr x) (hau:Up a) (hbu:Up b) :
 Calls Tryz.prog 49 #[av,bv] w (LesQ w a b):=by
 obtain ⟨aa,an,ac,rfl⟩:=ha.sl
 obtain ⟨ba,bn,bc,rfl⟩:=hb.sl
 have hw1:Below w.heap.size w (w.alloc (.map #[] 0)):=(Below.refl _ w).alloc (Nat.le_refl _) _
 have H1:Hid (Calls Tryz.prog 81 #[.map (some w.heap.size),.slice aa an ac,.int .i64 1] (w.alloc (.map #[] 0)) (TuQ w.heap.size (0+2*a.length) (addS (fun _=>0) a 1) (w.alloc (.map #[] 0)))):=
  add_any _ w.heap.size 0 (fun _=>0) _ a 1 (made0 w) hal (by omega) ⟨by omega,by omega⟩ hab (fun W' hT=>ha.below (hw1.trans hT.1) (Nat.le_refl _)) (fun k=>⟨by omega,by omega⟩)
 have H2:Hid (∀ W1,TuQ w.heap.size (0+2*a.length) (addS (fun _=>0) a 1) (w.alloc (.map #[] 0)) (.returned (.tuple #[])) W1→Calls Tryz.prog 81 #[.map (some w.heap.size),.slice ba bn bc,.int .i64 (-1)] W1 (TuQ w.heap.size (0+2*a.length+2*b.length) (addS (addS (fun _=>0) a 1) b (-1)) W1)):=by
  intro W1 hT
  exact add_any W1 w.heap.size _ _ _ b (-1) hT.2.1 hbl (by omega) ⟨by omega,by omega⟩ hbb (fun W' hT'=>hb.below (hw1.trans (hT.2.2.1.trans hT'.1)) (Nat.le_refl _)) (addS_bd' (fun k=>⟨by omega,by omega⟩) ⟨by omega,by omega⟩)
 have H3:Hid (∀ W1,IMap W1 w.heap.size (0+2*a.length+2*b.length) (cntF (addS (addS (fun _=>0) a 1) b (-1)))→Below w.heap.size w W1→Calls Tryz.prog 82 #[.map (some w.heap.size)] W1 (LesQ w a b)):=by
  intro W1 hI hB
  obtain ⟨Q1,hQ1,q1⟩:=Sums.addS 1 a (fun x hx=>(hab x hx).1) Sums.zero
  obtain ⟨Q2,hQ2,q2⟩:=Sums.addS (-1) b (fun x hx=>(hbb x hx).1) hQ1
  have hq:∀ u,Q2 u=cntL a u - cntL b u:=fun u=>by rw [q2,q1];omega
  have hkb:KeyB (addS (addS (fun _=>0) a 1) b (-1)):=KeyB.addS b (KeyB.addS a (fun k h=>absurd rfl h) hab) hbb
  refine (unitsT_any W1 w.heap.size _ _ Q2 hI (by omega) (addS_bd' (addS_bd' (fun k=>⟨by omega,by omega⟩) ⟨by omega,by omega⟩) ⟨by omega,by omega⟩) (fun k hk=>by have:=hkb k hk;omega) hQ2 (by rw [hq,cntL_out hab (.inr (by omega)),cntL_out hbb (.inr (by omega))];omega) (fun u hu=>by rw [hq,cntL_out hab (.inl (by omega)),cntL_out hbb (.inl (by omega))];omega)).mono ?_
  rintro e w' ⟨v,s,rfl,hO,hU,hu,hb'⟩
  refine ⟨v,s,rfl,hO.le hB.size,hU,fun u => ?_,hB.trans (hb'.mono hB.size)⟩
  rw [hu,hq,cntL_up hau,cntL_up hbu]
  cases inL a u <;> cases inL b u <;> simp
 clear ha hb hab hbb hau hbu
 have hmm := @run_makeMap Tryz.prog
 go_enter Tryz.func49,Tryz.ntmps49
 go_wp2_with fail
 refine H1.out.mono ?_
 rintro e w1 hT1
 obtain rfl:=hT1.1
 have HT1:Hid (TuQ w.heap.size (0+2*a.length) (addS (fun _=>0) a 1) (w.alloc (.map #[] 0)) (.returned (.tuple #[])) w1):=hT1
 clear hT1
 go_wp2_with fail
 refine (H2.out _ HT1.out).mono ?_
 rintro e w2 ⟨rfl,hI2,hT2⟩
 have HI2:Hid (IMap w2 w.heap.size (0+2*a.length+2*b.length) (cntF (addS (addS (fun _=>0) a 1) b (-1)))∧Below w.heap.size w w2):=⟨hI2,hw1.trans (HT1.out.2.2.1.trans hT2.1)⟩
 clear hI2 hT2
 go_wp2_with fail
 refine (H3.out _ HI2.out.1 HI2.out.2).mono ?_
 rintro e w3 ⟨v,s,rfl,hO,hU,hu,hb'⟩
 obtain ⟨va,vc,rfl,_⟩:=hO.rs
 have HF:Hid (LesQ w a b (.returned (.slice va s.length vc)) w3):=⟨_,s,rfl,hO,hU,hu,hb'⟩
 clear hO hU hu hb'
 go_wp2
 go_ret
 exact HF.out
end Go.Proofs
