/-
  Several texts in one (Y9r Yar Ycr Ydr).
-/
import Derived.Test.YtcfcjljapamcoabGreatDoorMpjr
import Derived.Test.YtcfcjljapamcoabGreatDoorYbr
namespace Go.Proofs
open Go.RowKit Go.Shelf
def UsQ (W:World) (P:Int→Int) (e:Ending) (w':World):Prop:=∃ v s,e = .returned v∧OwnR w' W.heap.size v s∧Up s∧(∀ u,inL s u=true↔0<P u)∧Below W.heap.size W w'
theorem unitsT_any (W:World) (m N:Nat) (c P:Int→Int) (h:IMap W m N (cntF c)) (hN:N≤1000000000) (hc:∀ k,-(N:Int)≤c k∧c k≤(N:Int)) (hkb:∀ k,c k≠0 → -100000000≤k∧k≤100000000) (hS:Sums c P) (hP:P 100000000≤0) (_hP0:∀ u,u < -100000000→P u≤0) :
 Calls Tryz.prog 34 #[.map (some m)] W (UsQ W P):=by
 refine (unitsT_any' W m N c h hN hc hkb).mono ?_
 rintro e w' ⟨v,ks,rfl,hO,hp,hk,hk0,hb⟩
 have hsum:0+(ks.map c).sum≤0:=by
  rw [Int.zero_add,←sumK_all (u:=100000000) fun k hm=>(hkb k (hk0 k hm)).2,hS.2 ks hk]
  exact hP
 refine ⟨v,_,rfl,hO,runU_up c ks 0 0 [] hp (fun h=>by omega) ⟨List.Pairwise.nil,by simp⟩ (by simp),fun u => ?_,hb⟩
 rw [runU_in c ks 0 0 [] hp (fun h=>by omega) hsum u]
 constructor
 · rintro (h | ⟨k,r,e,⟨h1,_⟩ | ⟨_,h2⟩⟩)
   · simp [inL] at h
   · omega
   · rw [Int.zero_add,hS.2 ks hk] at h2
     exact h2
 · intro hu
   have hs:=hS.2 ks hk u
   cases hks:ks with
   | nil=>rw [hks,sumK_nil] at hs;omega
   | cons k r=>
    rw [←hks]
    refine .inr ⟨k,r,hks,.inr ⟨?_,by rw [Int.zero_add,hs];exact hu⟩⟩
    by_cases hku:k≤u
    · exact hku
    · have:sumK c ks u=0:=sumK_small fun j hj=>by
       rw [hks] at hj hp
       rcases List.mem_cons.1 hj with rfl | hj
       · omega
       · have:=(List.pairwise_cons.1 hp).1 j hj;omega
      omega
end Go.Proofs
namespace Go.Proofs
open Go.RowKit Go.Shelf
set_option maxRecDepth 100000
attribute [local go_sem] Oper.semAt_some
theorem cntF_zero:cntF (fun _=>0)=fun _=>none:=by
 funext k
 simp [cntF]
theorem made0 (w:World):IMap (w.alloc (.map #[] 0)) w.heap.size 0 (cntF fun _=>0):=by rw [cntF_zero];exact IMap.made w
def KeyB (c:Int→Int):Prop:=∀ k,c k≠0→0≤k∧k≤2000001
theorem KeyB.add {c:Int→Int} (h:KeyB c) {a:Int} (ha:0≤a∧a≤2000001) (b:Int):KeyB (addC c a b):=fun k hk=>by
 unfold addC at hk
 by_cases e:k=a
 · subst e;exact ha
 · rw [if_neg e] at hk;exact h k hk
theorem KeyB.addS {t:Int} : ∀ (l:List (Int × Int)) {c:Int→Int},KeyB c→(∀ x∈l,Bdr x)→KeyB (addS c l t)
 | [],_,h,_=>h
 | x::l,c,h,hb=>by
  obtain ⟨b1,b2,b3⟩:=hb x (by simp)
  exact KeyB.addS l ((h.add ⟨by omega,by omega⟩ t).add ⟨by omega,by omega⟩ (-t)) fun y hy=>hb y (List.mem_cons_of_mem _ hy)
theorem addS_bd' {c:Int→Int} {N:Nat} (h:∀ k,-(N:Int)≤c k∧c k≤(N:Int)) {l:List (Int × Int)} {t:Int} (ht : -1≤t∧t≤1):∀ k,-((N+2*l.length:Nat):Int)≤addS c l t k∧addS c l t k≤((N+2*l.length:Nat):Int):=by
 have:=addS_bd h (l:=l) ht l.length (Nat.le_refl _)
 rwa [List.take_length] at this
theorem cntL_up:∀ {l:List (Int × Int)},Up l→∀ u,cntL l u=if inL l u=true then 1 else 0
 | [],_,u=>by simp [cntL,inL]
 | x::l,h,u=>by
  have hp:=List.pairwise_cons.1 h.1
  have ih:=cntL_up (l:=l) ⟨hp.2,fun y hy=>h.2 y (List.mem_cons_of_mem _ hy)⟩ u
  have e1:cntL (x::l) u=(if inR x u then 1 else 0)+cntL l u:=by
   unfold cntL
   by_cases hh:inR x u=true <;> simp [hh] <;> omega
  have e2:inL (x::l) u=(inR x u || inL l u):=rfl
  rw [e1,ih,e2]
  by_cases hx:inR x u=true
  · have hn:inL l u=false:=by
     rw [inL,List.any_eq_false]
     intro y hy hu
     have h1:=hp.1 y hy
     have h2:=(inR_iff x u).1 hx
     have h3:=(inR_iff y u).1 hu
     omega
    simp [hx,hn]
  · simp [hx]
theorem cntL_out {l:List (Int × Int)} (hb:∀ x∈l,Bdr x) {u:Int} (hu:u<0∨2000000<u):cntL l u=0:=by
 unfold cntL
 rw [List.filter_eq_nil_iff.2]
 · rfl
 · intro x hx h
   have h2:=(inR_iff x u).1 h
   obtain ⟨b1,b2,b3⟩:=hb x hx
   omega
def LesQ (w:World) (a b:List (Int × Int)) (e:Ending) (w':World):Prop:=∃ v s,e = .returned v∧OwnR w' w.heap.size v s∧Up s∧(∀ u,inL s u=true↔(inL a u=true∧inL b u=false))∧Below w.heap.size w w'
set_option maxHeartbeats 2000000 in
theorem less_any (w:World) (av bv:Value) (a b:List (Int × Int)) (ha:Rs w av a) (hb:Rs w bv b) (hal:a.length≤10000000) (hbl:b.length≤10000000) (hab:∀ x∈a,Bdr x) (hbb:∀ x∈b,Bdr x) (hau:Up a) (hbu:Up b) :
 Calls Tryz.prog 22 #[av,bv] w (LesQ w a b):=by
 obtain ⟨aa,an,ac,rfl⟩:=ha.sl
 obtain ⟨ba,bn,bc,rfl⟩:=hb.sl
 have hw1:Below w.heap.size w (w.alloc (.map #[] 0)):=(Below.refl _ w).alloc (Nat.le_refl _) _
 have H1:Hid (Calls Tryz.prog 33 #[.map (some w.heap.size),.slice aa an ac,.int .i64 1] (w.alloc (.map #[] 0)) (TuQ w.heap.size (0+2*a.length) (addS (fun _=>0) a 1) (w.alloc (.map #[] 0)))):=
  add_any _ w.heap.size 0 (fun _=>0) _ a 1 (made0 w) hal (by omega) ⟨by omega,by omega⟩ hab (fun W' hT=>ha.below (hw1.trans hT.1) (Nat.le_refl _)) (fun k=>⟨by omega,by omega⟩)
 have H2:Hid (∀ W1,TuQ w.heap.size (0+2*a.length) (addS (fun _=>0) a 1) (w.alloc (.map #[] 0)) (.returned (.tuple #[])) W1→Calls Tryz.prog 33 #[.map (some w.heap.size),.slice ba bn bc,.int .i64 (-1)] W1 (TuQ w.heap.size (0+2*a.length+2*b.length) (addS (addS (fun _=>0) a 1) b (-1)) W1)):=by
  intro W1 hT
  exact add_any W1 w.heap.size _ _ _ b (-1) hT.2.1 hbl (by omega) ⟨by omega,by omega⟩ hbb (fun W' hT'=>hb.below (hw1.trans (hT.2.2.1.trans hT'.1)) (Nat.le_refl _)) (addS_bd' (fun k=>⟨by omega,by omega⟩) ⟨by omega,by omega⟩)
 have H3:Hid (∀ W1,IMap W1 w.heap.size (0+2*a.length+2*b.length) (cntF (addS (addS (fun _=>0) a 1) b (-1)))→Below w.heap.size w W1→Calls Tryz.prog 34 #[.map (some w.heap.size)] W1 (LesQ w a b)):=by
  intro W1 hI hB
  obtain ⟨Q1,hQ1,q1⟩:=Sums.addS 1 a (fun x hx=>(hab x hx).1) Sums.zero
  obtain ⟨Q2,hQ2,q2⟩:=Sums.addS (-1) b (fun x hx=>(hbb x hx).1) hQ1
  have hq:∀ u,Q2 u=cntL a u - cntL b u:=fun u=>by rw [q2,q1];omega
  have hkb:KeyB (addS (addS (fun _=>0) a 1) b (-1)):=KeyB.addS b (KeyB.addS a (fun k h=>absurd rfl h) hab) hbb
  refine (unitsT_any W1 w.heap.size _ _ Q2 hI (by omega) (addS_bd' (addS_bd' (fun k=>⟨by omega,by omega⟩) ⟨by omega,by omega⟩) ⟨by omega,by omega⟩) (fun k hk=>by have:=hkb k hk;omega) hQ2 (by rw [hq,cntL_out hab (.inr (by omega)),cntL_out hbb (.inr (by omega))];omega) (fun u hu=>by rw [hq,cntL_out hab (.inl (by omega)),cntL_out hbb (.inl (by omega))];omega)).mono ?_
  rintro e w' ⟨v,s,rfl,hO,hU,hu,hb'⟩
  refine ⟨v,s,rfl,hO.le hB.size,hU,fun u => ?_,hB.trans (hb'.mono hB.size)⟩
  rw [hu,hq,cntL_up hau,cntL_up hbu]
  cases inL a u <;> cases inL b u <;> simp
 clear ha hb hab hbb hau hbu
 have hmm := @run_makeMap Tryz.prog
 go_enter Tryz.func22,Tryz.ntmps22
 go_wp2_with fail
 refine H1.out.mono ?_
 rintro e w1 hT1
 obtain rfl:=hT1.1
 have HT1:Hid (TuQ w.heap.size (0+2*a.length) (addS (fun _=>0) a 1) (w.alloc (.map #[] 0)) (.returned (.tuple #[])) w1):=hT1
 clear hT1
 go_wp2_with fail
 refine (H2.out _ HT1.out).mono ?_
 rintro e w2 ⟨rfl,hI2,hT2⟩
 have HI2:Hid (IMap w2 w.heap.size (0+2*a.length+2*b.length) (cntF (addS (addS (fun _=>0) a 1) b (-1)))∧Below w.heap.size w w2):=⟨hI2,hw1.trans (HT1.out.2.2.1.trans hT2.1)⟩
 clear hI2 hT2
 go_wp2_with fail
 refine (H3.out _ HI2.out.1 HI2.out.2).mono ?_
 rintro e w3 ⟨v,s,rfl,hO,hU,hu,hb'⟩
 obtain ⟨va,vc,rfl,_⟩:=hO.rs
 have HF:Hid (LesQ w a b (.returned (.slice va s.length vc)) w3):=⟨_,s,rfl,hO,hU,hu,hb'⟩
 clear hO hU hu hb'
 go_wp2
 go_ret
 exact HF.out
end Go.Proofs
namespace Go.Proofs
open Go.RowKit Go.Shelf
structure WyC (w:World) (r:Rl) (av kv pv rv iv:Value):Prop where
 rr:RR w av kv pv rv r
 im:SR w iv (img r)
def wyv (r:Rl) (av kv pv rv iv:Value):List Value:=[.bool r.bg,av,kv,pv,.bool r.en,rv,.int .i64 r.cu,iv]
def WyAt (w:World) (g o:Nat) (r:Rl):Prop:=∃ av kv pv rv iv,(∀ (i:Nat) (v:Value),(wyv r av kv pv rv iv)[i]? = some v→w.cell? ⟨g,o+i,none⟩=some v)∧WyC w r av kv pv rv iv
def WyR (w:World) (v:Value) (rs:List Rl):Prop:=∃ (a:Option Addr) (cap:Nat),v = .slice a rs.length cap∧rs.length≤cap∧(rs=[]∨∃ g o,a=some ⟨g,o,none⟩∧∀ (j:Nat) (hj:j<rs.length),WyAt w g (o+j*8) rs[j])
theorem WyC.below {w w':World} {n:Nat} {r:Rl} {av kv pv rv iv:Value} (h:WyC w r av kv pv rv iv) (hb:Below n w w') (hn:w.heap.size≤n):WyC w' r av kv pv rv iv:=⟨h.rr.below hb hn,h.im.below hb hn⟩
theorem WyAt.below {w w':World} {n g o:Nat} {r:Rl} (h:WyAt w g o r) (hb:Below n w w') (hn:w.heap.size≤n):WyAt w' g o r:=by
 obtain ⟨av,kv,pv,rv,iv,h1,h2⟩:=h
 exact ⟨av,kv,pv,rv,iv,fun i v hv=>cell_below (h1 i v hv) hb hn,h2.below hb hn⟩
theorem WyR.below {w w':World} {n:Nat} {v:Value} {rs:List Rl} (h:WyR w v rs) (hb:Below n w w') (hn:w.heap.size≤n):WyR w' v rs:=by
 obtain ⟨a,cap,e,h1,h2⟩:=h
 exact ⟨a,cap,e,h1,h2.imp id fun ⟨g,o,e2,h3⟩=>⟨g,o,e2,fun j hj=>(h3 j hj).below hb hn⟩⟩
def waS (r:Rl):List (List (Int × Int)):=r.key++img r
theorem whole_one {u:Int} (h:wd u≠0):Whole (u,u):=by
 unfold Whole
 by_cases h1:1114240≤u∧u≤1114367
 · exact ⟨Int.le_refl _,by simp only;omega⟩
 · by_cases h2:(0≤u∧u<55296)∨(57343<u∧u≤1114111)
   · exact ⟨Int.le_refl _,by simp only;omega⟩
   · exact absurd (wd_no (by omega) (by omega)) h
theorem okS_one {u:Int} (h:wd u≠0):okS [(u,u)]=true:=by
 have hv:validB [(u,u)]=true:=(validB_iff _).2 ⟨by simp,by simp [Good];exact whole_one h⟩
 simp [okS,hv]
theorem okS_valid {l:List (Int × Int)} (h:okS l=true):validB l=true:=by
 unfold okS at h
 rw [Bool.and_eq_true] at h
 exact h.1
theorem okS_lenU {l:List (Int × Int)} (h:0<lenU l):okS l=true:=by
 cases hh:okS l with
 | true=>rfl
 | false=>rw [lenU_no hh] at h;omega
theorem img_ok {r:Rl} (ho:Ok r):∀ s∈img r,okS s=true:=by
 intro s hs
 obtain ⟨p,hp,rfl⟩:=List.mem_map.1 hs
 have hk:∀ y:Int,0≤y→y<r.key.length→okS (keyAt r.key y)=true:=fun y h0 h1=>by
  obtain ⟨yn,rfl⟩:∃ yn:Nat,y=(yn:Int):=⟨y.toNat,by omega⟩
  have hy:yn<r.key.length:=by omega
  unfold keyAt
  simp only [Int.toNat_natCast,List.getElem?_eq_getElem hy,Option.getD_some]
  exact List.all_eq_true.1 ho.kS _ (List.getElem_mem hy)
 rcases pc_ok (ho.pc p hp) with ⟨h1,h2,_,_⟩ | ⟨h1,_,_,h2,h3⟩ | ⟨h1,_,h2,h3,h4⟩
 · unfold imgP
   rw [if_pos h1]
   exact okS_one h2
 · unfold imgP
   rw [if_neg (by omega),if_pos h1]
   exact hk _ h2 h3
 · unfold imgP
   rw [if_neg (by omega),if_neg (by omega)]
   unfold matB at h4
   simp only [Bool.and_eq_true,decide_eq_true_eq] at h4
   exact okS_lenU (by rw [←h4.2];exact lenU_ok (hk _ h2 h3))
theorem waS_ok {r:Rl} (ho:Ok r):∀ s∈waS r,okS s=true:=by
 intro s hs
 rcases List.mem_append.1 hs with h | h
 · exact List.all_eq_true.1 ho.kS s h
 · exact img_ok ho s h
theorem okS_bdr {l:List (Int × Int)} (h:okS l=true):∀ x∈l,Bdr x:=fun x hx=>(((validB_iff l).1 (okS_valid h)).2.1 x hx).bd
theorem okS_512 {l:List (Int × Int)} (h:okS l=true):l.length≤512:=((validB_iff l).1 (okS_valid h)).1
theorem good_up {l:List (Int × Int)} (h:Good l):Up l:=⟨h.2.imp fun {x y} h=>by omega,fun x hx=>(h.1 x hx).1⟩
theorem okS_up {l:List (Int × Int)} (h:okS l=true):Up l:=good_up ((validB_iff l).1 (okS_valid h)).2
theorem waS_len {r:Rl} (ho:Ok r):(waS r).length≤24∧0<(waS r).length:=by
 have h1:=ho.k8
 have h2:=ho.r16
 have h3:=ho.k0
 unfold waS img
 rw [List.length_append,List.length_map]
 omega
def cntS (ls:List (List (Int × Int))) (u:Int):Int:=(ls.map (cntL · u)).sum
theorem cntS_snoc (ls:List (List (Int × Int))) (l:List (Int × Int)) (u:Int):cntS (ls++[l]) u=cntS ls u+cntL l u:=by simp [cntS]
theorem cntS_nonneg (ls:List (List (Int × Int))) (u:Int):0≤cntS ls u:=by
 induction ls with
 | nil=>simp [cntS]
 | cons l ls ih=>
  have h1:=cntL_nonneg l u
  have:cntS (l::ls) u=cntL l u+cntS ls u:=by simp [cntS]
  omega
theorem cntS_pos (ls:List (List (Int × Int))) (u:Int):0<cntS ls u↔∃ l∈ls,inL l u=true:=by
 induction ls with
 | nil=>simp [cntS]
 | cons l ls ih=>
  have h1:=cntL_nonneg l u
  have h2:=cntS_nonneg ls u
  have e:cntS (l::ls) u=cntL l u+cntS ls u:=by simp [cntS]
  rw [e]
  constructor
  · intro h
    by_cases hl:0<cntL l u
    · exact ⟨l,by simp,cntL_pos.1 hl⟩
    · obtain ⟨x,hx,hu⟩:=ih.1 (by omega)
      exact ⟨x,List.mem_cons_of_mem _ hx,hu⟩
  · rintro ⟨x,hx,hu⟩
    rcases List.mem_cons.1 hx with rfl | hx
    · have:=cntL_pos.2 hu;omega
    · have:=ih.2 ⟨x,hx,hu⟩;omega
end Go.Proofs
namespace Go.Proofs
open Go.RowKit Go.Shelf
set_option maxRecDepth 100000
attribute [local go_sem] Oper.semAt_some
def CoI (m:Nat) (W1 wr:World) (N:Nat) (ls:List (List (Int × Int))):Prop:=∃ c P,IMap wr m N (cntF c)∧Sums c P∧(∀ u,P u=cntS ls u)∧KeyB c∧(∀ k,-(N:Int)≤c k∧c k≤(N:Int))∧Tn m W1 wr
theorem CoI.start (w:World):CoI w.heap.size (w.alloc (.map #[] 0)) (w.alloc (.map #[] 0)) 0 []:=⟨fun _=>0,fun _=>0,made0 w,Sums.zero,fun u=>by simp [cntS],fun k h=>absurd rfl h,fun k=>⟨by simp,by simp⟩,Tn.refl _ _⟩
theorem CoI.lt {m:Nat} {W1 wr:World} {N:Nat} {ls:List (List (Int × Int))} (h:CoI m W1 wr N ls):m<wr.heap.size:=by
 obtain ⟨c,P,hI,_⟩:=h
 exact hI.lt
theorem CoI.tn {m:Nat} {W1 wr:World} {N:Nat} {ls:List (List (Int × Int))} (h:CoI m W1 wr N ls):Tn m W1 wr:=by
 obtain ⟨c,P,_,_,_,_,_,h⟩:=h
 exact h
theorem CoI.grown {m:Nat} {W1 wr w':World} {N:Nat} {ls:List (List (Int × Int))} (h:CoI m W1 wr N ls) (hg:Below wr.heap.size wr w'):CoI m W1 w' N ls:=by
 obtain ⟨c,P,hI,hS,hP,hk,hc,hT⟩:=h
 have hm:=hI.lt
 exact ⟨c,P,hI.kept fun o ho=>(hg.block m hm).trans ho,hS,hP,hk,hc,hT.trans ⟨hg.mono (Nat.le_of_lt hm),fun b _ hl=>hg.block b hl⟩⟩
theorem CoI.mono {m:Nat} {W1 wr:World} {N N':Nat} {ls:List (List (Int × Int))} (h:CoI m W1 wr N ls) (hN:N≤N'):CoI m W1 wr N' ls:=by
 obtain ⟨c,P,hI,hS,hP,hk,hc,hT⟩:=h
 exact ⟨c,P,hI.mono hN,hS,hP,hk,fun k=>by have:=hc k;omega,hT⟩
theorem CoI.add {m:Nat} {W1 wr:World} {N:Nat} {ls:List (List (Int × Int))} (h:CoI m W1 wr N ls) {v:Value} {l:List (Int × Int)} (hl:okS l=true) (hN:N≤400000000) (hR:∀ W',Tn m wr W'→Rs W' v l) :
 Calls Tryz.prog 33 #[.map (some m),v,.int .i64 1] wr fun e w'=>e = .returned (.tuple #[])∧CoI m W1 w' (N+1024) (ls++[l])∧Tn m wr w':=by
 obtain ⟨c,P,hI,hS,hP,hk,hc,hT⟩:=h
 have h5:=okS_512 hl
 refine (add_any wr m N c v l 1 hI (by omega) (by omega) ⟨by omega,by omega⟩ (okS_bdr hl) hR hc).mono ?_
 rintro e w' ⟨rfl,hI2,hT2⟩
 obtain ⟨Q,hQ,hq⟩:=Sums.addS 1 l (fun x hx=>(okS_bdr hl x hx).1) hS
 refine ⟨rfl,⟨_,Q,hI2.mono (by omega),hQ,fun u=>by rw [hq,hP,cntS_snoc];omega,KeyB.addS l hk (okS_bdr hl),fun k => ?_,hT.trans hT2⟩,hT2⟩
 have:=addS_bd' hc (l:=l) (t:=1) ⟨by omega,by omega⟩ k
 omega
theorem CoI.units {m:Nat} {W1 wr:World} {N:Nat} {ls:List (List (Int × Int))} (h:CoI m W1 wr N ls) (hN:N≤1000000000) (hb:∀ l∈ls,okS l=true) :
 Calls Tryz.prog 34 #[.map (some m)] wr fun e w'=>∃ v s,e = .returned v∧OwnR w' wr.heap.size v s∧Up s∧(∀ u,inL s u=true↔∃ l∈ls,inL l u=true)∧Below wr.heap.size wr w':=by
 obtain ⟨c,P,hI,hS,hP,hk,hc,hT⟩:=h
 have hout:∀ u,(u<0∨2000000<u)→P u=0:=fun u hu=>by
  rw [hP]
  have h1:=cntS_nonneg ls u
  have h2:¬ 0<cntS ls u:=fun hp=>by
   obtain ⟨l,hl,hx⟩:=(cntS_pos ls u).1 hp
   have:=cntL_out (okS_bdr (hb l hl)) hu
   have:=cntL_pos.2 hx
   omega
  omega
 refine (unitsT_any wr m N c P hI hN hc (fun k h0=>by have:=hk k h0;omega) hS (by rw [hout _ (.inr (by omega))];omega) (fun u hu=>by rw [hout _ (.inl (by omega))];omega)).mono ?_
 rintro e w' ⟨v,s,rfl,hO,hU,hu,hB⟩
 exact ⟨v,s,rfl,hO,hU,fun u=>by rw [hu,hP,cntS_pos],hB⟩
end Go.Proofs
