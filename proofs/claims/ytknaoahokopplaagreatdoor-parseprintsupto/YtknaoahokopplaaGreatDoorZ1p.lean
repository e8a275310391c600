/-
  Rows lent, of any depth; marks; how many items there are.
-/
import Derived.Test.YtknaoahokopplaaGreatDoorMgqp
namespace Go.Proofs
open Go.RowKit Go.Shelf
set_option maxRecDepth 100000
attribute [local go_sem] Oper.semAt_some
theorem RdM.parts {d:Nat} {w:World} {m:MI} {i:It} (h:RdM d w m i) (hs:Sz d i):∃ e ms',RdR w m.A m.n ms'∧All2 (RdM e w) ms' i.ps∧(∀ p∈i.ps,Sz e p)∧m.n≤1048576∧∀ (w':World) (A:Option Addr) (n c:Nat) (ms2:List MI),RdR w' A n ms2→All2 (RdM e w') ms2 i.ps→RdM d w' { m with A:=A,n:=n,c:=c } i:=by
 cases d with
 | zero=>
  obtain ⟨h1,h2,h3⟩:=h
  refine ⟨0,[],⟨h3,by omega,.inl h3⟩,by rw [h2];trivial,fun p hp=>(by rw [h2] at hp;cases hp),by omega,fun w' A n c ms2 hr ha=>⟨?_,h2,?_⟩⟩
  · obtain ⟨k,u,t,ps,lo,hi,nt,key⟩:=i
    exact h1
  · rw [h2] at ha
    cases ms2 with
    | nil=>exact hr.1
    | cons _ _=>exact ha.elim
 | succ e=>
  obtain ⟨h1,ms,hR,hA⟩:=h
  refine ⟨e,ms,hR,hA,hs.2,by rw [hR.1,hA.length];exact hs.1,fun w' A n c ms2 hr ha=>⟨?_,ms2,hr,ha⟩⟩
  obtain ⟨k,u,t,ps,lo,hi,nt,key⟩:=i
  exact h1
theorem rowL_any:∀ (deep:Nat),deep≤4→∀ (X:Nat→Bool) (d:Nat) (W:World) (A:Option Addr) (n c:Nat) (l:List It),RdI d (vw X W) A n l→n≤1048576→(∀ i∈l,Sz d i)→(∀ k,W.heap.size≤k→X k=false) →
 Calls Tryz.prog 34 #[.slice A n c,.int .i64 (deep:Nat)] W (RowQ X d deep W n l)
 | deep,hdeep,X,d,W,A,n,c,l,hI,hn,hs,hX=>by
  refine row_step X d deep hdeep W A n c l hI hn hX fun h1 m i hi wr hb hlt hM => ?_
  obtain ⟨e,ms',hR,hA,hse,hmn,hback⟩:=hM.parts (hs i hi)
  match deep,h1 with
  | k+1,_=>
   have hc:(((k+1:Nat):Int) - 1)=(k:Int):=by omega
   rw [hc]
   refine (rowL_any k (by omega) (andB X W.heap.size) e wr m.A m.n m.c i.ps ⟨ms',hR,hA⟩ hmn hse (fun q hq=>no_andB (hX q (by have:=hb.size;omega)) (by omega))).mono ?_
   rintro x W' ⟨hb',g,ms2,rfl,_,hr2,ha2,hk2⟩
   exact ⟨hb',g,ms2,rfl,hback _ _ _ _ _ hr2 ha2,hr2,hk2⟩
set_option maxHeartbeats 2000000 in
theorem marked_step (deep:Nat) (hdeep:deep≤4) (g n:Nat) (W:World) (ms:List MI) (hR:RdR W (some ⟨g,0,none⟩) n ms) (hn:n≤1048576) (hmk:W.cell? ⟨g,n*8+7,none⟩=some (.int .i64 (-77)))
 (hsub:0<deep→∀ m∈ms,Calls Tryz.prog 43 #[.slice m.A m.n m.c,.int .i64 ((deep:Int) - 1)] W fun x W'=>x = .returned (.bool true)∧W'=W) :
 Calls Tryz.prog 43 #[.slice (some ⟨g,0,none⟩) n (n+1),.int .i64 (deep:Nat)] W fun x W'=>x = .returned (.bool true)∧W'=W:=by
 have H:Hid (n=ms.length∧(n=0∨ReadsI W g 0 ms)):=⟨hR.1,hR.2.2.imp id fun ⟨g',z,e,r⟩=>by cases e;exact r⟩
 have HSUB:=Hid.mk2 hsub
 clear hR hsub
 go_enter Tryz.func43,Tryz.ntmps43
 by_cases hd:0<deep
 · have d1:decide ((0:Int)<(deep:Int))=true:=by simpa using hd
   go_wp2
   go_loopw [5] (fun vi wr=>∃ j:Nat,vi = .int .i64 j∧j≤n∧wr=W) (fun vi _=>n - (intOf vi).toNat)
   case atStart=>exact ⟨0,rfl,by omega,rfl⟩
   case round=>
    obtain ⟨j,rfl,hj,rfl⟩:=hrel
    by_cases hjn:j<n
    · have e1:decide ((j:Int)<(n:Int))=true:=by simpa using hjn
      obtain ⟨m,hm⟩:∃ m,ms[j]? = some m:=⟨ms[j]'(by have:=H.out.1;omega),List.getElem?_eq_getElem _⟩
      have q3:=H.out.2.resolve_left (by omega) j m hm 3 _ rfl
      rw [Nat.zero_add] at q3
      have HC:=Hid.mk2 (HSUB.out hd m (List.mem_of_getElem? hm))
      clear hm HSUB
      go_wp2_with fail
      refine HC.out.mono ?_
      rintro x w2 ⟨rfl,rfl⟩
      clear HC q3
      go_wp2
      exact ⟨⟨j+1,by go_num,by omega,by first | trivial | rfl⟩,by simp [intOf];omega⟩
    · have e1:decide ((j:Int)<(n:Int))=false:=by simpa using hjn
      clear HSUB
      go_wp2
      go_ret
      exact ⟨rfl,rfl⟩
 · have d1:decide ((0:Int)<(deep:Int))=false:=by simpa using hd
   clear HSUB
   by_cases hn0:0<n
   · have d2:decide ((0:Int)<(n:Int))=true:=by simpa using hn0
     go_wp2
     refine wp_loop_rounds 1 ?_
     rw [rounds_succ]
     go_wp2
     go_ret
     exact ⟨rfl,rfl⟩
   · have d2:decide ((0:Int)<(n:Int))=false:=by simpa using hn0
     go_wp2
     refine wp_loop_rounds 1 ?_
     rw [rounds_succ]
     go_wp2
     go_ret
     exact ⟨rfl,rfl⟩
theorem marked_any:∀ (deep g n d:Nat) (W:World) (ms:List MI) (l:List It),deep≤4→RdR W (some ⟨g,0,none⟩) n ms→All2 (RdM d W) ms l→n≤1048576→(∀ i∈l,Sz d i)→MkR deep W g n ms →
 Calls Tryz.prog 43 #[.slice (some ⟨g,0,none⟩) n (n+1),.int .i64 (deep:Nat)] W fun x W'=>x = .returned (.bool true)∧W'=W
 | 0,g,n,d,W,ms,l,_,hR,hA,hn,hs,hk=>marked_step 0 (by omega) g n W ms hR hn hk (fun h=>absurd h (by omega))
 | k+1,g,n,d,W,ms,l,hdp,hR,hA,hn,hs,hk=>by
  refine marked_step (k+1) hdp g n W ms hR hn hk.1 fun _ m hm => ?_
  obtain ⟨g',ms',e1,e2,e3,e4⟩:=hk.2 m hm
  obtain ⟨j,hj⟩:=List.getElem?_of_mem hm
  have hjl:j<l.length:=by have:=hA.length;have:=(List.getElem?_eq_some_iff.1 hj).1;omega
  have hM:=hA.get hj (List.getElem?_eq_getElem hjl)
  obtain ⟨e,ms2,hR2,hA2,hse,hmn,_⟩:=hM.parts (hs _ (List.getElem_mem _))
  have hc:(((k+1:Nat):Int) - 1)=(k:Int):=by omega
  rw [hc,e2,e1]
  have heq:ms2=ms':=by
   have hl2:ms2.length=ms'.length:=by rw [←hR2.1,←e3.1]
   refine List.ext_getElem? fun q => ?_
   cases hq:ms2[q]? with
   | none=>rw [List.getElem?_eq_none_iff] at hq;exact (List.getElem?_eq_none_iff.2 (by omega)).symm
   | some a=>
    obtain ⟨b,hb⟩:∃ b,ms'[q]? = some b:=⟨ms'[q]'(by have:=(List.getElem?_eq_some_iff.1 hq).1;omega),List.getElem?_eq_getElem _⟩
    rw [hb]
    obtain ⟨ga,za,ea,ra⟩:=hR2.2.2.resolve_left (by have:=(List.getElem?_eq_some_iff.1 hq).1;have:=hR2.1;omega)
    obtain ⟨gb,zb,eb,rb⟩:=e3.2.2.resolve_left (by have:=(List.getElem?_eq_some_iff.1 hq).1;have:=hR2.1;omega)
    rw [ea] at eb
    cases eb
    have hh:∀ k v v',(mi1 a)[k]? = some v→(mi1 b)[k]? = some v'→v=v':=fun k v v' h1 h2=>by
     have r1:=ra q a hq k v h1
     rw [rb q b hb k v' h2] at r1
     exact (Option.some.inj r1).symm
    have a0:=hh 0 _ _ rfl rfl
    have a1:=hh 1 _ _ rfl rfl
    have a2:=hh 2 _ _ rfl rfl
    have a3:=hh 3 _ _ rfl rfl
    have a4:=hh 4 _ _ rfl rfl
    have a5:=hh 5 _ _ rfl rfl
    have a6:=hh 6 _ _ rfl rfl
    have a7:=hh 7 _ _ rfl rfl
    obtain ⟨x0,x1,x2,x3,x4,x5,x6,x7,x8,x9⟩:=a
    obtain ⟨y0,y1,y2,y3,y4,y5,y6,y7,y8,y9⟩:=b
    simp only [Value.int.injEq,Value.string.injEq,Value.slice.injEq,Value.bool.injEq,true_and] at a0 a1 a2 a3 a4 a5 a6 a7
    obtain ⟨b1,b2,b3⟩:=a3
    subst a0 a1 a2 b1 b2 b3 a4 a5 a6 a7
    rfl
  subst heq
  rw [e1] at e3
  exact marked_any k g' m.n e W ms2 _ (by omega) e3 hA2 hmn hse e4
set_option maxHeartbeats 4000000 in
theorem counted_step (deep:Nat) (hdeep:deep≤9) (W:World) (A:Option Addr) (n c:Nat) (ms:List MI) (hR:RdR W A n ms) (hn:n≤1048576)
 (hsub:0<deep→∀ m∈ms,∀ W2,Below W.heap.size W W2→Calls Tryz.prog 33 #[.slice m.A m.n m.c,.int .i64 20000,.int .i64 ((deep:Int) - 1)] W2 fun x W'=>(∃ r:Int,x = .returned (.int .i64 r)∧0≤r∧r≤1048576+20001*(deep:Int))∧Below W2.heap.size W2 W') :
 Calls Tryz.prog 33 #[.slice A n c,.int .i64 20000,.int .i64 (deep:Nat)] W fun x W'=>(∃ r:Int,x = .returned (.int .i64 r)∧0≤r∧r≤1048576+20001*((deep:Int)+1))∧Below W.heap.size W W':=by
 have H:Hid (n=ms.length∧(n=0∨∃ g z,A=some ⟨g,z,none⟩∧ReadsI W g z ms)):=⟨hR.1,hR.2.2⟩
 have HSUB:=Hid.mk2 hsub
 clear hR hsub
 go_enter Tryz.func33,Tryz.ntmps33
 go_wp2
 go_loopw [7,8] (fun vr vi wr=>∃ (r:Int) (j:Nat),vr = .int .i64 r∧vi = .int .i64 j∧j≤n∧0≤r∧r≤1048576+20001*((deep:Int)+1)∧Hid (Below W.heap.size W wr)) (fun _ vi _=>n - (intOf vi).toNat)
 case atStart=>exact ⟨n,0,rfl,rfl,by omega,by omega,by omega,Below.refl _ _⟩
 case round=>
  obtain ⟨r,j,rfl,rfl,hj,hr0,hr1,HB⟩:=hrel
  obtain ⟨wo,rfl⟩:∃ wo,wo=wr:=⟨_,rfl⟩
  by_cases hjn:j<n
  · have e1:decide ((j:Int)<(n:Int))=true:=by simpa using hjn
    by_cases hr2:r≤20000
    · have e2:decide (r≤(20000:Int))=true:=by simpa using hr2
      obtain ⟨m,hm⟩:∃ m,ms[j]? = some m:=⟨ms[j]'(by have:=H.out.1;omega),List.getElem?_eq_getElem _⟩
      obtain ⟨g,z,hA,hr⟩:=H.out.2.resolve_left (by omega)
      subst hA
      have q3:=ck_below HB.out _ _ (hr j m hm 3 _ rfl)
      by_cases hd:0<deep
      · have d1:decide ((0:Int)<(deep:Int))=true:=by simpa using hd
        have d2:decide ((deep:Int)<1)=false:=by simp;omega
        have hd1:(1:Int)≤(deep:Int):=by omega
        have HC:=Hid.mk2 (HSUB.out hd m (List.mem_of_getElem? hm) wo HB.out)
        clear hm hr HSUB
        by_cases hmn:0<m.n
        · have d3:decide ((0:Int)<(m.n:Int))=true:=by simpa using hmn
          go_wp2_with fail
          refine HC.out.mono ?_
          rintro x w2 ⟨⟨r2,rfl,k1,k2⟩,hb2⟩
          have HB2:Hid (Below W.heap.size W w2):=HB.out.trans (hb2.mono HB.out.size)
          have hrr:r+r2≤1048576+20001*((deep:Int)+1):=by omega
          have hrr0:0≤r+r2:=by omega
          clear hb2 HC q3
          go_wp2
          exact ⟨⟨r+r2,j+1,by go_num,by go_num,by omega,hrr0,hrr,HB2⟩,by simp [intOf];omega⟩
        · have d3:decide ((0:Int)<(m.n:Int))=false:=by simpa using hmn
          go_wp2_with fail
          refine HC.out.mono ?_
          rintro x w2 ⟨⟨r2,rfl,k1,k2⟩,hb2⟩
          have HB2:Hid (Below W.heap.size W w2):=HB.out.trans (hb2.mono HB.out.size)
          have hrr:r+r2≤1048576+20001*((deep:Int)+1):=by omega
          have hrr0:0≤r+r2:=by omega
          clear hb2 HC q3
          go_wp2
          exact ⟨⟨r+r2,j+1,by go_num,by go_num,by omega,hrr0,hrr,HB2⟩,by simp [intOf];omega⟩
      · have d1:decide ((0:Int)<(deep:Int))=false:=by simpa using hd
        have d2:decide ((deep:Int)<1)=true:=by simp;omega
        clear hm hr HSUB
        by_cases hmn:0<m.n
        · have d3:decide ((0:Int)<(m.n:Int))=true:=by simpa using hmn
          go_wp2
          go_ret
          exact ⟨⟨20001,rfl,by omega,by omega⟩,HB.out⟩
        · have d3:decide ((0:Int)<(m.n:Int))=false:=by simpa using hmn
          go_wp2
          exact ⟨⟨r,j+1,rfl,by go_num,by omega,hr0,hr1,HB⟩,by simp [intOf];omega⟩
    · have e2:decide (r≤(20000:Int))=false:=by simpa using hr2
      clear HSUB
      go_wp2
      go_ret
      exact ⟨⟨r,rfl,hr0,hr1⟩,HB.out⟩
  · have e1:decide ((j:Int)<(n:Int))=false:=by simpa using hjn
    clear HSUB
    go_wp2
    go_ret
    exact ⟨⟨r,rfl,hr0,hr1⟩,HB.out⟩
theorem counted_any:∀ (deep:Nat),deep≤9→∀ (d:Nat) (W:World) (A:Option Addr) (n c:Nat) (l:List It),RdI d W A n l→n≤1048576→(∀ i∈l,Sz d i) →
 Calls Tryz.prog 33 #[.slice A n c,.int .i64 20000,.int .i64 (deep:Nat)] W fun x W'=>(∃ r:Int,x = .returned (.int .i64 r)∧0≤r∧r≤1048576+20001*((deep:Int)+1))∧Below W.heap.size W W'
 | deep,hdeep,d,W,A,n,c,l,hI,hn,hs=>by
  obtain ⟨ms,hR,hA⟩:=hI
  refine counted_step deep hdeep W A n c ms hR hn fun h1 m hm W2 hb => ?_
  obtain ⟨j,hj⟩:=List.getElem?_of_mem hm
  have hjl:j<l.length:=by have:=hA.length;have:=(List.getElem?_eq_some_iff.1 hj).1;omega
  have hM:=hA.get hj (List.getElem?_eq_getElem hjl)
  obtain ⟨e,ms2,hR2,hA2,hse,hmn,_⟩:=hM.parts (hs _ (List.getElem_mem _))
  match deep,h1 with
  | k+1,_=>
   have hc:(((k+1:Nat):Int) - 1)=(k:Int):=by omega
   rw [hc]
   refine (counted_any k (by omega) e W2 m.A m.n m.c _ ⟨ms2,hR2.ck (ck_below hb),hA2.mono fun _ _ r=>r.ck (ck_below hb)⟩ hmn hse).mono ?_
   rintro x W' ⟨⟨r,e1,e2,e3⟩,hb'⟩
   exact ⟨⟨r,e1,e2,by omega⟩,hb'⟩
end Go.Proofs
