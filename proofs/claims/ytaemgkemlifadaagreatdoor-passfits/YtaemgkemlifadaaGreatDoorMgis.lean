/-
  Several texts in one (Sb Sd Se).
-/
import Derived.RangeFuncNested
import Derived.RangeFuncBound
import Derived.RangeFuncCalls
import Derived.RangeFuncLeaves
import Derived.Shelf.Abstract
import Derived.Shelf.RegionOpen
import Derived.WalkKit
import Derived.WalkSpells
import Derived.WalkLawsBesides
import Derived.OwnWalkIn
import Derived.TacticsInMore
import Derived.LoopNIn
import Derived.LoopIn
import Derived.BigQuiet
import Derived.RegionIn
import Derived.Deep.QuietTactic
import Derived.Deep.RegionWith
import Derived.Lib.OthersKept
import Derived.Maps.AppendAt
import Derived.Lib.SmallJoins
import Derived.Shelf.SlSortCmp.QuietGrown
import Derived.Test.YtaemgkemlifadaaGreatDoorMghs
namespace Go.Proofs
open Go.RowKit Go.Shelf
set_option maxRecDepth 100000
attribute [local go_sem] Oper.semAt_some
attribute [local go_sem ↓] Go.wp_at_zero Go.wp_at_succ
set_option maxHeartbeats 4000000 in
theorem swapRange_any {w0 w:World} {blk cap n:Nat} {d:List Int} (h:Sq w0 w blk cap n d) (a b k:Nat) (cv:Value) (hab:a+k≤b) (hb:b+k≤n) (hn:n≤1000000) :
 Calls Tryz.prog 137 #[.slice (some ⟨blk,0,none⟩) n cap,.int .i64 a,.int .i64 b,.int .i64 k,cv] w fun e w'=>e = .returned (.tuple #[])∧∃ d',Sq w0 w' blk cap n d'∧Ex d d' a b k:=by
 have HS:Hid (Sq w0 w blk cap n d):=h
 have hnI:(n:Int)≤1000000:=by omega
 clear h
 go_enter Tryz.func137,Tryz.ntmps137
 go_wp2
 go_loopw [10] (fun vi wr=>∃ i:Nat,vi = .int .i64 i∧i≤k∧Hid (∃ e,Sq w0 wr blk cap n e∧Ex d e a b i)) (fun vi _=>k - (intOf vi).toNat)
 case atStart=>exact ⟨0,rfl,by omega,d,HS.out,Ex.zero d a b⟩
 case round=>
  obtain ⟨i,rfl,hi,HE⟩:=hrel
  have hi0:(0:Int)≤(i:Int):=by omega
  by_cases hlt:i<k
  · have hltI:(i:Int)<(k:Int):=by omega
    obtain ⟨e,hsq,hex⟩:=HE.out
    have hlen:e.length=n:=hsq.l
    have c1:=hsq.cell (j:=a+i) (by omega)
    have c2:=hsq.cell (j:=b+i) (by omega)
    have hf:=hsq.frozen
    have HQ:Hid (∀ V,Grown wr V→Sq w0 ((V.setCell ⟨blk,a+i,none⟩ (.int .i64 (bAt e (b+i)))).setCell ⟨blk,b+i,none⟩ (.int .i64 (bAt e (a+i)))) blk cap n (swp e (a+i) (b+i))):=fun V hg=>(hsq.grown hg).swap (by omega) (by omega)
    have HX:Hid (Ex d (swp e (a+i) (b+i)) a b (i+1)):=hex.succ hlt hab (by have:=hex.l;omega)
    generalize bAt e (a+i)=x at c1 HQ
    generalize bAt e (b+i)=y at c2 HQ
    have a0:(0:Int)≤(a:Int):=by omega
    have b0:(0:Int)≤(b:Int):=by omega
    have a1:(a:Int)+(i:Int)<(n:Int):=by omega
    have b1:(b:Int)+(i:Int)<(n:Int):=by omega
    have hne:a+i≠b+i:=by omega
    have t1:((a:Int)+(i:Int)).toNat=a+i:=by omega
    have t2:((b:Int)+(i:Int)).toNat=b+i:=by omega
    clear hsq hex HE
    go_wp2
    go_region
    all_goals (go_wp2;exact ⟨⟨i+1,by go_num,by omega,_,(HQ.out wr (Grown.refl _)).grown ((Grown.refl _).drew),HX.out⟩,by simp [intOf];omega⟩)
  · have hge:¬ (i:Int)<(k:Int):=by omega
    have hik:i=k:=by omega
    subst hik
    go_wp2
    go_end0
    exact ⟨rfl,HE.out⟩
set_option maxHeartbeats 4000000 in
theorem rotate_any {w0 w:World} {blk cap n:Nat} {d:List Int} (h:Sq w0 w blk cap n d) (a m b:Nat) (cv:Value) (ham:a<m) (hmb:m<b) (hb:b≤n) (hn:n≤1000000) :
 Calls Tryz.prog 124 #[.slice (some ⟨blk,0,none⟩) n cap,.int .i64 a,.int .i64 m,.int .i64 b,cv] w fun e w'=>e = .returned (.tuple #[])∧∃ d',Sq w0 w' blk cap n d'∧Rot d d' a m b:=by
 have HS:Hid (Sq w0 w blk cap n d):=h
 have hnI:(n:Int)≤1000000:=by omega
 have hdl:d.length=n:=h.l
 clear h
 go_enter Tryz.func124,Tryz.ntmps124
 go_wp2
 go_loopw [10,11] (fun v10 v11 wr=>∃ i j:Nat,v10 = .int .i64 i∧v11 = .int .i64 j∧Hid (∃ e,Sq w0 wr blk cap n e∧RotI d e a m b i j)) (fun v10 v11 _=>(intOf v10).toNat+(intOf v11).toNat)
 case atStart=>exact ⟨m - a,b - m,by rw [show (m:Int) - a=((m - a:Nat):Int) by omega],by rw [show (b:Int) - m=((b - m:Nat):Int) by omega],d,HS.out,rotI_start ham hmb⟩
 case round=>
  obtain ⟨i,j,rfl,rfl,HE⟩:=hrel
  obtain ⟨e,hsq,hR⟩:=HE.out
  have hi1:=hR.i1
  have hi2:=hR.i2
  have hj1:=hR.j1
  have hj2:=hR.j2
  have i0:(0:Int)≤(i:Int):=by omega
  have j0:(0:Int)≤(j:Int):=by omega
  have iI:(i:Int)≤(m:Int):=by omega
  have mI:(m:Int)≤1000000:=by omega
  have jI:(j:Int)≤1000000:=by omega
  have m0:(0:Int)≤(m:Int):=by omega
  by_cases hij:i=j
  · subst hij
    have HC:Hid (Calls Tryz.prog 137 #[.slice (some ⟨blk,0,none⟩) n cap,.int .i64 ((m:Int) - (i:Int)),.int .i64 m,.int .i64 i,cv] wr fun e' w'=>e' = .returned (.tuple #[])∧∃ d',Sq w0 w' blk cap n d'∧Ex e d' (m - i) m i):=by
     rw [show (m:Int) - (i:Int)=((m - i:Nat):Int) by omega]
     exact swapRange_any hsq (m - i) m i cv (by omega) (by omega) hn
    have HR:=Hid.mk' hR
    clear hsq hR HE
    go_wp2_with (go_at_call 137;refine HC.out.mono ?_;rintro e' w1 ⟨rfl,f,hs1,hx1⟩;have H1:Hid (Sq w0 w1 blk cap n f∧Rot d f a m b):=⟨hs1,HR.out.done hx1⟩;clear hs1 hx1)
    go_end0
    exact ⟨rfl,f,H1.out⟩
  · have hne:(i:Int)≠(j:Int):=by omega
    have hneb:((i:Int) != (j:Int))=true:=by simpa using hne
    by_cases hgt:j<i
    · have hgtI:(j:Int)<(i:Int):=by omega
      have HC:Hid (Calls Tryz.prog 137 #[.slice (some ⟨blk,0,none⟩) n cap,.int .i64 ((m:Int) - (i:Int)),.int .i64 m,.int .i64 j,cv] wr fun e' w'=>e' = .returned (.tuple #[])∧∃ d',Sq w0 w' blk cap n d'∧Ex e d' (m - i) m j):=by
       rw [show (m:Int) - (i:Int)=((m - i:Nat):Int) by omega]
       exact swapRange_any hsq (m - i) m j cv (by omega) (by omega) hn
      have HR:=Hid.mk' hR
      clear hsq hR HE
      go_wp2_with (go_at_call 137;refine HC.out.mono ?_;rintro e' w1 ⟨rfl,f,hs1,hx1⟩;have H1:Hid (Sq w0 w1 blk cap n f∧RotI d f a m b (i - j) j):=⟨hs1,HR.out.left (by omega) hgt hx1⟩;clear hs1 hx1)
      exact ⟨⟨i - j,j,by rw [show (i:Int) - j=((i - j:Nat):Int) by omega],rfl,f,H1.out⟩,by simp [intOf];omega⟩
    · have hgtI:¬ (j:Int)<(i:Int):=by omega
      have HC:Hid (Calls Tryz.prog 137 #[.slice (some ⟨blk,0,none⟩) n cap,.int .i64 ((m:Int) - (i:Int)),.int .i64 ((m:Int)+(j:Int) - (i:Int)),.int .i64 i,cv] wr fun e' w'=>e' = .returned (.tuple #[])∧∃ d',Sq w0 w' blk cap n d'∧Ex e d' (m - i) (m+j - i) i):=by
       rw [show (m:Int) - (i:Int)=((m - i:Nat):Int) by omega,show (m:Int)+(j:Int) - (i:Int)=((m+j - i:Nat):Int) by omega]
       exact swapRange_any hsq (m - i) (m+j - i) i cv (by omega) (by omega) hn
      have HR:=Hid.mk' hR
      clear hsq hR HE
      go_wp2_with (go_at_call 137;refine HC.out.mono ?_;rintro e' w1 ⟨rfl,f,hs1,hx1⟩;have H1:Hid (Sq w0 w1 blk cap n f∧RotI d f a m b i (j - i)):=⟨hs1,HR.out.right (by omega) (by omega) hx1⟩;clear hs1 hx1)
      exact ⟨⟨i,j - i,rfl,by rw [show (j:Int) - i=((j - i:Nat):Int) by omega],f,H1.out⟩,by simp [intOf];omega⟩
def CmpC (w0:World) (blk n:Nat) (key:Int→Int) (bx:Nat):Prop:=∀ W,Fr w0 W (fun b=>b=blk)→∀ x y:Int,0≤x→x<n→0≤y→y<n→Calls Tryz.prog 71 #[.int .i64 x,.int .i64 y,.pointer (some ⟨bx,0,none⟩)] W fun e w'=>e = .returned (.int .i64 (key y - key x))∧Grown W w'
set_option maxHeartbeats 8000000 in
theorem insertion_any {w0 w:World} {blk cap n:Nat} {d:List Int} {key:Int→Int} {bx:Nat} (h:Sq w0 w blk cap n d) (hc:CmpC w0 blk n key bx) (hkey:∀ x,0≤key x∧key x≤1000000) (a b:Nat) (hab:a≤b) (hb:b≤n) (hn:n≤1000000) (hx:∀ i j,a≤i→i<j→j<b→bAt d i<bAt d j) :
 Calls Tryz.prog 111 #[.slice (some ⟨blk,0,none⟩) n cap,.int .i64 a,.int .i64 b,.func (.func 71) #[] #[.pointer (some ⟨bx,0,none⟩)]] w fun e w'=>e = .returned (.tuple #[])∧∃ d',Sq w0 w' blk cap n d'∧Mix d d' a b∧SS key d' a b:=by
 have HS:Hid (Sq w0 w blk cap n d):=h
 have HC:=Hid.mk' hc
 have HK:=Hid.mk' hkey
 have HX:=Hid.mk' hx
 have hnI:(n:Int)≤1000000:=by omega
 have hdl:d.length=n:=h.l
 have a0:(0:Int)≤(a:Int):=by omega
 have bI:(b:Int)≤(n:Int):=by omega
 clear h hc hkey hx
 go_enter Tryz.func111,Tryz.ntmps111
 go_wp2
 go_loopw [8] (fun vi wr=>∃ i:Nat,vi = .int .i64 ((i:Int)+1)∧a≤i∧(i<b∨i=a)∧Hid (∃ e,Sq w0 wr blk cap n e∧Mix d e a (min (i+1) b)∧SS key e a (min (i+1) b))) (fun vi _=>b+1 - (intOf vi).toNat)
 case atStart=>exact ⟨a,rfl,Nat.le_refl _,.inr rfl,d,HS.out,Mix.refl _ _ _,fun i j h1 h2 h3=>by omega⟩
 case round=>
  obtain ⟨i,rfl,hai,hib,HE⟩:=hrel
  have hi0:(0:Int)≤(i:Int):=by omega
  by_cases hlt:i+1<b
  · have hltI:(i:Int)+1<(b:Int):=by omega
    have HE1:Hid (∃ e,Sq w0 wr blk cap n e∧Mix d e a (i+1)∧SS key e a (i+1)):=by
     have:=HE.out
     rw [show min (i+1) b=i+1 by omega] at this
     exact this
    obtain ⟨e,hsq,hmix,hss⟩:=HE1.out
    have HM:=Hid.mk' hmix
    have HSS:=Hid.mk' hss
    have HQ:=Hid.mk' hsq
    clear HE HE1 hsq hmix hss
    go_wp2
    go_loopw [9] (fun vj wr=>∃ j:Nat,vj = .int .i64 j∧a≤j∧j≤i+1∧Hid (∃ f,Sq w0 wr blk cap n f∧MvL e f (i+1) j∧∀ t,j≤t→t<i+1→lt key (bAt e (i+1)) (bAt e t))) (fun vj _=>(intOf vj).toNat)
    case atStart=>exact ⟨i+1,by go_num,by omega,Nat.le_refl _,e,HQ.out,MvL.zero _ _,fun t h1 h2=>by omega⟩
    case round=>
     obtain ⟨j,rfl,haj,hji,HF⟩:=hrel
     have hj0:(0:Int)≤(j:Int):=by omega
     obtain ⟨f,hsq,hmv,hlt2⟩:=HF.out
     by_cases hja:a<j
     · have hjaI:(a:Int)<(j:Int):=by omega
       have hjad:decide ((a:Int)<(j:Int))=true:=by simpa using hjaI
       have c1:=hsq.cell (j:=j) (by omega)
       have c2:=hsq.cell (j:=j - 1) (by omega)
       have r1:=hsq.r j (by omega)
       have r2:=hsq.r (j - 1) (by omega)
       have hfz:=hsq.frozen
       have e1:bAt f j=bAt e (i+1):=hmv.y
       have e2:bAt f (j - 1)=bAt e (j - 1):=hmv.z (j - 1) (by omega)
       have HC1:Hid (∀ m os,Calls Tryz.prog 71 #[.int .i64 (bAt f j),.int .i64 (bAt f (j - 1)),.pointer (some ⟨bx,0,none⟩)] (Go.Sort.grow (wr.drewN m) os) fun e w'=>e = .returned (.int .i64 (key (bAt f (j - 1)) - key (bAt f j)))∧Grown (Go.Sort.grow (wr.drewN m) os) w'):=fun m os=>HC.out _ ((hsq.grown ((Grown.refl wr).quiet m os)).f) _ _ r1.1 r1.2 r2.1 r2.2
       have t1:((j:Int) - 1).toNat=j - 1:=by omega
       have k1:=fun m os=>((Grown.refl wr).quiet m os).cellv c1
       have k2:=fun m os=>((Grown.refl wr).quiet m os).cellv c2
       have hK1:=HK.out (bAt f j)
       have hK2:=HK.out (bAt f (j - 1))
       have hpos:=hj0
       obtain ⟨D,hD⟩:∃ D,key (bAt f (j - 1)) - key (bAt f j)=D:=⟨_,rfl⟩
       rw [hD] at HC1
       by_cases hcl:key (bAt f (j - 1))<key (bAt f j)
       · have hDl:D<0:=by omega
         have hDd:decide (D<0)=true:=by simpa using hDl
         have HSW:Hid (∀ V,Grown wr V→Sq w0 ((V.setCell ⟨blk,j,none⟩ (.int .i64 (bAt f (j - 1)))).setCell ⟨blk,j - 1,none⟩ (.int .i64 (bAt f j))) blk cap n (swp f j (j - 1))):=fun V hg=>(hsq.grown hg).swap (by omega) (by omega)
         have HNX:Hid (MvL e (swp f j (j - 1)) (i+1) (j - 1)∧∀ t,j - 1≤t→t<i+1→lt key (bAt e (i+1)) (bAt e t)):=by
          have hel:e.length=n:=HQ.out.l
          refine ⟨?_,fun t h1 h2 => ?_⟩
          · have:=MvL.succ (k:=j - 1) (by rw [show j - 1+1=j by omega];exact hmv) (by omega) (by omega)
            rw [show j - 1+1=j by omega] at this
            exact this
          · by_cases ht:t=j - 1
            · subst ht;rw [←e1,←e2];exact lt_clt hcl
            · exact hlt2 t (by omega) h2
         have HFZ:Hid (∀ V,Grown wr V→∀ j,V.frozen? ⟨blk,j,none⟩=false):=fun V hg j=>(hsq.grown hg).frozen j
         generalize bAt f j=x at *
         generalize bAt f (j - 1)=y at *
         clear hsq hmv hlt2 HF hcl hK1 hK2 hD e1 e2 r1 r2
         go_wp2
         refine wp_region_quiet_grown mixed (by kernel_rfl) ?_
         repeat (go_big_quiet_step ((go_at_call 71;exact grown_of (HC1.out _ _))))
         refine wpQuiet_nil ?_
         intro _ hw'
         obtain ⟨⟨nq,osq⟩,hw''⟩:=hw'
         subst hw''
         have g1:=k1 nq osq
         have g2:=k2 nq osq
         have gG:Grown wr (Go.Sort.grow (wr.drewN nq) osq):=(Grown.refl wr).quiet nq osq
         have HS2:=Hid.mk' (fun V (hg:Grown (Go.Sort.grow (wr.drewN nq) osq) V)=>HSW.out V (gG.trans hg))
         have gf:∀ j,(Go.Sort.grow (wr.drewN nq) osq).frozen? ⟨blk,j,none⟩=false:=fun j=>HFZ.out _ gG j
         generalize Go.Sort.grow (wr.drewN nq) osq=wB at g1 g2 HS2 gf ⊢
         clear k1 k2 HC1 c1 c2 hfz HSW gG
         go_wp2
         go_region
         all_goals (go_wp2;exact ⟨⟨j - 1,by rw [show (j:Int) - 1=((j - 1:Nat):Int) by omega],by omega,by omega,_,(HS2.out wB (Grown.refl _)).grown ((Grown.refl _).drew),HNX.out.1,HNX.out.2⟩,by simp [intOf];omega⟩)
       · have HFIN:Hid (∀ V,Grown wr V→∃ e',Sq w0 V blk cap n e'∧Mix d e' a (min (i+1+1) b)∧SS key e' a (min (i+1+1) b)):=fun V hg=>by
          have hdn:=hmv.done (key:=key) haj hji HSS.out (.inr (lt_not (by
           obtain ⟨t,p1,p2,p3⟩:=(HM.out.s (bAt e (j - 1))).1 ⟨j - 1,by omega,by omega,rfl⟩
           rw [←p3,HM.out.o (i+1) (by omega)]
           exact HX.out t (i+1) p1 p2 hlt) (by rw [←e1,←e2];exact hcl))) (if hjx:j=i+1 then .inl hjx else .inr (hlt2 j (Nat.le_refl _) (by omega)))
          rw [show min (i+1+1) b=i+1+1 by omega]
          exact ⟨f,hsq.grown hg,(HM.out.wide (Nat.le_refl _) (by omega)).trans hdn.1,hdn.2⟩
         have hDl:¬ D<0:=by omega
         have hDd:decide (D<0)=false:=by simpa using hDl
         generalize bAt f j=x at *
         generalize bAt f (j - 1)=y at *
         clear hsq hmv hlt2 HF hcl hK1 hK2 hD e1 e2 r1 r2 hfz
         go_wp2
         refine wp_region_quiet_grown mixed (by kernel_rfl) ?_
         repeat (go_big_quiet_step ((go_at_call 71;exact grown_of (HC1.out _ _))))
         refine wpQuiet_nil ?_
         intro _ hw'
         obtain ⟨⟨nq,osq⟩,hw''⟩:=hw'
         subst hw''
         go_wp2
         exact ⟨⟨i+1,by go_num,by omega,.inl (by omega),HFIN.out _ ((Grown.refl wr).quiet _ _)⟩,by simp [intOf];omega⟩
     · have HFIN:Hid (∀ V,Grown wr V→∃ e',Sq w0 V blk cap n e'∧Mix d e' a (min (i+1+1) b)∧SS key e' a (min (i+1+1) b)):=fun V hg=>by
        have hdn:=hmv.done (key:=key) haj hji HSS.out (.inl (by omega)) (if hjx:j=i+1 then .inl hjx else .inr (hlt2 j (Nat.le_refl _) (by omega)))
        rw [show min (i+1+1) b=i+1+1 by omega]
        exact ⟨f,hsq.grown hg,(HM.out.wide (Nat.le_refl _) (by omega)).trans hdn.1,hdn.2⟩
       have hjaI:¬ (a:Int)<(j:Int):=by omega
       have hjad:decide ((a:Int)<(j:Int))=false:=by simpa using hjaI
       clear hsq hmv hlt2 HF
       go_wp2
       refine wp_region_quiet_grown mixed (by kernel_rfl) ?_
       repeat (go_big_quiet_step (fail))
       refine wpQuiet_nil ?_
       intro _ hw'
       obtain ⟨⟨nq,osq⟩,hw''⟩:=hw'
       subst hw''
       go_wp2
       exact ⟨⟨i+1,by go_num,by omega,.inl (by omega),HFIN.out _ ((Grown.refl wr).quiet _ _)⟩,by simp [intOf];omega⟩
  · have hge:¬ (i:Int)+1<(b:Int):=by omega
    have HE2:Hid (∃ e,Sq w0 wr blk cap n e∧Mix d e a b∧SS key e a b):=by
     have:=HE.out
     rw [show min (i+1) b=b by omega] at this
     exact this
    go_wp2
    go_end0
    exact ⟨rfl,HE2.out⟩
set_option maxHeartbeats 16000000 in
theorem sym_one {w0 w:World} {blk cap n:Nat} {d:List Int} {key:Int→Int} {bx:Nat} (h:Sq w0 w blk cap n d) (hc:CmpC w0 blk n key bx) (hkey:∀ x,0≤key x∧key x≤1000000) (a b:Nat) (hab:a+1≤b) (hb:b≤n) (hn:n≤1000000) (hs:SS key d (a+1) b) (hx:Hx d a (a+1) b) :
 Calls Tryz.prog 112 #[.slice (some ⟨blk,0,none⟩) n cap,.int .i64 a,.int .i64 ((a:Int)+1),.int .i64 b,.func (.func 71) #[] #[.pointer (some ⟨bx,0,none⟩)]] w fun e w'=>e = .returned (.tuple #[])∧∃ d',Sq w0 w' blk cap n d'∧Mix d d' a b∧SS key d' a b:=by
 have HS:Hid (Sq w0 w blk cap n d):=h
 have HC:=Hid.mk' hc
 have HK:=Hid.mk' hkey
 have HSS:=Hid.mk' hs
 have HX:=Hid.mk' hx
 have hnI:(n:Int)≤1000000:=by omega
 have hdl:d.length=n:=h.l
 have a0:(0:Int)≤(a:Int):=by omega
 have aI:(a:Int)<(n:Int):=by omega
 have bI:(b:Int)≤(n:Int):=by omega
 have hone:(a:Int)+1 - (a:Int)=1:=by omega
 have ca:=h.cell (j:=a) (by omega)
 clear h hc hkey hs hx
 go_enter Tryz.func112,Tryz.ntmps112
 go_wp2
 go_loopw [10,11] (fun v10 v11 wr=>∃ i j:Nat,v10 = .int .i64 i∧v11 = .int .i64 j∧a+1≤i∧i≤j∧j≤b∧Hid (Sq w0 wr blk cap n d∧(i=a+1∨lt key (bAt d (i - 1)) (bAt d a))∧(j=b∨lt key (bAt d a) (bAt d j)))) (fun v10 v11 _=>(intOf v11).toNat - (intOf v10).toNat)
 case atStart=>exact ⟨a+1,b,by go_num,rfl,Nat.le_refl _,hab,Nat.le_refl _,HS.out,.inl rfl,.inl rfl⟩
 case round=>
  obtain ⟨i,j,rfl,rfl,hai,hij,hjb,HF⟩:=hrel
  have i0:(0:Int)≤(i:Int):=by omega
  have j0:(0:Int)≤(j:Int):=by omega
  have iI:(i:Int)≤1000000:=by omega
  have jI:(j:Int)≤1000000:=by omega
  by_cases hlt:i<j
  · have hltI:(i:Int)<(j:Int):=by omega
    go_wp2_with fail
    have hq:((i:Int)+(j:Int)) / 2=(((i+j) / 2:Nat):Int):=by omega
    rw [hq]
    obtain ⟨h,hh⟩:∃ h,(i+j) / 2=h:=⟨_,rfl⟩
    have hih:i≤h:=by omega
    have hhj:h<j:=by omega
    rw [hh]
    clear hq hh
    have h0:(0:Int)≤(h:Int):=by omega
    have hI:(h:Int)<(n:Int):=by omega
    obtain ⟨hsq,hc1,hc2⟩:=HF.out
    have c1:=hsq.cell (j:=h) (by omega)
    have c2:=hsq.cell (j:=a) (by omega)
    have r1:=hsq.r h (by omega)
    have r2:=hsq.r a (by omega)
    have HC1:Hid (∀ m os,Calls Tryz.prog 71 #[.int .i64 (bAt d h),.int .i64 (bAt d a),.pointer (some ⟨bx,0,none⟩)] (Go.Sort.grow (wr.drewN m) os) fun e w'=>e = .returned (.int .i64 (key (bAt d a) - key (bAt d h)))∧Grown (Go.Sort.grow (wr.drewN m) os) w'):=fun m os=>HC.out _ ((hsq.grown ((Grown.refl wr).quiet m os)).f) _ _ r1.1 r1.2 r2.1 r2.2
    have k1:=fun m os=>((Grown.refl wr).quiet m os).cellv c1
    have k2:=fun m os=>((Grown.refl wr).quiet m os).cellv c2
    have hK1:=HK.out (bAt d h)
    have hK2:=HK.out (bAt d a)
    have HSG:=Hid.mk' (fun m os=>hsq.grown ((Grown.refl wr).quiet m os))
    obtain ⟨D,hD⟩:∃ D,key (bAt d a) - key (bAt d h)=D:=⟨_,rfl⟩
    rw [hD] at HC1
    have HY:Hid (D<0→lt key (bAt d h) (bAt d a)):=fun hl=>lt_clt (by omega)
    have HN:Hid (¬ D<0→lt key (bAt d a) (bAt d h)):=fun hl=>lt_not (HX.out a h (Nat.le_refl _) (by omega) (by omega) (by omega)) (by omega)
    have H1:=Hid.mk' hc1
    have H2:=Hid.mk' hc2
    generalize bAt d h=x at c1 HC1 k1
    generalize bAt d a=y at c2 ca HC1 k2
    clear hsq HF hc1 hc2 hD r1 r2 hK1 hK2
    by_cases hDl:D<0
    · have hDd:decide (D<0)=true:=by simpa using hDl
      have HY2:=Hid.mk' (HY.out hDl)
      clear HY HN
      refine wp_region_quiet_grown mixed (by kernel_rfl) ?_
      repeat (go_big_quiet_step ((go_at_call 71;exact grown_of (HC1.out _ _))))
      refine wpQuiet_nil ?_
      intro _ hw'
      obtain ⟨⟨nq,osq⟩,hw''⟩:=hw'
      subst hw''
      go_wp2
      exact ⟨⟨h+1,j,by go_num,rfl,by omega,by omega,hjb,HSG.out _ _,.inr (by rw [Nat.add_sub_cancel];exact HY2.out),H2.out⟩,by simp [intOf];omega⟩
    · have hDd:decide (D<0)=false:=by simpa using hDl
      have HN2:=Hid.mk' (HN.out hDl)
      clear HY HN
      refine wp_region_quiet_grown mixed (by kernel_rfl) ?_
      repeat (go_big_quiet_step ((go_at_call 71;exact grown_of (HC1.out _ _))))
      refine wpQuiet_nil ?_
      intro _ hw'
      obtain ⟨⟨nq,osq⟩,hw''⟩:=hw'
      subst hw''
      go_wp2
      exact ⟨⟨i,h,rfl,rfl,hai,hih,by omega,HSG.out _ _,H1.out,.inr HN2.out⟩,by simp [intOf];omega⟩
  · have hge:¬ (i:Int)<(j:Int):=by omega
    have hjx:j=i:=by omega
    subst hjx
    obtain ⟨hsq,hc1,hc2⟩:=HF.out
    have H1:=Hid.mk' hc1
    have H2:=Hid.mk' hc2
    have HSQ:=Hid.mk' hsq
    clear HF hsq hc1 hc2 ca
    go_wp2
    go_loopw [13] (fun vk wr=>∃ k:Nat,vk = .int .i64 k∧a≤k∧k≤j - 1∧Hid (∃ f,Sq w0 wr blk cap n f∧MvR d f a k)) (fun vk _=>j - (intOf vk).toNat)
    case atStart=>exact ⟨a,rfl,Nat.le_refl _,by omega,d,HSQ.out,MvR.zero _ _⟩
    case round=>
     obtain ⟨k,rfl,hak,hkj,HE⟩:=hrel
     have k0:(0:Int)≤(k:Int):=by omega
     obtain ⟨f,hsq,hmv⟩:=HE.out
     by_cases hltk:k<j - 1
     · have hltkI:(k:Int)<(j:Int) - 1:=by omega
       have c1:=hsq.cell (j:=k) (by omega)
       have c2:=hsq.cell (j:=k+1) (by omega)
       have hfz:=hsq.frozen
       have HQ:Hid (∀ V,Grown wr V→Sq w0 ((V.setCell ⟨blk,k,none⟩ (.int .i64 (bAt f (k+1)))).setCell ⟨blk,k+1,none⟩ (.int .i64 (bAt f k))) blk cap n (swp f k (k+1))):=fun V hg=>(hsq.grown hg).swap (by omega) (by omega)
       have HM:=Hid.mk' (hmv.succ hak (by omega))
       generalize bAt f k=x at c1 HQ
       generalize bAt f (k+1)=y at c2 HQ
       have kI:(k:Int)+1<(n:Int):=by omega
       have t1:((k:Int)+1).toNat=k+1:=by omega
       clear hsq hmv HE
       go_wp2
       go_region
       all_goals (go_wp2;exact ⟨⟨k+1,by go_num,by omega,by omega,_,(HQ.out wr (Grown.refl _)).grown ((Grown.refl _).drew),HM.out⟩,by simp [intOf];omega⟩)
     · have hgek:¬ (k:Int)<(j:Int) - 1:=by omega
       have hkk:k=j - 1:=by omega
       have HFI:Hid (∃ d',Sq w0 wr blk cap n d'∧Mix d d' a b∧SS key d' a b):=by
        rw [hkk] at hmv
        exact ⟨f,hsq,hmv.done hai hjb HSS.out H1.out H2.out⟩
       clear hsq hmv HE hkk
       go_wp2
       refine bodyPost_ret (results_none rfl _ _ _) rfl ?_
       exact ⟨rfl,HFI.out⟩
set_option maxHeartbeats 16000000 in
theorem sym_two {w0 w:World} {blk cap n:Nat} {d:List Int} {key:Int→Int} {bx:Nat} (h:Sq w0 w blk cap n d) (hc:CmpC w0 blk n key bx) (hkey:∀ x,0≤key x∧key x≤1000000) (a m:Nat) (ham:a+1<m) (hb:m+1≤n) (hn:n≤1000000) (hs:SS key d a m) (hx:Hx d a m (m+1)) :
 Calls Tryz.prog 112 #[.slice (some ⟨blk,0,none⟩) n cap,.int .i64 a,.int .i64 m,.int .i64 ((m:Int)+1),.func (.func 71) #[] #[.pointer (some ⟨bx,0,none⟩)]] w fun e w'=>e = .returned (.tuple #[])∧∃ d',Sq w0 w' blk cap n d'∧Mix d d' a (m+1)∧SS key d' a (m+1):=by
 have HS:Hid (Sq w0 w blk cap n d):=h
 have HC:=Hid.mk' hc
 have HK:=Hid.mk' hkey
 have HSS:=Hid.mk' hs
 have HX:=Hid.mk' hx
 have hnI:(n:Int)≤1000000:=by omega
 have hdl:d.length=n:=h.l
 have a0:(0:Int)≤(a:Int):=by omega
 have m0:(0:Int)≤(m:Int):=by omega
 have mI:(m:Int)<(n:Int):=by omega
 have hone:(m:Int)+1 - (m:Int)=1:=by omega
 have hno:((m:Int) - (a:Int) == 1)=false:=by simp;omega
 have cm:=h.cell (j:=m) (by omega)
 clear h hc hkey hs hx
 go_enter Tryz.func112,Tryz.ntmps112
 go_wp2
 go_loopw [14,15] (fun v10 v11 wr=>∃ i j:Nat,v10 = .int .i64 i∧v11 = .int .i64 j∧a≤i∧i≤j∧j≤m∧Hid (Sq w0 wr blk cap n d∧(i=a∨lt key (bAt d (i - 1)) (bAt d m))∧(j=m∨lt key (bAt d m) (bAt d j)))) (fun v10 v11 _=>(intOf v11).toNat - (intOf v10).toNat)
 case atStart=>exact ⟨a,m,rfl,rfl,Nat.le_refl _,by omega,Nat.le_refl _,HS.out,.inl rfl,.inl rfl⟩
 case round=>
  obtain ⟨i,j,rfl,rfl,hai,hij,hjb,HF⟩:=hrel
  have i0:(0:Int)≤(i:Int):=by omega
  have j0:(0:Int)≤(j:Int):=by omega
  have iI:(i:Int)≤1000000:=by omega
  have jI:(j:Int)≤1000000:=by omega
  by_cases hlt:i<j
  · have hltI:(i:Int)<(j:Int):=by omega
    go_wp2_with fail
    have hq:((i:Int)+(j:Int)) / 2=(((i+j) / 2:Nat):Int):=by omega
    rw [hq]
    obtain ⟨h,hh⟩:∃ h,(i+j) / 2=h:=⟨_,rfl⟩
    have hih:i≤h:=by omega
    have hhj:h<j:=by omega
    rw [hh]
    clear hq hh
    have h0:(0:Int)≤(h:Int):=by omega
    have hI:(h:Int)<(n:Int):=by omega
    obtain ⟨hsq,hc1,hc2⟩:=HF.out
    have c1:=hsq.cell (j:=h) (by omega)
    have c2:=hsq.cell (j:=m) (by omega)
    have r1:=hsq.r h (by omega)
    have r2:=hsq.r m (by omega)
    have HC1:Hid (∀ q os,Calls Tryz.prog 71 #[.int .i64 (bAt d m),.int .i64 (bAt d h),.pointer (some ⟨bx,0,none⟩)] (Go.Sort.grow (wr.drewN q) os) fun e w'=>e = .returned (.int .i64 (key (bAt d h) - key (bAt d m)))∧Grown (Go.Sort.grow (wr.drewN q) os) w'):=fun q os=>HC.out _ ((hsq.grown ((Grown.refl wr).quiet q os)).f) _ _ r2.1 r2.2 r1.1 r1.2
    have k1:=fun q os=>((Grown.refl wr).quiet q os).cellv c1
    have k2:=fun q os=>((Grown.refl wr).quiet q os).cellv c2
    have hK1:=HK.out (bAt d h)
    have hK2:=HK.out (bAt d m)
    have HSG:=Hid.mk' (fun q os=>hsq.grown ((Grown.refl wr).quiet q os))
    obtain ⟨D,hD⟩:∃ D,key (bAt d h) - key (bAt d m)=D:=⟨_,rfl⟩
    rw [hD] at HC1
    have HY:Hid (D<0→lt key (bAt d m) (bAt d h)):=fun hl=>lt_clt (by omega)
    have HN:Hid (¬ D<0→lt key (bAt d h) (bAt d m)):=fun hl=>lt_not (HX.out h m (by omega) (by omega) (Nat.le_refl _) (by omega)) (by omega)
    have H1:=Hid.mk' hc1
    have H2:=Hid.mk' hc2
    generalize bAt d h=x at c1 HC1 k1
    generalize bAt d m=y at c2 cm HC1 k2
    clear hsq HF hc1 hc2 hD r1 r2 hK1 hK2
    by_cases hDl:D<0
    · have hDd:decide (D<0)=true:=by simpa using hDl
      have HY2:=Hid.mk' (HY.out hDl)
      clear HY HN
      refine wp_region_quiet_grown mixed (by kernel_rfl) ?_
      repeat (go_big_quiet_step ((go_at_call 71;exact grown_of (HC1.out _ _))))
      refine wpQuiet_nil ?_
      intro _ hw'
      obtain ⟨⟨nq,osq⟩,hw''⟩:=hw'
      subst hw''
      go_wp2
      exact ⟨⟨i,h,rfl,rfl,hai,hih,by omega,HSG.out _ _,H1.out,.inr HY2.out⟩,by simp [intOf];omega⟩
    · have hDd:decide (D<0)=false:=by simpa using hDl
      have HN2:=Hid.mk' (HN.out hDl)
      clear HY HN
      refine wp_region_quiet_grown mixed (by kernel_rfl) ?_
      repeat (go_big_quiet_step ((go_at_call 71;exact grown_of (HC1.out _ _))))
      refine wpQuiet_nil ?_
      intro _ hw'
      obtain ⟨⟨nq,osq⟩,hw''⟩:=hw'
      subst hw''
      go_wp2
      exact ⟨⟨h+1,j,by go_num,rfl,by omega,by omega,hjb,HSG.out _ _,.inr (by rw [Nat.add_sub_cancel];exact HN2.out),H2.out⟩,by simp [intOf];omega⟩
  · have hge:¬ (i:Int)<(j:Int):=by omega
    have hjx:j=i:=by omega
    subst hjx
    obtain ⟨hsq,hc1,hc2⟩:=HF.out
    have H1:=Hid.mk' hc1
    have H2:=Hid.mk' hc2
    have HSQ:=Hid.mk' hsq
    clear HF hsq hc1 hc2 cm
    go_wp2
    go_loopw [17] (fun vk wr=>∃ k:Nat,vk = .int .i64 k∧j≤k∧k≤m∧Hid (∃ f,Sq w0 wr blk cap n f∧MvL d f m k)) (fun vk _=>(intOf vk).toNat)
    case atStart=>exact ⟨m,rfl,hjb,Nat.le_refl _,d,HSQ.out,MvL.zero _ _⟩
    case round=>
     obtain ⟨k,rfl,hak,hkj,HE⟩:=hrel
     have k0:(0:Int)≤(k:Int):=by omega
     obtain ⟨f,hsq,hmv⟩:=HE.out
     by_cases hltk:j<k
     · have hltkI:(j:Int)<(k:Int):=by omega
       have c1:=hsq.cell (j:=k) (by omega)
       have c2:=hsq.cell (j:=k - 1) (by omega)
       have hfz:=hsq.frozen
       have HQ:Hid (∀ V,Grown wr V→Sq w0 ((V.setCell ⟨blk,k,none⟩ (.int .i64 (bAt f (k - 1)))).setCell ⟨blk,k - 1,none⟩ (.int .i64 (bAt f k))) blk cap n (swp f k (k - 1))):=fun V hg=>(hsq.grown hg).swap (by omega) (by omega)
       have HM:Hid (MvL d (swp f k (k - 1)) m (k - 1)):=by
        have:=MvL.succ (k:=k - 1) (by rw [show k - 1+1=k by omega];exact hmv) (by omega) (by omega)
        rw [show k - 1+1=k by omega] at this
        exact this
       generalize bAt f k=x at c1 HQ
       generalize bAt f (k - 1)=y at c2 HQ
       have kI:(k:Int)<(n:Int):=by omega
       have t1:((k:Int) - 1).toNat=k - 1:=by omega
       clear hsq hmv HE
       go_wp2
       go_region
       all_goals (go_wp2;exact ⟨⟨k - 1,by rw [show (k:Int) - 1=((k - 1:Nat):Int) by omega],by omega,by omega,_,(HQ.out wr (Grown.refl _)).grown ((Grown.refl _).drew),HM.out⟩,by simp [intOf];omega⟩)
     · have hgek:¬ (j:Int)<(k:Int):=by omega
       have hkk:k=j:=by omega
       have HFI:Hid (∃ d',Sq w0 wr blk cap n d'∧Mix d d' a (m+1)∧SS key d' a (m+1)):=by
        rw [hkk] at hmv
        exact ⟨f,hsq,hmv.done hai hjb HSS.out H1.out H2.out⟩
       clear hsq hmv HE hkk
       go_wp2
       refine bodyPost_ret (results_none rfl _ _ _) rfl ?_
       exact ⟨rfl,HFI.out⟩
end Go.Proofs
