/-
  Several texts in one (Se Sf Sg Sh Si Ob Oc Od Sj Ra2).
-/
import Derived.RangeFuncNested
import Derived.RangeFuncBound
import Derived.RangeFuncCalls
import Derived.RangeFuncLeaves
import Derived.Shelf.Abstract
import Derived.Shelf.RegionOpen
import Derived.WalkKit
import Derived.WalkSpells
import Derived.WalkLawsBesides
import Derived.OwnWalkIn
import Derived.TacticsInMore
import Derived.LoopNIn
import Derived.LoopIn
import Derived.BigQuiet
import Derived.RegionIn
import Derived.Deep.QuietTactic
import Derived.Deep.RegionWith
import Derived.Lib.OthersKept
import Derived.Maps.AppendAt
import Derived.Lib.SmallJoins
import Derived.Shelf.SlSortCmp.QuietGrown
import Derived.Test.YtcfcjljapamcoabGreatDoorMgdr
import Derived.Test.YtcfcjljapamcoabGreatDoorMgar
import Derived.Deep.AppendLies
import Derived.Deep.Upon
import Derived.Lib.AppendZeros
namespace Go.Proofs
open Go.RowKit Go.Shelf
set_option maxRecDepth 100000
attribute [local go_sem] Oper.semAt_some
attribute [local go_sem ↓] Go.wp_at_zero Go.wp_at_succ
set_option maxHeartbeats 16000000 in
theorem sym_one {w0 w:World} {blk cap n:Nat} {d:List Int} {key:Int→Int} {bx:Nat} (h:Sq w0 w blk cap n d) (hc:CmpC w0 blk n key bx) (hkey:∀ x,0≤key x∧key x≤1000000) (a b:Nat) (hab:a+1≤b) (hb:b≤n) (hn:n≤1000000) (hs:SS key d (a+1) b) (hx:Hx d a (a+1) b) :
 Calls Tryz.prog 139 #[.slice (some ⟨blk,0,none⟩) n cap,.int .i64 a,.int .i64 ((a:Int)+1),.int .i64 b,.func (.func 93) #[] #[.pointer (some ⟨bx,0,none⟩)]] w fun e w'=>e = .returned (.tuple #[])∧∃ d',Sq w0 w' blk cap n d'∧Mix d d' a b∧SS key d' a b:=by
 have HS:Hid (Sq w0 w blk cap n d):=h
 have HC:=Hid.mk' hc
 have HK:=Hid.mk' hkey
 have HSS:=Hid.mk' hs
 have HX:=Hid.mk' hx
 have hnI:(n:Int)≤1000000:=by omega
 have hdl:d.length=n:=h.l
 have a0:(0:Int)≤(a:Int):=by omega
 have aI:(a:Int)<(n:Int):=by omega
 have bI:(b:Int)≤(n:Int):=by omega
 have hone:(a:Int)+1 - (a:Int)=1:=by omega
 have ca:=h.cell (j:=a) (by omega)
 clear h hc hkey hs hx
 go_enter Tryz.func139,Tryz.ntmps139
 go_wp2
 go_loopw [10,11] (fun v10 v11 wr=>∃ i j:Nat,v10 = .int .i64 i∧v11 = .int .i64 j∧a+1≤i∧i≤j∧j≤b∧Hid (Sq w0 wr blk cap n d∧(i=a+1∨lt key (bAt d (i - 1)) (bAt d a))∧(j=b∨lt key (bAt d a) (bAt d j)))) (fun v10 v11 _=>(intOf v11).toNat - (intOf v10).toNat)
 case atStart=>exact ⟨a+1,b,by go_num,rfl,Nat.le_refl _,hab,Nat.le_refl _,HS.out,.inl rfl,.inl rfl⟩
 case round=>
  obtain ⟨i,j,rfl,rfl,hai,hij,hjb,HF⟩:=hrel
  have i0:(0:Int)≤(i:Int):=by omega
  have j0:(0:Int)≤(j:Int):=by omega
  have iI:(i:Int)≤1000000:=by omega
  have jI:(j:Int)≤1000000:=by omega
  by_cases hlt:i<j
  · have hltI:(i:Int)<(j:Int):=by omega
    go_wp2_with fail
    have hq:((i:Int)+(j:Int)) / 2=(((i+j) / 2:Nat):Int):=by omega
    rw [hq]
    obtain ⟨h,hh⟩:∃ h,(i+j) / 2=h:=⟨_,rfl⟩
    have hih:i≤h:=by omega
    have hhj:h<j:=by omega
    rw [hh]
    clear hq hh
    have h0:(0:Int)≤(h:Int):=by omega
    have hI:(h:Int)<(n:Int):=by omega
    obtain ⟨hsq,hc1,hc2⟩:=HF.out
    have c1:=hsq.cell (j:=h) (by omega)
    have c2:=hsq.cell (j:=a) (by omega)
    have r1:=hsq.r h (by omega)
    have r2:=hsq.r a (by omega)
    have HC1:Hid (∀ m os,Calls Tryz.prog 93 #[.int .i64 (bAt d h),.int .i64 (bAt d a),.pointer (some ⟨bx,0,none⟩)] (Go.Sort.grow (wr.drewN m) os) fun e w'=>e = .returned (.int .i64 (key (bAt d a) - key (bAt d h)))∧Grown (Go.Sort.grow (wr.drewN m) os) w'):=fun m os=>HC.out _ ((hsq.grown ((Grown.refl wr).quiet m os)).f) _ _ r1.1 r1.2 r2.1 r2.2
    have k1:=fun m os=>((Grown.refl wr).quiet m os).cellv c1
    have k2:=fun m os=>((Grown.refl wr).quiet m os).cellv c2
    have hK1:=HK.out (bAt d h)
    have hK2:=HK.out (bAt d a)
    have HSG:=Hid.mk' (fun m os=>hsq.grown ((Grown.refl wr).quiet m os))
    obtain ⟨D,hD⟩:∃ D,key (bAt d a) - key (bAt d h)=D:=⟨_,rfl⟩
    rw [hD] at HC1
    have HY:Hid (D<0→lt key (bAt d h) (bAt d a)):=fun hl=>lt_clt (by omega)
    have HN:Hid (¬ D<0→lt key (bAt d a) (bAt d h)):=fun hl=>lt_not (HX.out a h (Nat.le_refl _) (by omega) (by omega) (by omega)) (by omega)
    have H1:=Hid.mk' hc1
    have H2:=Hid.mk' hc2
    generalize bAt d h=x at c1 HC1 k1
    generalize bAt d a=y at c2 ca HC1 k2
    clear hsq HF hc1 hc2 hD r1 r2 hK1 hK2
    by_cases hDl:D<0
    · have hDd:decide (D<0)=true:=by simpa using hDl
      have HY2:=Hid.mk' (HY.out hDl)
      clear HY HN
      refine wp_region_quiet_grown mixed (by kernel_rfl) ?_
      repeat (go_big_quiet_step ((go_at_call 93;exact grown_of (HC1.out _ _))))
      refine wpQuiet_nil ?_
      intro _ hw'
      obtain ⟨⟨nq,osq⟩,hw''⟩:=hw'
      subst hw''
      go_wp2
      exact ⟨⟨h+1,j,by go_num,rfl,by omega,by omega,hjb,HSG.out _ _,.inr (by rw [Nat.add_sub_cancel];exact HY2.out),H2.out⟩,by simp [intOf];omega⟩
    · have hDd:decide (D<0)=false:=by simpa using hDl
      have HN2:=Hid.mk' (HN.out hDl)
      clear HY HN
      refine wp_region_quiet_grown mixed (by kernel_rfl) ?_
      repeat (go_big_quiet_step ((go_at_call 93;exact grown_of (HC1.out _ _))))
      refine wpQuiet_nil ?_
      intro _ hw'
      obtain ⟨⟨nq,osq⟩,hw''⟩:=hw'
      subst hw''
      go_wp2
      exact ⟨⟨i,h,rfl,rfl,hai,hih,by omega,HSG.out _ _,H1.out,.inr HN2.out⟩,by simp [intOf];omega⟩
  · have hge:¬ (i:Int)<(j:Int):=by omega
    have hjx:j=i:=by omega
    subst hjx
    obtain ⟨hsq,hc1,hc2⟩:=HF.out
    have H1:=Hid.mk' hc1
    have H2:=Hid.mk' hc2
    have HSQ:=Hid.mk' hsq
    clear HF hsq hc1 hc2 ca
    go_wp2
    go_loopw [13] (fun vk wr=>∃ k:Nat,vk = .int .i64 k∧a≤k∧k≤j - 1∧Hid (∃ f,Sq w0 wr blk cap n f∧MvR d f a k)) (fun vk _=>j - (intOf vk).toNat)
    case atStart=>exact ⟨a,rfl,Nat.le_refl _,by omega,d,HSQ.out,MvR.zero _ _⟩
    case round=>
     obtain ⟨k,rfl,hak,hkj,HE⟩:=hrel
     have k0:(0:Int)≤(k:Int):=by omega
     obtain ⟨f,hsq,hmv⟩:=HE.out
     by_cases hltk:k<j - 1
     · have hltkI:(k:Int)<(j:Int) - 1:=by omega
       have c1:=hsq.cell (j:=k) (by omega)
       have c2:=hsq.cell (j:=k+1) (by omega)
       have hfz:=hsq.frozen
       have HQ:Hid (∀ V,Grown wr V→Sq w0 ((V.setCell ⟨blk,k,none⟩ (.int .i64 (bAt f (k+1)))).setCell ⟨blk,k+1,none⟩ (.int .i64 (bAt f k))) blk cap n (swp f k (k+1))):=fun V hg=>(hsq.grown hg).swap (by omega) (by omega)
       have HM:=Hid.mk' (hmv.succ hak (by omega))
       generalize bAt f k=x at c1 HQ
       generalize bAt f (k+1)=y at c2 HQ
       have kI:(k:Int)+1<(n:Int):=by omega
       have t1:((k:Int)+1).toNat=k+1:=by omega
       clear hsq hmv HE
       go_wp2
       go_region
       all_goals (go_wp2;exact ⟨⟨k+1,by go_num,by omega,by omega,_,(HQ.out wr (Grown.refl _)).grown ((Grown.refl _).drew),HM.out⟩,by simp [intOf];omega⟩)
     · have hgek:¬ (k:Int)<(j:Int) - 1:=by omega
       have hkk:k=j - 1:=by omega
       have HFI:Hid (∃ d',Sq w0 wr blk cap n d'∧Mix d d' a b∧SS key d' a b):=by
        rw [hkk] at hmv
        exact ⟨f,hsq,hmv.done hai hjb HSS.out H1.out H2.out⟩
       clear hsq hmv HE hkk
       go_wp2
       refine bodyPost_ret (results_none rfl _ _ _) rfl ?_
       exact ⟨rfl,HFI.out⟩
set_option maxHeartbeats 16000000 in
theorem sym_two {w0 w:World} {blk cap n:Nat} {d:List Int} {key:Int→Int} {bx:Nat} (h:Sq w0 w blk cap n d) (hc:CmpC w0 blk n key bx) (hkey:∀ x,0≤key x∧key x≤1000000) (a m:Nat) (ham:a+1<m) (hb:m+1≤n) (hn:n≤1000000) (hs:SS key d a m) (hx:Hx d a m (m+1)) :
 Calls Tryz.prog 139 #[.slice (some ⟨blk,0,none⟩) n cap,.int .i64 a,.int .i64 m,.int .i64 ((m:Int)+1),.func (.func 93) #[] #[.pointer (some ⟨bx,0,none⟩)]] w fun e w'=>e = .returned (.tuple #[])∧∃ d',Sq w0 w' blk cap n d'∧Mix d d' a (m+1)∧SS key d' a (m+1):=by
 have HS:Hid (Sq w0 w blk cap n d):=h
 have HC:=Hid.mk' hc
 have HK:=Hid.mk' hkey
 have HSS:=Hid.mk' hs
 have HX:=Hid.mk' hx
 have hnI:(n:Int)≤1000000:=by omega
 have hdl:d.length=n:=h.l
 have a0:(0:Int)≤(a:Int):=by omega
 have m0:(0:Int)≤(m:Int):=by omega
 have mI:(m:Int)<(n:Int):=by omega
 have hone:(m:Int)+1 - (m:Int)=1:=by omega
 have hno:((m:Int) - (a:Int) == 1)=false:=by simp;omega
 have cm:=h.cell (j:=m) (by omega)
 clear h hc hkey hs hx
 go_enter Tryz.func139,Tryz.ntmps139
 go_wp2
 go_loopw [14,15] (fun v10 v11 wr=>∃ i j:Nat,v10 = .int .i64 i∧v11 = .int .i64 j∧a≤i∧i≤j∧j≤m∧Hid (Sq w0 wr blk cap n d∧(i=a∨lt key (bAt d (i - 1)) (bAt d m))∧(j=m∨lt key (bAt d m) (bAt d j)))) (fun v10 v11 _=>(intOf v11).toNat - (intOf v10).toNat)
 case atStart=>exact ⟨a,m,rfl,rfl,Nat.le_refl _,by omega,Nat.le_refl _,HS.out,.inl rfl,.inl rfl⟩
 case round=>
  obtain ⟨i,j,rfl,rfl,hai,hij,hjb,HF⟩:=hrel
  have i0:(0:Int)≤(i:Int):=by omega
  have j0:(0:Int)≤(j:Int):=by omega
  have iI:(i:Int)≤1000000:=by omega
  have jI:(j:Int)≤1000000:=by omega
  by_cases hlt:i<j
  · have hltI:(i:Int)<(j:Int):=by omega
    go_wp2_with fail
    have hq:((i:Int)+(j:Int)) / 2=(((i+j) / 2:Nat):Int):=by omega
    rw [hq]
    obtain ⟨h,hh⟩:∃ h,(i+j) / 2=h:=⟨_,rfl⟩
    have hih:i≤h:=by omega
    have hhj:h<j:=by omega
    rw [hh]
    clear hq hh
    have h0:(0:Int)≤(h:Int):=by omega
    have hI:(h:Int)<(n:Int):=by omega
    obtain ⟨hsq,hc1,hc2⟩:=HF.out
    have c1:=hsq.cell (j:=h) (by omega)
    have c2:=hsq.cell (j:=m) (by omega)
    have r1:=hsq.r h (by omega)
    have r2:=hsq.r m (by omega)
    have HC1:Hid (∀ q os,Calls Tryz.prog 93 #[.int .i64 (bAt d m),.int .i64 (bAt d h),.pointer (some ⟨bx,0,none⟩)] (Go.Sort.grow (wr.drewN q) os) fun e w'=>e = .returned (.int .i64 (key (bAt d h) - key (bAt d m)))∧Grown (Go.Sort.grow (wr.drewN q) os) w'):=fun q os=>HC.out _ ((hsq.grown ((Grown.refl wr).quiet q os)).f) _ _ r2.1 r2.2 r1.1 r1.2
    have k1:=fun q os=>((Grown.refl wr).quiet q os).cellv c1
    have k2:=fun q os=>((Grown.refl wr).quiet q os).cellv c2
    have hK1:=HK.out (bAt d h)
    have hK2:=HK.out (bAt d m)
    have HSG:=Hid.mk' (fun q os=>hsq.grown ((Grown.refl wr).quiet q os))
    obtain ⟨D,hD⟩:∃ D,key (bAt d h) - key (bAt d m)=D:=⟨_,rfl⟩
    rw [hD] at HC1
    have HY:Hid (D<0→lt key (bAt d m) (bAt d h)):=fun hl=>lt_clt (by omega)
    have HN:Hid (¬ D<0→lt key (bAt d h) (bAt d m)):=fun hl=>lt_not (HX.out h m (by omega) (by omega) (Nat.le_refl _) (by omega)) (by omega)
    have H1:=Hid.mk' hc1
    have H2:=Hid.mk' hc2
    generalize bAt d h=x at c1 HC1 k1
    generalize bAt d m=y at c2 cm HC1 k2
    clear hsq HF hc1 hc2 hD r1 r2 hK1 hK2
    by_cases hDl:D<0
    · have hDd:decide (D<0)=true:=by simpa using hDl
      have HY2:=Hid.mk' (HY.out hDl)
      clear HY HN
      refine wp_region_quiet_grown mixed (by kernel_rfl) ?_
      repeat (go_big_quiet_step ((go_at_call 93;exact grown_of (HC1.out _ _))))
      refine wpQuiet_nil ?_
      intro _ hw'
      obtain ⟨⟨nq,osq⟩,hw''⟩:=hw'
      subst hw''
      go_wp2
      exact ⟨⟨i,h,rfl,rfl,hai,hih,by omega,HSG.out _ _,H1.out,.inr HY2.out⟩,by simp [intOf];omega⟩
    · have hDd:decide (D<0)=false:=by simpa using hDl
      have HN2:=Hid.mk' (HN.out hDl)
      clear HY HN
      refine wp_region_quiet_grown mixed (by kernel_rfl) ?_
      repeat (go_big_quiet_step ((go_at_call 93;exact grown_of (HC1.out _ _))))
      refine wpQuiet_nil ?_
      intro _ hw'
      obtain ⟨⟨nq,osq⟩,hw''⟩:=hw'
      subst hw''
      go_wp2
      exact ⟨⟨h+1,j,by go_num,rfl,by omega,by omega,hjb,HSG.out _ _,.inr (by rw [Nat.add_sub_cancel];exact HN2.out),H2.out⟩,by simp [intOf];omega⟩
  · have hge:¬ (i:Int)<(j:Int):=by omega
    have hjx:j=i:=by omega
    subst hjx
    obtain ⟨hsq,hc1,hc2⟩:=HF.out
    have H1:=Hid.mk' hc1
    have H2:=Hid.mk' hc2
    have HSQ:=Hid.mk' hsq
    clear HF hsq hc1 hc2 cm
    go_wp2
    go_loopw [17] (fun vk wr=>∃ k:Nat,vk = .int .i64 k∧j≤k∧k≤m∧Hid (∃ f,Sq w0 wr blk cap n f∧MvL d f m k)) (fun vk _=>(intOf vk).toNat)
    case atStart=>exact ⟨m,rfl,hjb,Nat.le_refl _,d,HSQ.out,MvL.zero _ _⟩
    case round=>
     obtain ⟨k,rfl,hak,hkj,HE⟩:=hrel
     have k0:(0:Int)≤(k:Int):=by omega
     obtain ⟨f,hsq,hmv⟩:=HE.out
     by_cases hltk:j<k
     · have hltkI:(j:Int)<(k:Int):=by omega
       have c1:=hsq.cell (j:=k) (by omega)
       have c2:=hsq.cell (j:=k - 1) (by omega)
       have hfz:=hsq.frozen
       have HQ:Hid (∀ V,Grown wr V→Sq w0 ((V.setCell ⟨blk,k,none⟩ (.int .i64 (bAt f (k - 1)))).setCell ⟨blk,k - 1,none⟩ (.int .i64 (bAt f k))) blk cap n (swp f k (k - 1))):=fun V hg=>(hsq.grown hg).swap (by omega) (by omega)
       have HM:Hid (MvL d (swp f k (k - 1)) m (k - 1)):=by
        have:=MvL.succ (k:=k - 1) (by rw [show k - 1+1=k by omega];exact hmv) (by omega) (by omega)
        rw [show k - 1+1=k by omega] at this
        exact this
       generalize bAt f k=x at c1 HQ
       generalize bAt f (k - 1)=y at c2 HQ
       have kI:(k:Int)<(n:Int):=by omega
       have t1:((k:Int) - 1).toNat=k - 1:=by omega
       clear hsq hmv HE
       go_wp2
       go_region
       all_goals (go_wp2;exact ⟨⟨k - 1,by rw [show (k:Int) - 1=((k - 1:Nat):Int) by omega],by omega,by omega,_,(HQ.out wr (Grown.refl _)).grown ((Grown.refl _).drew),HM.out⟩,by simp [intOf];omega⟩)
     · have hgek:¬ (j:Int)<(k:Int):=by omega
       have hkk:k=j:=by omega
       have HFI:Hid (∃ d',Sq w0 wr blk cap n d'∧Mix d d' a (m+1)∧SS key d' a (m+1)):=by
        rw [hkk] at hmv
        exact ⟨f,hsq,hmv.done hai hjb HSS.out H1.out H2.out⟩
       clear hsq hmv HE hkk
       go_wp2
       refine bodyPost_ret (results_none rfl _ _ _) rfl ?_
       exact ⟨rfl,HFI.out⟩
structure SymP (key:Int→Int) (d:List Int) (a m b mid st en:Nat):Prop where
 sa:SS key d a m
 sb:SS key d m b
 hx:Hx d a m b
 s1:a≤st
 s2:st≤m
 e1:m≤en
 e2:en≤b
 e3:mid=st+(en - m)
 c1:a<st→en<b→lt key (bAt d (st - 1)) (bAt d en)
 c2:st<m→m<en→lt key (bAt d (en - 1)) (bAt d st)
theorem SymP.rl {key:Int→Int} {d d1:List Int} {a m b mid st en:Nat} (h:SymP key d a m b mid st en) (hr:Rot d d1 st m en):SS key d1 a st∧SS key d1 st mid∧Hx d1 a st mid∧SS key d1 mid en∧SS key d1 en b∧Hx d1 mid en b:=by
 rw [h.e3]
 exact rot_left h.sa h.sb h.hx h.s1 h.s2 h.e1 h.e2 hr
theorem SymP.nl {key:Int→Int} {d1:List Int} {a b mid st en:Nat} (h:SS key d1 a st∧SS key d1 st mid∧Hx d1 a st mid∧SS key d1 mid en∧SS key d1 en b∧Hx d1 mid en b) (hz:st=a∨st=mid):Mix d1 d1 a mid∧SS key d1 a mid:=by
 refine ⟨Mix.refl _ _ _,?_⟩
 rcases hz with rfl | rfl
 · exact h.2.1
 · exact h.1
theorem SymP.a2 {key:Int→Int} {d1 d2:List Int} {a b mid st en:Nat} (h:SS key d1 a st∧SS key d1 st mid∧Hx d1 a st mid∧SS key d1 mid en∧SS key d1 en b∧Hx d1 mid en b) (hm:Mix d1 d2 a mid) (hme:mid≤en:=by omega):SS key d2 mid en∧SS key d2 en b∧Hx d2 mid en b:=by
 have e1:∀ k,mid≤k→bAt d2 k=bAt d1 k:=fun k hk=>hm.o k (by omega)
 refine ⟨h.2.2.2.1.same fun k h1 _=>e1 k h1,h.2.2.2.2.1.same fun k h1 _=>e1 k (by omega),fun i j h1 h2 h3 h4 => ?_⟩
 rw [e1 i h1,e1 j (by omega)];exact h.2.2.2.2.2 i j h1 h2 h3 h4
theorem SymP.nr {key:Int→Int} {d2:List Int} {b mid en:Nat} (h:SS key d2 mid en∧SS key d2 en b∧Hx d2 mid en b) (hz:en=mid∨en=b):Mix d2 d2 mid b∧SS key d2 mid b:=by
 refine ⟨Mix.refl _ _ _,?_⟩
 rcases hz with rfl | rfl
 · exact h.2.1
 · exact h.1
theorem SymP.fin {key:Int→Int} {d d1 d2 d3:List Int} {a m b mid st en:Nat} {w0 W:World} {blk cap n:Nat} (h:SymP key d a m b mid st en) (hs:Sq w0 W blk cap n d3) (hr:Rot d d1 st m en) (h2:Mix d1 d2 a mid∧SS key d2 a mid) (h3:Mix d2 d3 mid b∧SS key d3 mid b):∃ d',Sq w0 W blk cap n d'∧Mix d d' a b∧SS key d' a b:=
 ⟨d3,hs,sym_done h.sa h.sb h.s1 h.s2 h.e1 h.e2 h.e3 h.c1 h.c2 hr h2.1 h2.2 h3.1 h3.2⟩
set_option maxHeartbeats 32000000 in
theorem sym_any {w0:World} {blk cap n:Nat} {key:Int→Int} {bx:Nat} (hc:CmpC w0 blk n key bx) (hkey:∀ x,0≤key x∧key x≤1000000) (hn:n≤1000000):∀ (N a m b:Nat) (d:List Int) (w:World),b - a≤N→a<m→m<b→b≤n→Sq w0 w blk cap n d→SS key d a m→SS key d m b→Hx d a m b →
 Calls Tryz.prog 139 #[.slice (some ⟨blk,0,none⟩) n cap,.int .i64 a,.int .i64 m,.int .i64 b,.func (.func 93) #[] #[.pointer (some ⟨bx,0,none⟩)]] w fun e w'=>e = .returned (.tuple #[])∧∃ d',Sq w0 w' blk cap n d'∧Mix d d' a b∧SS key d' a b:=by
 intro N
 induction N with
 | zero=>intro a m b d w h1 h2 h3;omega
 | succ N ih=>
 intro a m b d w hN ham hmb hb h hsa hsb hx
 by_cases h1:m=a+1
 · subst h1
   have:=sym_one h hc hkey a b (by omega) hb hn hsb hx
   rw [show ((a+1:Nat):Int)=(a:Int)+1 by omega]
   exact this
 by_cases h2:b=m+1
 · subst h2
   have:=sym_two h hc hkey a m (by omega) hb hn hsa hx
   rw [show ((m+1:Nat):Int)=(m:Int)+1 by omega]
   exact this
 have IH:=Hid.mk' ih
 have HS:Hid (Sq w0 w blk cap n d):=h
 have HC:=Hid.mk' hc
 have HK:=Hid.mk' hkey
 have HSA:=Hid.mk' hsa
 have HSB:=Hid.mk' hsb
 have HX:=Hid.mk' hx
 have hnI:(n:Int)≤1000000:=by omega
 have hdl:d.length=n:=h.l
 have a0:(0:Int)≤(a:Int):=by omega
 have m0:(0:Int)≤(m:Int):=by omega
 have b0:(0:Int)≤(b:Int):=by omega
 have aI:(a:Int)≤1000000:=by omega
 have mI:(m:Int)≤1000000:=by omega
 have bI:(b:Int)≤1000000:=by omega
 have hno:((m:Int) - (a:Int) == 1)=false:=by simp;omega
 have hno2:((b:Int) - (m:Int) == 1)=false:=by simp;omega
 clear h hc hkey hsa hsb hx ih
 have hq:((a:Int)+(b:Int)) / 2=(((a+b) / 2:Nat):Int):=by omega
 obtain ⟨mid,hmid⟩:∃ mid,(a+b) / 2=mid:=⟨_,rfl⟩
 have hm1:a<mid:=by omega
 have hm2:mid<b:=by omega
 have hm3:2*mid≤a+b:=by omega
 have hm4:a+b≤2*mid+1:=by omega
 have mid0:(0:Int)≤(mid:Int):=by omega
 have midI:(mid:Int)≤1000000:=by omega
 rw [hmid] at hq
 clear hmid
 by_cases hgt:mid<m
 · have hgtI:(mid:Int)<(m:Int):=by omega
   obtain ⟨s0,hs0⟩:∃ s0,mid+m - b=s0:=⟨_,rfl⟩
   have HS0:Hid (s0+b=mid+m∧s0≤mid∧a≤s0∧mid≤m):=by refine ⟨?_,?_,?_,?_⟩ <;> omega
   have hz:(mid:Int)+(m:Int) - (b:Int)=(s0:Int):=by omega
   clear hs0
   go_enter Tryz.func139,Tryz.ntmps139
   go_wp2_with fail
   clear hz hq
   go_loopw [20,21] (fun v20 v21 wr=>∃ st r:Nat,v20 = .int .i64 st∧v21 = .int .i64 r∧s0≤st∧st≤r∧r≤mid∧Hid (Sq w0 wr blk cap n d∧(st=s0∨lt key (bAt d (st - 1)) (bAt d (mid+m - st)))∧(r=mid∨lt key (bAt d (mid+m - 1 - r)) (bAt d r)))) (fun v20 v21 _=>(intOf v21).toNat - (intOf v20).toNat)
   case atStart=>exact ⟨s0,mid,rfl,rfl,Nat.le_refl _,by have:=HS0.out;omega,Nat.le_refl _,HS.out,.inl rfl,.inl rfl⟩
   case round=>
    obtain ⟨st,r,rfl,rfl,hs0,hsr,hr0,HF⟩:=hrel
    have i0:(0:Int)≤(st:Int):=by omega
    have j0:(0:Int)≤(r:Int):=by omega
    have iI:(st:Int)≤1000000:=by omega
    have jI:(r:Int)≤1000000:=by omega
    by_cases hlt:st<r
    · have hltI:(st:Int)<(r:Int):=by omega
      go_wp2_with fail
      have hq:((st:Int)+(r:Int)) / 2=(((st+r) / 2:Nat):Int):=by omega
      rw [hq]
      obtain ⟨h,hh⟩:∃ h,(st+r) / 2=h:=⟨_,rfl⟩
      have hih:st≤h:=by omega
      have hhj:h<r:=by omega
      rw [hh]
      clear hq hh
      have h0:(0:Int)≤(h:Int):=by omega
      have hhm:h<m:=by have:=HS0.out;omega
      obtain ⟨p,hp⟩:∃ p,mid+m - 1 - h=p:=⟨_,rfl⟩
      have hpm:m≤p:=by have:=HS0.out;omega
      have hpb:p<b:=by have:=HS0.out;omega
      have hI:(h:Int)<(n:Int):=by omega
      have pq:((mid:Int)+(m:Int) - 1 - (h:Int)).toNat=p:=by omega
      have pq0:(0:Int)≤(mid:Int)+(m:Int) - 1 - (h:Int):=by omega
      have pqI:(mid:Int)+(m:Int) - 1 - (h:Int)<(n:Int):=by omega
      obtain ⟨hsq,hc1,hc2⟩:=HF.out
      have c1:=hsq.cell (j:=h) (by omega)
      have c2:=hsq.cell (j:=p) (by omega)
      have r1:=hsq.r h (by omega)
      have r2:=hsq.r p (by omega)
      have HC1:Hid (∀ q os,Calls Tryz.prog 93 #[.int .i64 (bAt d p),.int .i64 (bAt d h),.pointer (some ⟨bx,0,none⟩)] (Go.Sort.grow (wr.drewN q) os) fun e w'=>e = .returned (.int .i64 (key (bAt d h) - key (bAt d p)))∧Grown (Go.Sort.grow (wr.drewN q) os) w'):=fun q os=>HC.out _ ((hsq.grown ((Grown.refl wr).quiet q os)).f) _ _ r2.1 r2.2 r1.1 r1.2
      have k1:=fun q os=>((Grown.refl wr).quiet q os).cellv c1
      have k2:=fun q os=>((Grown.refl wr).quiet q os).cellv c2
      have hK1:=HK.out (bAt d h)
      have hK2:=HK.out (bAt d p)
      have HSG:=Hid.mk' (fun q os=>hsq.grown ((Grown.refl wr).quiet q os))
      obtain ⟨D,hD⟩:∃ D,key (bAt d h) - key (bAt d p)=D:=⟨_,rfl⟩
      rw [hD] at HC1
      have HY:Hid (D<0→lt key (bAt d (mid+m - 1 - h)) (bAt d h)):=fun hl=>by rw [hp];exact lt_clt (by omega)
      have HN:Hid (¬ D<0→lt key (bAt d (h+1 - 1)) (bAt d (mid+m - (h+1)))):=fun hl=>by
       rw [show mid+m - (h+1)=p by omega,Nat.add_sub_cancel]
       exact lt_not (HX.out h p (by have:=HS0.out;omega) hhm hpm hpb) (by omega)
      have H1:=Hid.mk' hc1
      have H2:=Hid.mk' hc2
      generalize bAt d h=x at c1 HC1 k1
      generalize bAt d p=y at c2 HC1 k2
      clear hsq HF hc1 hc2 hD r1 r2 hK1 hK2 hp
      by_cases hDl:D<0
      · have hDd:decide (D<0)=true:=by simpa using hDl
        have HY2:=Hid.mk' (HY.out hDl)
        clear HY HN
        refine wp_region_quiet_grown mixed (by kernel_rfl) ?_
        repeat (go_big_quiet_step ((go_at_call 93;exact grown_of (HC1.out _ _))))
        refine wpQuiet_nil ?_
        intro _ hw'
        obtain ⟨⟨nq,osq⟩,hw''⟩:=hw'
        subst hw''
        go_wp2
        exact ⟨⟨st,h,rfl,rfl,hs0,hih,by omega,HSG.out _ _,H1.out,.inr HY2.out⟩,by simp [intOf];omega⟩
      · have hDd:decide (D<0)=false:=by simpa using hDl
        have HN2:=Hid.mk' (HN.out hDl)
        clear HY HN
        refine wp_region_quiet_grown mixed (by kernel_rfl) ?_
        repeat (go_big_quiet_step ((go_at_call 93;exact grown_of (HC1.out _ _))))
        refine wpQuiet_nil ?_
        intro _ hw'
        obtain ⟨⟨nq,osq⟩,hw''⟩:=hw'
        subst hw''
        go_wp2
        exact ⟨⟨h+1,r,by go_num,rfl,by omega,by omega,hr0,HSG.out _ _,.inr HN2.out,H2.out⟩,by simp [intOf];omega⟩
    · have hge:¬ (st:Int)<(r:Int):=by omega
      have hjx:st=r:=by omega
      subst hjx
      obtain ⟨hsq,hc1,hc2⟩:=HF.out
      obtain ⟨en,hen⟩:∃ en,mid+m - st=en:=⟨_,rfl⟩
      have hE0:=HS0.out
      have hE1:m≤en:=by omega
      have hE2:en≤b:=by omega
      have hE3:mid=st+(en - m):=by omega
      have hS1:a≤st:=by omega
      have hS2:st≤m:=by omega
      have HC1':Hid (a<st→en<b→lt key (bAt d (st - 1)) (bAt d en)):=fun h1 h2=>by
       rcases hc1 with h | h
       · exfalso;omega
       · rw [hen] at h;exact h
      have HC2':Hid (st<m→m<en→lt key (bAt d (en - 1)) (bAt d st)):=fun h1 h2=>by
       rcases hc2 with h | h
       · exfalso;omega
       · rw [show mid+m - 1 - st=en - 1 by omega] at h;exact h
      have hq2:(mid:Int)+(m:Int) - (st:Int)=(en:Int):=by omega
      have HSQ:=Hid.mk' hsq
      have HSP:Hid (SymP key d a m b mid st en):=⟨HSA.out,HSB.out,HX.out,hS1,hS2,hE1,hE2,hE3,HC1'.out,HC2'.out⟩
      have en0I:(0:Int)≤(en:Int):=by omega
      have enI:(en:Int)≤1000000:=by omega
      have hM1:st≤mid:=by omega
      have hM2:mid≤en:=by omega
      clear HF hsq hc1 hc2 hen hE0 HC1' HC2' hE3
      rcases (show (st<m∧m<en)∨(st<m∧¬ m<en)∨¬ st<m by omega) with ⟨g1,g2⟩ | ⟨g1,g2⟩ | g1
      all_goals
       first | (have g1I:(st:Int)<(m:Int):=by omega;have g1d:=decide_eq_true g1I) | (have g1I:¬ (st:Int)<(m:Int):=by omega;have g1d:=decide_eq_false g1I) | skip
       first | (have g2I:(m:Int)<(en:Int):=by omega;have g2d:=decide_eq_true g2I) | (have g2I:¬ (m:Int)<(en:Int):=by omega;have g2d:=decide_eq_false g2I) | skip
       first
        | (have HR:=Hid.mk' (rotate_any HSQ.out st m en (.func (.func 93) #[] #[.pointer (some ⟨bx,0,none⟩)]) g1 g2 (by omega) hn);go_wp2_with fail;refine HR.out.mono ?_;rintro e w1 ⟨rfl,d1,hs1,hr1⟩;have HS1:=Hid.mk' hs1;have HR1:=Hid.mk' hr1;clear hs1 hr1 HR)
        | (have HS1:=HSQ;have HR1:Hid (Rot d d st m en):=rot_none (by omega) (by omega) (by omega))
       have HRL:=Hid.mk' (HSP.out.rl HR1.out)
       rcases (show (a<st∧st<mid)∨(a<st∧¬ st<mid)∨¬ a<st by omega) with ⟨f1,f2⟩ | ⟨f1,f2⟩ | f1
       all_goals
        first | (have f1I:(a:Int)<(st:Int):=by omega;have f1d:=decide_eq_true f1I) | (have f1I:¬ (a:Int)<(st:Int):=by omega;have f1d:=decide_eq_false f1I) | skip
        first | (have f2I:(st:Int)<(mid:Int):=by omega;have f2d:=decide_eq_true f2I) | (have f2I:¬ (st:Int)<(mid:Int):=by omega;have f2d:=decide_eq_false f2I) | skip
        first
         | (have HI:=Hid.mk' (IH.out a st mid _ _ (by omega) f1 f2 (by omega) HS1.out HRL.out.1 HRL.out.2.1 HRL.out.2.2.1);go_wp2_with fail;refine HI.out.mono ?_;rintro e w2 ⟨rfl,d2,hs2,hm2⟩;have HS2:=Hid.mk' hs2;have HM2:=Hid.mk' hm2;clear hs2 hm2 HI)
         | (have HS2:=HS1;have HM2:=Hid.mk' (SymP.nl HRL.out (by omega)))
        rcases (show (mid<en∧en<b)∨(mid<en∧¬ en<b)∨¬ mid<en by omega) with ⟨f3,f4⟩ | ⟨f3,f4⟩ | f3
        all_goals
         first | (have f3I:(mid:Int)<(en:Int):=by omega;have f3d:=decide_eq_true f3I) | (have f3I:¬ (mid:Int)<(en:Int):=by omega;have f3d:=decide_eq_false f3I) | skip
         first | (have f4I:(en:Int)<(b:Int):=by omega;have f4d:=decide_eq_true f4I) | (have f4I:¬ (en:Int)<(b:Int):=by omega;have f4d:=decide_eq_false f4I) | skip
         first
          | (have HA2:=Hid.mk' (SymP.a2 HRL.out HM2.out.1);have HI:=Hid.mk' (IH.out mid en b _ _ (by omega) f3 f4 hb HS2.out HA2.out.1 HA2.out.2.1 HA2.out.2.2);go_wp2_with fail;refine HI.out.mono ?_;rintro e w3 ⟨rfl,d3,hs3,hm3⟩;have HFI:=Hid.mk' (HSP.out.fin hs3 HR1.out HM2.out hm3);clear hs3 hm3 HI)
          | (have HFI:=Hid.mk' (HSP.out.fin HS2.out HR1.out HM2.out (SymP.nr (SymP.a2 HRL.out HM2.out.1) (by omega))))
         go_wp2
         go_end0
         exact ⟨rfl,HFI.out⟩
 · have hgtI:¬ (mid:Int)<(m:Int):=by omega
   have HS0:Hid (a≤m∧m≤mid):=⟨by omega,by omega⟩
   go_enter Tryz.func139,Tryz.ntmps139
   go_wp2_with fail
   clear hq
   go_loopw [20,21] (fun v20 v21 wr=>∃ st r:Nat,v20 = .int .i64 st∧v21 = .int .i64 r∧a≤st∧st≤r∧r≤m∧Hid (Sq w0 wr blk cap n d∧(st=a∨lt key (bAt d (st - 1)) (bAt d (mid+m - st)))∧(r=m∨lt key (bAt d (mid+m - 1 - r)) (bAt d r)))) (fun v20 v21 _=>(intOf v21).toNat - (intOf v20).toNat)
   case atStart=>exact ⟨a,m,rfl,rfl,Nat.le_refl _,by have:=HS0.out;omega,Nat.le_refl _,HS.out,.inl rfl,.inl rfl⟩
   case round=>
    obtain ⟨st,r,rfl,rfl,hs0,hsr,hr0,HF⟩:=hrel
    have i0:(0:Int)≤(st:Int):=by omega
    have j0:(0:Int)≤(r:Int):=by omega
    have iI:(st:Int)≤1000000:=by omega
    have jI:(r:Int)≤1000000:=by omega
    by_cases hlt:st<r
    · have hltI:(st:Int)<(r:Int):=by omega
      go_wp2_with fail
      have hq:((st:Int)+(r:Int)) / 2=(((st+r) / 2:Nat):Int):=by omega
      rw [hq]
      obtain ⟨h,hh⟩:∃ h,(st+r) / 2=h:=⟨_,rfl⟩
      have hih:st≤h:=by omega
      have hhj:h<r:=by omega
      rw [hh]
      clear hq hh
      have h0:(0:Int)≤(h:Int):=by omega
      have hhm:h<m:=by have:=HS0.out;omega
      obtain ⟨p,hp⟩:∃ p,mid+m - 1 - h=p:=⟨_,rfl⟩
      have hpm:m≤p:=by have:=HS0.out;omega
      have hpb:p<b:=by have:=HS0.out;omega
      have hI:(h:Int)<(n:Int):=by omega
      have pq:((mid:Int)+(m:Int) - 1 - (h:Int)).toNat=p:=by omega
      have pq0:(0:Int)≤(mid:Int)+(m:Int) - 1 - (h:Int):=by omega
      have pqI:(mid:Int)+(m:Int) - 1 - (h:Int)<(n:Int):=by omega
      obtain ⟨hsq,hc1,hc2⟩:=HF.out
      have c1:=hsq.cell (j:=h) (by omega)
      have c2:=hsq.cell (j:=p) (by omega)
      have r1:=hsq.r h (by omega)
      have r2:=hsq.r p (by omega)
      have HC1:Hid (∀ q os,Calls Tryz.prog 93 #[.int .i64 (bAt d p),.int .i64 (bAt d h),.pointer (some ⟨bx,0,none⟩)] (Go.Sort.grow (wr.drewN q) os) fun e w'=>e = .returned (.int .i64 (key (bAt d h) - key (bAt d p)))∧Grown (Go.Sort.grow (wr.drewN q) os) w'):=fun q os=>HC.out _ ((hsq.grown ((Grown.refl wr).quiet q os)).f) _ _ r2.1 r2.2 r1.1 r1.2
      have k1:=fun q os=>((Grown.refl wr).quiet q os).cellv c1
      have k2:=fun q os=>((Grown.refl wr).quiet q os).cellv c2
      have hK1:=HK.out (bAt d h)
      have hK2:=HK.out (bAt d p)
      have HSG:=Hid.mk' (fun q os=>hsq.grown ((Grown.refl wr).quiet q os))
      obtain ⟨D,hD⟩:∃ D,key (bAt d h) - key (bAt d p)=D:=⟨_,rfl⟩
      rw [hD] at HC1
      have HY:Hid (D<0→lt key (bAt d (mid+m - 1 - h)) (bAt d h)):=fun hl=>by rw [hp];exact lt_clt (by omega)
      have HN:Hid (¬ D<0→lt key (bAt d (h+1 - 1)) (bAt d (mid+m - (h+1)))):=fun hl=>by
       rw [show mid+m - (h+1)=p by omega,Nat.add_sub_cancel]
       exact lt_not (HX.out h p (by have:=HS0.out;omega) hhm hpm hpb) (by omega)
      have H1:=Hid.mk' hc1
      have H2:=Hid.mk' hc2
      generalize bAt d h=x at c1 HC1 k1
      generalize bAt d p=y at c2 HC1 k2
      clear hsq HF hc1 hc2 hD r1 r2 hK1 hK2 hp
      by_cases hDl:D<0
      · have hDd:decide (D<0)=true:=by simpa using hDl
        have HY2:=Hid.mk' (HY.out hDl)
        clear HY HN
        refine wp_region_quiet_grown mixed (by kernel_rfl) ?_
        repeat (go_big_quiet_step ((go_at_call 93;exact grown_of (HC1.out _ _))))
        refine wpQuiet_nil ?_
        intro _ hw'
        obtain ⟨⟨nq,osq⟩,hw''⟩:=hw'
        subst hw''
        go_wp2
        exact ⟨⟨st,h,rfl,rfl,hs0,hih,by omega,HSG.out _ _,H1.out,.inr HY2.out⟩,by simp [intOf];omega⟩
      · have hDd:decide (D<0)=false:=by simpa using hDl
        have HN2:=Hid.mk' (HN.out hDl)
        clear HY HN
        refine wp_region_quiet_grown mixed (by kernel_rfl) ?_
        repeat (go_big_quiet_step ((go_at_call 93;exact grown_of (HC1.out _ _))))
        refine wpQuiet_nil ?_
        intro _ hw'
        obtain ⟨⟨nq,osq⟩,hw''⟩:=hw'
        subst hw''
        go_wp2
        exact ⟨⟨h+1,r,by go_num,rfl,by omega,by omega,hr0,HSG.out _ _,.inr HN2.out,H2.out⟩,by simp [intOf];omega⟩
    · have hge:¬ (st:Int)<(r:Int):=by omega
      have hjx:st=r:=by omega
      subst hjx
      obtain ⟨hsq,hc1,hc2⟩:=HF.out
      obtain ⟨en,hen⟩:∃ en,mid+m - st=en:=⟨_,rfl⟩
      have hE0:=HS0.out
      have hE1:m≤en:=by omega
      have hE2:en≤b:=by omega
      have hE3:mid=st+(en - m):=by omega
      have hS1:a≤st:=by omega
      have hS2:st≤m:=by omega
      have HC1':Hid (a<st→en<b→lt key (bAt d (st - 1)) (bAt d en)):=fun h1 h2=>by
       rcases hc1 with h | h
       · exfalso;omega
       · rw [hen] at h;exact h
      have HC2':Hid (st<m→m<en→lt key (bAt d (en - 1)) (bAt d st)):=fun h1 h2=>by
       rcases hc2 with h | h
       · exfalso;omega
       · rw [show mid+m - 1 - st=en - 1 by omega] at h;exact h
      have hq2:(mid:Int)+(m:Int) - (st:Int)=(en:Int):=by omega
      have HSQ:=Hid.mk' hsq
      have HSP:Hid (SymP key d a m b mid st en):=⟨HSA.out,HSB.out,HX.out,hS1,hS2,hE1,hE2,hE3,HC1'.out,HC2'.out⟩
      have en0I:(0:Int)≤(en:Int):=by omega
      have enI:(en:Int)≤1000000:=by omega
      have hM1:st≤mid:=by omega
      have hM2:mid≤en:=by omega
      clear HF hsq hc1 hc2 hen hE0 HC1' HC2' hE3
      rcases (show (st<m∧m<en)∨(st<m∧¬ m<en)∨¬ st<m by omega) with ⟨g1,g2⟩ | ⟨g1,g2⟩ | g1
      all_goals
       first | (have g1I:(st:Int)<(m:Int):=by omega;have g1d:=decide_eq_true g1I) | (have g1I:¬ (st:Int)<(m:Int):=by omega;have g1d:=decide_eq_false g1I) | skip
       first | (have g2I:(m:Int)<(en:Int):=by omega;have g2d:=decide_eq_true g2I) | (have g2I:¬ (m:Int)<(en:Int):=by omega;have g2d:=decide_eq_false g2I) | skip
       first
        | (have HR:=Hid.mk' (rotate_any HSQ.out st m en (.func (.func 93) #[] #[.pointer (some ⟨bx,0,none⟩)]) g1 g2 (by omega) hn);go_wp2_with fail;refine HR.out.mono ?_;rintro e w1 ⟨rfl,d1,hs1,hr1⟩;have HS1:=Hid.mk' hs1;have HR1:=Hid.mk' hr1;clear hs1 hr1 HR)
        | (have HS1:=HSQ;have HR1:Hid (Rot d d st m en):=rot_none (by omega) (by omega) (by omega))
       have HRL:=Hid.mk' (HSP.out.rl HR1.out)
       rcases (show (a<st∧st<mid)∨(a<st∧¬ st<mid)∨¬ a<st by omega) with ⟨f1,f2⟩ | ⟨f1,f2⟩ | f1
       all_goals
        first | (have f1I:(a:Int)<(st:Int):=by omega;have f1d:=decide_eq_true f1I) | (have f1I:¬ (a:Int)<(st:Int):=by omega;have f1d:=decide_eq_false f1I) | skip
        first | (have f2I:(st:Int)<(mid:Int):=by omega;have f2d:=decide_eq_true f2I) | (have f2I:¬ (st:Int)<(mid:Int):=by omega;have f2d:=decide_eq_false f2I) | skip
        first
         | (have HI:=Hid.mk' (IH.out a st mid _ _ (by omega) f1 f2 (by omega) HS1.out HRL.out.1 HRL.out.2.1 HRL.out.2.2.1);go_wp2_with fail;refine HI.out.mono ?_;rintro e w2 ⟨rfl,d2,hs2,hm2⟩;have HS2:=Hid.mk' hs2;have HM2:=Hid.mk' hm2;clear hs2 hm2 HI)
         | (have HS2:=HS1;have HM2:=Hid.mk' (SymP.nl HRL.out (by omega)))
        rcases (show (mid<en∧en<b)∨(mid<en∧¬ en<b)∨¬ mid<en by omega) with ⟨f3,f4⟩ | ⟨f3,f4⟩ | f3
        all_goals
         first | (have f3I:(mid:Int)<(en:Int):=by omega;have f3d:=decide_eq_true f3I) | (have f3I:¬ (mid:Int)<(en:Int):=by omega;have f3d:=decide_eq_false f3I) | skip
         first | (have f4I:(en:Int)<(b:Int):=by omega;have f4d:=decide_eq_true f4I) | (have f4I:¬ (en:Int)<(b:Int):=by omega;have f4d:=decide_eq_false f4I) | skip
         first
          | (have HA2:=Hid.mk' (SymP.a2 HRL.out HM2.out.1);have HI:=Hid.mk' (IH.out mid en b _ _ (by omega) f3 f4 hb HS2.out HA2.out.1 HA2.out.2.1 HA2.out.2.2);go_wp2_with fail;refine HI.out.mono ?_;rintro e w3 ⟨rfl,d3,hs3,hm3⟩;have HFI:=Hid.mk' (HSP.out.fin hs3 HR1.out HM2.out hm3);clear hs3 hm3 HI)
          | (have HFI:=Hid.mk' (HSP.out.fin HS2.out HR1.out HM2.out (SymP.nr (SymP.a2 HRL.out HM2.out.1) (by omega))))
         go_wp2
         go_end0
         exact ⟨rfl,HFI.out⟩
structure Sg (key:Int→Int) (d:List Int) (a b:Nat):Prop where
 s:SS key d a b
 r:∀ i,a≤i→i<b→(a:Int)≤bAt d i∧bAt d i<(b:Int)
theorem Sg.same {key:Int→Int} {d e:List Int} {a b:Nat} (h:Sg key d a b) (he:∀ k,a≤k→k<b→bAt e k=bAt d k):Sg key e a b:=⟨h.s.same he,fun i h1 h2=>by rw [he i h1 h2];exact h.r i h1 h2⟩
theorem Sg.mix {key:Int→Int} {d e:List Int} {a b:Nat} (hm:Mix d e a b) (hs:SS key e a b) (hr:∀ i,a≤i→i<b→(a:Int)≤bAt d i∧bAt d i<(b:Int)):Sg key e a b:=⟨hs,fun i h1 h2=>by
 obtain ⟨j,k1,k2,k3⟩:=(hm.s (bAt e i)).1 ⟨i,h1,h2,rfl⟩
 rw [←k3];exact hr j k1 k2⟩
theorem Sg.join {key:Int→Int} {d:List Int} {a m b:Nat} (h1:Sg key d a m) (h2:Sg key d m b):Hx d a m b:=fun i j k1 k2 k3 k4=>by
 have:=h1.r i k1 k2
 have:=h2.r j k3 k4
 omega
theorem Sg.both {key:Int→Int} {d e:List Int} {a m b:Nat} (h1:Sg key d a m) (h2:Sg key d m b) (ham:a≤m) (hmb:m≤b) (hm:Mix d e a b) (hs:SS key e a b):Sg key e a b:=Sg.mix hm hs fun i k1 k2=>by
 by_cases hi:i<m
 · have:=h1.r i k1 hi;omega
 · have:=h2.r i (by omega) k2;omega
def Bl (key:Int→Int) (d:List Int) (bs lo n:Nat):Prop:=∀ k,lo≤k*bs→k*bs<n→Sg key d (k*bs) (min (k*bs+bs) n)
theorem Bl.keep {key:Int→Int} {d e:List Int} {bs lo n lo':Nat} (h:Bl key d bs lo n) (hl:lo≤lo') (he:∀ k,lo'≤k→bAt e k=bAt d k):Bl key e bs lo' n:=fun k h1 h2=>(h k (by omega) h2).same fun t k1 _=>he t (by omega)
def Br (key:Int→Int) (d:List Int) (bs hi:Nat):Prop:=∀ k,k*bs+bs≤hi→Sg key d (k*bs) (k*bs+bs)
theorem Br.keep {key:Int→Int} {d e:List Int} {bs hi:Nat} (h:Br key d bs hi) (he:∀ k,k<hi→bAt e k=bAt d k):Br key e bs hi:=fun k h1=>(h k h1).same fun t _ k2=>he t (by omega)
theorem Br.step {key:Int→Int} {d:List Int} {bs t:Nat} (h:Br key d bs (t*bs)) (hg:Sg key d (t*bs) (t*bs+bs)) (hb:0<bs):Br key d bs ((t+1)*bs):=fun k h1=>by
 by_cases hk:k=t
 · subst hk;exact hg
 · refine h k ?_
   have hkt:k<t+1:=by
    by_cases hx:k<t+1
    · exact hx
    · exfalso
      have:(t+1)*bs≤k*bs:=Nat.mul_le_mul_right bs (by omega)
      omega
   have:(k+1)*bs≤t*bs:=Nat.mul_le_mul_right bs (by omega)
   rw [Nat.succ_mul] at this
   omega
set_option maxHeartbeats 16000000 in
theorem stable_any {w0 w:World} {blk cap n:Nat} {d:List Int} {key:Int→Int} {bx:Nat} (h:Sq w0 w blk cap n d) (hc:CmpC w0 blk n key bx) (hkey:∀ x,0≤key x∧key x≤1000000) (hn:n≤1000000) (hid:∀ i,i<n→bAt d i=(i:Int)) :
 Calls Tryz.prog 112 #[.slice (some ⟨blk,0,none⟩) n cap,.int .i64 n,.func (.func 93) #[] #[.pointer (some ⟨bx,0,none⟩)]] w fun e w'=>e = .returned (.tuple #[])∧∃ d',Sq w0 w' blk cap n d'∧Sg key d' 0 n:=by
 have HS:Hid (Sq w0 w blk cap n d):=h
 have HID:=Hid.mk' hid
 have hnI:(n:Int)≤1000000:=by omega
 have n0:(0:Int)≤(n:Int):=by omega
 have HIN:=Hid.mk' (fun (W:World) (e:List Int) (a b:Nat) (hq:Sq w0 W blk cap n e) (h1:a≤b) (h2:b≤n) (h3:∀ i j,a≤i→i<j→j<b→bAt e i<bAt e j)=>insertion_any hq hc hkey a b h1 h2 hn h3)
 have HSY:=Hid.mk' (fun (W:World) (e:List Int) (a m b:Nat) (hq:Sq w0 W blk cap n e) (h1:a<m) (h2:m<b) (h3:b≤n) (h4:Sg key e a m) (h5:Sg key e m b)=>sym_any hc hkey hn (b - a) a m b e W (Nat.le_refl _) h1 h2 h3 hq h4.s h5.s (h4.join h5))
 clear h hc hkey hid
 go_enter Tryz.func112,Tryz.ntmps112
 go_wp2
 go_loopw [7,8] (fun v7 v8 wr=>∃ t:Nat,v7 = .int .i64 ((t*20:Nat):Int)∧v8 = .int .i64 ((t*20+20:Nat):Int)∧t*20≤n∧Hid (∃ e,Sq w0 wr blk cap n e∧Br key e 20 (t*20)∧∀ k,t*20≤k→k<n→bAt e k=(k:Int))) (fun v7 _ _=>n+20 - (intOf v7).toNat)
 case atStart=>exact ⟨0,rfl,rfl,by omega,d,HS.out,fun k h1=>by omega,fun k _ h2=>HID.out k h2⟩
 case round=>
  obtain ⟨t,rfl,rfl,htn,HE⟩:=hrel
  obtain ⟨A,hA⟩:∃ A,t*20=A:=⟨_,rfl⟩
  have HA:=Hid.mk' hA
  rw [hA] at HE htn ⊢
  clear hA
  have A0:(0:Int)≤(A:Int):=by omega
  obtain ⟨e,hsq,hbr,hrest⟩:=HE.out
  by_cases hle:A+20≤n
  · have hleI:((A+20:Nat):Int)≤(n:Int):=by omega
    have HC:=Hid.mk' (HIN.out wr e A (A+20) hsq (by omega) hle fun i j h1 h2 h3=>by rw [hrest i h1 (by omega),hrest j (by omega) (by omega)];omega)
    have HBR:=Hid.mk' hbr
    have HRE:=Hid.mk' hrest
    clear hsq hbr hrest HE
    go_wp2_with (go_at_call 138;refine HC.out.mono ?_;rintro e' w1 ⟨rfl,f,hs1,hm1,hss1⟩;have H1:Hid (Sq w0 w1 blk cap n f∧Mix e f A (A+20)∧SS key f A (A+20)):=⟨hs1,hm1,hss1⟩;clear hs1 hm1 hss1)
    refine ⟨⟨t+1,?_,?_,?_,f,H1.out.1,?_,?_⟩,?_⟩
    · have:=HA.out;congr 1;omega
    · have:=HA.out;congr 1;omega
    · have:=HA.out;omega
    · have hg:Sg key f A (A+20):=Sg.mix H1.out.2.1 H1.out.2.2 fun i h1 h2=>by rw [HRE.out i h1 (by omega)];omega
      have:=Br.step (t:=t) (bs:=20) (key:=key) (d:=f) (by rw [HA.out];exact HBR.out.keep fun k hk=>H1.out.2.1.o k (by omega)) (by rw [HA.out];exact hg) (by omega)
      exact this
    · intro k h1 h2
      have:=HA.out
      rw [H1.out.2.1.o k (by omega)]
      exact HRE.out k (by omega) h2
    · have:=HA.out;simp [intOf];omega
  · have hleI:¬ ((A+20:Nat):Int)≤(n:Int):=by omega
    have HC:=Hid.mk' (HIN.out wr e A n hsq htn (Nat.le_refl _) fun i j h1 h2 h3=>by rw [hrest i h1 (by omega),hrest j (by omega) (by omega)];omega)
    have HBR:=Hid.mk' hbr
    have HRE:=Hid.mk' hrest
    clear hsq hbr hrest HE
    go_wp2_with (go_at_call 138;refine HC.out.mono ?_;rintro e' w1 ⟨rfl,f,hs1,hm1,hss1⟩;have H1:Hid (Sq w0 w1 blk cap n f∧Bl key f 20 0 n):=⟨hs1,fun k _ hk=>by
     have ha:=HA.out
     by_cases hkt:k*20+20≤A
     · rw [show min (k*20+20) n=k*20+20 by omega]
       exact (HBR.out.keep fun k hk=>hm1.o k (by omega)) k hkt
     · rw [show k*20=A by omega,show min (A+20) n=n by omega]
       exact Sg.mix hm1 hss1 fun i h1 h2=>by rw [HRE.out i h1 h2];omega⟩;clear hs1 hm1 hss1)
    go_loopw [6] (fun v6 wr=>∃ bs:Nat,v6 = .int .i64 bs∧20≤bs∧bs≤4000000∧Hid (∃ e,Sq w0 wr blk cap n e∧Bl key e bs 0 n)) (fun v6 _=>n - (intOf v6).toNat)
    case atStart=>exact ⟨20,rfl,by omega,by omega,f,H1.out⟩
    case round=>
     clear H1 HBR HRE HC
     obtain ⟨bs,rfl,hb1,hb2,HE⟩:=hrel
     have bs0:(0:Int)≤(bs:Int):=by omega
     have bsI:(bs:Int)≤4000000:=by omega
     by_cases hbn:bs<n
     · have hbnI:(bs:Int)<(n:Int):=by omega
       go_wp2
       go_loopw [7,8] (fun v7 v8 wr=>∃ t A:Nat,v7 = .int .i64 A∧v8 = .int .i64 ((A+2*bs:Nat):Int)∧A=t*(2*bs)∧A≤n∧Hid (∃ e,Sq w0 wr blk cap n e∧Br key e (2*bs) A∧Bl key e bs A n)) (fun v7 _ _=>n+1 - (intOf v7).toNat)
       case atStart=>
        obtain ⟨e,h1,h2⟩:=HE.out
        exact ⟨0,0,rfl,by go_num,by omega,by omega,e,h1,fun k hk=>by omega,h2⟩
       case round=>
        obtain ⟨t,B,rfl,rfl,hB,hBn,HF⟩:=hrel
        have hB1:B=2*t*bs:=by rw [hB,←Nat.mul_assoc,Nat.mul_comm t 2]
        have hB2:B+bs=(2*t+1)*bs:=by rw [Nat.succ_mul,hB1]
        have hB3:B+2*bs=(t+1)*(2*bs):=by rw [Nat.add_mul t 1 (2*bs),Nat.one_mul,hB]
        have HB:=Hid.mk' (show B=t*(2*bs)∧B=2*t*bs∧B+bs=(2*t+1)*bs∧B+2*bs=(t+1)*(2*bs) from ⟨hB,hB1,hB2,hB3⟩)
        clear hB hB1 hB2 hB3
        have B0:(0:Int)≤(B:Int):=by omega
        have BI:(B:Int)≤1000000:=by omega
        obtain ⟨e,hsq,hbr,hbl⟩:=HF.out
        have HBR:=Hid.mk' hbr
        have HBL:=Hid.mk' hbl
        have HSQ:=Hid.mk' hsq
        have HG1:Hid (B<n→Sg key e B (min (B+bs) n)):=fun hb=>by
         have:=hbl (2*t) (by rw [←HB.out.2.1];exact Nat.le_refl _) (by rw [←HB.out.2.1];exact hb)
         rw [←HB.out.2.1] at this
         exact this
        have HG2:Hid (B+bs<n→Sg key e (B+bs) (min (B+2*bs) n)):=fun hb=>by
         have:=hbl (2*t+1) (by rw [←HB.out.2.2.1];omega) (by rw [←HB.out.2.2.1];exact hb)
         rw [←HB.out.2.2.1,show B+bs+bs=B+2*bs by omega] at this
         exact this
        clear hsq hbr hbl HF
        by_cases hle2:B+2*bs≤n
        · have hle2I:((B+2*bs:Nat):Int)≤(n:Int):=by omega
          have HC:Hid (Calls Tryz.prog 139 #[.slice (some ⟨blk,0,none⟩) n cap,.int .i64 B,.int .i64 ((B:Int)+(bs:Int)),.int .i64 ((B+2*bs:Nat):Int),.func (.func 93) #[] #[.pointer (some ⟨bx,0,none⟩)]] wr fun e' w'=>e' = .returned (.tuple #[])∧∃ d',Sq w0 w' blk cap n d'∧Mix e d' B (B+2*bs)∧SS key d' B (B+2*bs)):=by
           have g1:=HG1.out (by omega)
           have g2:=HG2.out (by omega)
           rw [show min (B+bs) n=B+bs by omega] at g1
           rw [show min (B+2*bs) n=B+2*bs by omega] at g2
           rw [show (B:Int)+(bs:Int)=((B+bs:Nat):Int) by omega]
           exact HSY.out wr e B (B+bs) (B+2*bs) HSQ.out (by omega) (by omega) hle2 g1 g2
          go_wp2_with (go_at_call 139;refine HC.out.mono ?_;rintro e' w2 ⟨rfl,f,hs2,hm2,hss2⟩;have H2:Hid (Sq w0 w2 blk cap n f∧Mix e f B (B+2*bs)∧SS key f B (B+2*bs)):=⟨hs2,hm2,hss2⟩;clear hs2 hm2 hss2)
          refine ⟨⟨t+1,B+2*bs,?_,?_,HB.out.2.2.2,hle2,f,H2.out.1,?_,?_⟩,?_⟩
          · congr 1
          · (congr 1) <;> omega
          · have g1:=HG1.out (by omega)
            have g2:=HG2.out (by omega)
            rw [show min (B+bs) n=B+bs by omega] at g1
            rw [show min (B+2*bs) n=B+2*bs by omega] at g2
            have hg:=g1.both g2 (by omega) (by omega) H2.out.2.1 H2.out.2.2
            rw [HB.out.2.2.2]
            refine Br.step (by rw [←HB.out.1];exact HBR.out.keep fun k hk=>H2.out.2.1.o k (by omega)) (by rw [←HB.out.1];exact hg) (by omega)
          · exact HBL.out.keep (by omega) fun k hk=>H2.out.2.1.o k (by omega)
          · simp [intOf];omega
        · have hle2I:¬ ((B+2*bs:Nat):Int)≤(n:Int):=by omega
          have HFI:Hid (∀ W f,Sq w0 W blk cap n f→Mix e f B n→(B<n→Sg key f B n)→∃ e,Sq w0 W blk cap n e∧Bl key e (2*bs) 0 n):=fun W f hs hm hg=>⟨f,hs,fun k _ hk=>by
           have hb4:=HB.out.2.2.2
           have hb1:=HB.out.1
           by_cases hkt:k<t
           · have:(k+1)*(2*bs)≤t*(2*bs):=Nat.mul_le_mul_right _ (by omega)
             rw [Nat.succ_mul] at this
             rw [show min (k*(2*bs)+2*bs) n=k*(2*bs)+2*bs by omega]
             exact (HBR.out.keep fun k hk=>hm.o k (by omega)) k (by omega)
           · by_cases hk2:k=t
             · subst hk2
               rw [←hb1] at hk ⊢
               rw [show min (B+2*bs) n=n by omega]
               exact hg hk
             · exfalso
               have:(t+1)*(2*bs)≤k*(2*bs):=Nat.mul_le_mul_right _ (by omega)
               omega⟩
          by_cases hmn:B+bs<n
          · have hmnI:(B:Int)+(bs:Int)<(n:Int):=by omega
            have HC:Hid (Calls Tryz.prog 139 #[.slice (some ⟨blk,0,none⟩) n cap,.int .i64 B,.int .i64 ((B:Int)+(bs:Int)),.int .i64 n,.func (.func 93) #[] #[.pointer (some ⟨bx,0,none⟩)]] wr fun e' w'=>e' = .returned (.tuple #[])∧∃ d',Sq w0 w' blk cap n d'∧Mix e d' B n∧Sg key d' B n):=by
             have g1:=HG1.out (by omega)
             have g2:=HG2.out hmn
             rw [show min (B+bs) n=B+bs by omega] at g1
             rw [show min (B+2*bs) n=n by omega] at g2
             rw [show (B:Int)+(bs:Int)=((B+bs:Nat):Int) by omega]
             refine (HSY.out wr e B (B+bs) n HSQ.out (by omega) hmn (Nat.le_refl _) g1 g2).mono ?_
             rintro e' w' ⟨h1,f,h2,h3,h4⟩
             exact ⟨h1,f,h2,h3,g1.both g2 (by omega) (by omega) h3 h4⟩
            go_wp2_with (go_at_call 139;refine HC.out.mono ?_;rintro e' w2 ⟨rfl,f,hs2,hm2,hg2⟩;have H2:=Hid.mk' (HFI.out w2 f hs2 hm2 fun _=>hg2);clear hs2 hm2 hg2)
            exact ⟨⟨2*bs,by rw [show ((2*bs:Nat):Int)=(bs:Int)*2 by omega],by omega,by omega,H2.out⟩,by simp [intOf];omega⟩
          · have hmnI:¬ (B:Int)+(bs:Int)<(n:Int):=by omega
            have H2:=Hid.mk' (HFI.out wr e HSQ.out (Mix.refl _ _ _) fun hb=>by have:=HG1.out hb;rw [show min (B+bs) n=n by omega] at this;exact this)
            go_wp2
            exact ⟨⟨2*bs,by rw [show ((2*bs:Nat):Int)=(bs:Int)*2 by omega],by omega,by omega,H2.out⟩,by simp [intOf];omega⟩
     · have hbnI:¬ (bs:Int)<(n:Int):=by omega
       have HFI:Hid (∃ d',Sq w0 wr blk cap n d'∧Sg key d' 0 n):=by
        obtain ⟨e,h1,h2⟩:=HE.out
        by_cases hz:n=0
        · subst hz
          exact ⟨e,h1,fun i j _ _ h=>by omega,fun i _ h=>by omega⟩
        · have:=h2 0 (by omega) (by omega)
          rw [Nat.zero_mul,Nat.zero_add,show min bs n=n by omega] at this
          exact ⟨e,h1,this⟩
       go_wp2
       go_end0
       exact ⟨rfl,HFI.out⟩
def klI (rs:List Rl) (x:Int):Int:=((rs[x.toNat]?.map fun r=>r.key.length).getD 0:Nat)
theorem kl_at {rs:List Rl} {j:Nat} (h:j<rs.length):klI rs (j:Int)=(rs[j].key.length:Int):=by simp [klI,h]
theorem kl_in {rs:List Rl} (h:∀ r∈rs,r.key.length≤1000000) (x:Int):0≤klI rs x∧klI rs x≤1000000:=by
 unfold klI
 cases hx:rs[x.toNat]? with
 | none=>simp
 | some r=>
  have:=h r (List.mem_of_getElem? hx)
  simp
  omega
theorem psr_key {w:World} {a:Option Addr} {n c:Nat} {rs:List Rl} (h:PsR w (.slice a n c) rs) {j:Nat} (hj:j<rs.length):∃ g o ka kc,a=some ⟨g,o,none⟩∧w.cell? ⟨g,o+j*7+2,none⟩=some (.slice ka rs[j].key.length kc):=by
 obtain ⟨a',c',e,_,h⟩:=h
 injection e with e1 _ _
 subst e1
 obtain ⟨g,o,e,h⟩:=h.resolve_left fun e=>by rw [e] at hj;simp at hj
 obtain ⟨av,kv,pv,rv,_,_,q2,_,_,_,_,hR⟩:=h j hj
 obtain ⟨ka,kc,hk,_⟩:=hR.k
 rw [hk] at q2
 exact ⟨g,o,ka,kc,e,q2⟩
set_option maxHeartbeats 4000000 in
theorem cmp_any {w0:World} {blk n bx:Nat} {ra:Option Addr} {rc:Nat} {rs:List Rl} (hP:PsR w0 (.slice ra n rc) rs) (hN:rs.length=n) (hb:w0.cell? ⟨bx,0,none⟩=some (.slice ra n rc)) (hbb:bx≠blk) (hlt:∀ g o,ra=some ⟨g,o,none⟩→g≠blk) (hz:∀ r∈rs,r.key.length≤1000000) (hn:n≤1000000):CmpC w0 blk n (klI rs) bx:=by
 intro W hf x y hx0 hxn hy0 hyn
 obtain ⟨i,rfl⟩:∃ i:Nat,x=(i:Int):=⟨x.toNat,by omega⟩
 obtain ⟨j,rfl⟩:∃ j:Nat,y=(j:Int):=⟨y.toNat,by omega⟩
 have hil:i<rs.length:=by omega
 have hjl:j<rs.length:=by omega
 obtain ⟨g,o,ka,kc,e1,c1⟩:=psr_key hP hil
 obtain ⟨g',o',la,lc,e2,c2⟩:=psr_key hP hjl
 rw [e1] at e2
 injection e2 with e2
 injection e2 with e2 e3
 subst e2 e3
 have hg:=hlt g o e1
 subst e1
 rw [kl_at hil,kl_at hjl]
 have hk1:=hz _ (List.getElem_mem hil)
 have hk2:=hz _ (List.getElem_mem hjl)
 have b0:W.cell? ⟨bx,0,none⟩=some (.slice (some ⟨g,o,none⟩) n rc):=by rw [cell_same (hf.block bx (cell_lt hb) hbb)];exact hb
 have d1:W.cell? ⟨g,o+i*7+2,none⟩=some (.slice ka rs[i].key.length kc):=by rw [cell_same (hf.block g (cell_lt c1) hg)];exact c1
 have d2:W.cell? ⟨g,o+j*7+2,none⟩=some (.slice la rs[j].key.length lc):=by rw [cell_same (hf.block g (cell_lt c1) hg)];exact c2
 generalize rs[i].key.length=X at *
 generalize rs[j].key.length=Y at *
 have XI:(X:Int)≤1000000:=by omega
 have YI:(Y:Int)≤1000000:=by omega
 have X0:(0:Int)≤(X:Int):=by omega
 have Y0:(0:Int)≤(Y:Int):=by omega
 have nI:(n:Int)≤1000000:=by omega
 have k0:=fun m os=>((Grown.refl W).quiet m os).cellv b0
 have k1:=fun m os=>((Grown.refl W).quiet m os).cellv d1
 have k2:=fun m os=>((Grown.refl W).quiet m os).cellv d2
 clear hP hN hb hf hz c1 c2 hil hjl hlt
 go_enter Tryz.func93,Tryz.ntmps93
 go_wp2
 refine wp_region_quiet_grown mixed (by kernel_rfl) ?_
 repeat (go_big_quiet_step (fail))
 refine wpQuiet_nil ?_
 intro _ hw'
 obtain ⟨⟨nq,osq⟩,hw''⟩:=hw'
 subst hw''
 go_wp2
 go_ret
 exact ⟨rfl,(Grown.refl W).quiet _ _⟩
theorem insertion_nil (w:World) (cv:Value) (c:Nat):Calls Tryz.prog 138 #[.slice none 0 c,.int .i64 0,.int .i64 0,cv] w fun e w'=>e = .returned (.tuple #[])∧w'=w:=by
 go_enter Tryz.func138,Tryz.ntmps138
 go_wp2
 refine wp_loop_rounds 1 ?_
 rw [rounds_succ]
 go_wp2
 go_end0
 exact ⟨rfl,rfl⟩
theorem stable_nil (w:World) (cv:Value) (c:Nat):Calls Tryz.prog 112 #[.slice none 0 c,.int .i64 0,cv] w fun e w'=>e = .returned (.tuple #[])∧w'=w:=by
 have HC:=Hid.mk' (insertion_nil w cv c)
 go_enter Tryz.func112,Tryz.ntmps112
 go_wp2
 refine wp_loop_rounds 1 ?_
 rw [rounds_succ]
 go_wp2_with (go_at_call 138;refine HC.out.mono ?_;rintro e w1 ⟨rfl,rfl⟩)
 refine wp_loop_rounds 1 ?_
 rw [rounds_succ]
 go_wp2
 go_end0
 exact ⟨rfl,rfl⟩
theorem sort_some {w0 w:World} {blk cap n:Nat} {d:List Int} {key:Int→Int} {bx:Nat} (h:Sq w0 w blk cap n d) (hc:CmpC w0 blk n key bx) (hkey:∀ x,0≤key x∧key x≤1000000) (hn:n≤1000000) (hid:∀ i,i<n→bAt d i=(i:Int)) :
 Calls Tryz.prog 92 #[.slice (some ⟨blk,0,none⟩) n cap,.func (.func 93) #[] #[.pointer (some ⟨bx,0,none⟩)]] w fun e w'=>e = .returned (.tuple #[])∧∃ d',Sq w0 w' blk cap n d'∧Sg key d' 0 n:=by
 have HC:=Hid.mk' (stable_any h hc hkey hn hid)
 clear h hc hkey hid
 go_enter Tryz.func92,Tryz.ntmps92
 go_wp2_with (go_at_call 112;refine HC.out.mono ?_;rintro e w1 ⟨rfl,hq⟩;have HQ:=Hid.mk' hq;clear hq)
 go_end0
 exact ⟨rfl,HQ.out⟩
theorem sort_nil (w:World) (cv:Value) (c:Nat):Calls Tryz.prog 92 #[.slice none 0 c,cv] w fun e w'=>e = .returned (.tuple #[])∧w'=w:=by
 have HC:=Hid.mk' (stable_nil w cv c)
 go_enter Tryz.func92,Tryz.ntmps92
 go_wp2_with (go_at_call 112;refine HC.out.mono ?_;rintro e w1 ⟨rfl,rfl⟩)
 go_end0
 exact ⟨rfl,rfl⟩
section
variable {w:World} {base xb:Nat} {pv rv sv gv cv:Value} {G:List It} {S:List (Value × List It)} {C:List (Value × List (Pc × Value))} {R:List LRu} {re:List Value} {n:Nat}
end
theorem inf59:(Tryz.prog.info? 39).map (fun i=>(i.zero,i.size,i.bytes))=some (some (.slice none 0 0),1,24):=by kernel_rfl
theorem inf66:(Tryz.prog.info? 58).map (fun i=>(i.zero,i.size,i.bytes))=some (some (.agg #[.int .i64 0,.int .i64 0,.int .i64 0,.slice none 0 0]),4,48):=by kernel_rfl
theorem inf54:(Tryz.prog.info? 61).map (fun i=>(i.zero,i.size,i.bytes))=some (some (.agg #[.bool false,.slice none 0 0,.slice none 0 0,.slice none 0 0,.bool false,.slice none 0 0,.int .i64 0]),7,120):=by kernel_rfl
theorem new_blk {W:World} {b:Nat} {o:Obj} (h:W.heap.size=b):(W.alloc o).heap[b]? = some o:=by subst h;exact heap_alloc_new _ _
def idL (k:Nat):List Int:=(List.range k).map fun i:Nat=>(i:Int)
theorem idL_succ (k:Nat):idL (k+1)=idL k++[(k:Int)]:=by simp [idL,List.range_succ]
theorem idL_len (k:Nat):(idL k).length=k:=by simp [idL]
theorem idL_at {k i:Nat} (h:i<k):bAt (idL k) i=(i:Int):=by simp [bAt,idL,h]
def LfQ (w:World) (rs:List Rl) (e:Ending) (w':World):Prop:=∃ lv d,e = .returned lv∧OwnI w' w.heap.size lv d∧d.length=rs.length∧Sg (klI rs) d 0 rs.length∧Below w.heap.size w w'
set_option maxHeartbeats 8000000 in
theorem longest_any (v:Value) (rs:List Rl) (w:World) (h:PsR w v rs) (hn:rs.length≤1000000) (hz:∀ r∈rs,r.key.length≤1000000):Calls Tryz.prog 66 #[v] w (LfQ w rs):=by
 have HP:Hid (∀ V,Below w.heap.size w V→PsR V v rs):=fun V hb=>h.below hb (Nat.le_refl _)
 have HZ:=Hid.mk' hz
 have HLT:Hid (∀ a n c g o,v = .slice a n c→a=some ⟨g,o,none⟩→0<rs.length→g<w.heap.size):=fun a n c g o e1 e2 h0=>by
  subst e1
  obtain ⟨g',o',ka,kc,e3,c1⟩:=psr_key h h0
  rw [e2] at e3
  injection e3 with e3
  injection e3 with e3 _
  subst e3
  exact cell_lt c1
 obtain ⟨ra,rc,hv,hx1,hx2⟩:=h
 subst hv
 clear hx1 hx2 hz
 obtain ⟨n,hN⟩:∃ n,rs.length=n:=⟨_,rfl⟩
 have HN:Hid (rs.length=n):=hN
 rw [hN] at HP hn HLT ⊢
 have nI:(n:Int)≤1000000:=by omega
 clear hN
 go_enter Tryz.func66,Tryz.ntmps66
 go_wp2
 obtain ⟨bx,hbx⟩:∃ bx,w.heap.size=bx:=⟨_,rfl⟩
 have HBX:=Hid.mk' hbx
 obtain ⟨w1,hw1⟩:∃ w1,w1=w.alloc (.cells #[.slice ra n rc] 22):=⟨_,rfl⟩
 have HW1:Hid (Grown w w1∧w1.cell? ⟨bx,0,none⟩=some (.slice ra n rc)∧w1.heap.size=bx+1):=by
  rw [hw1]
  exact ⟨(Grown.refl _).alloc _,by rw [cell_of (new_blk hbx)];rfl,by simp;omega⟩
 rw [←hw1,hbx]
 clear hw1 hbx
 go_loopw [3,7] (fun v3 v7 wr=>∃ k:Nat,v7 = .int .i64 k∧k≤n∧Hid (OwnI wr (bx+1) v3 (idL k)∧Below (bx+1) w1 wr∧(k=0→v3 = .slice none 0 0))) (fun _ v7 _=>n - (intOf v7).toNat)
 case atStart=>exact ⟨0,rfl,by omega,OwnI.nil _ _,Below.refl _ _,fun _=>rfl⟩
 case round=>
  obtain ⟨k,rfl,hk,HO⟩:=hrel
  have k0:(0:Int)≤(k:Int):=by omega
  obtain ⟨hO,hB,hNil⟩:=HO.out
  obtain ⟨x1,x2,x3,hsl⟩:=hO.ir.sl
  subst hsl
  by_cases hlt:k<n
  · have hltI:(k:Int)<(n:Int):=by omega
    have HY:Hid (∀ ob,OwnI (wr.alloc ob) (bx+1) (.slice x1 x2 x3) (idL k)∧bx+1≤(wr.alloc ob).heap.size∧Below (bx+1) w1 (wr.alloc ob)):=fun ob=>by
     have g:=(Grown.refl wr).alloc ob
     have:=HW1.out.2.2
     have:=hB.size
     exact ⟨hO.below g.below (Nat.le_refl _),by simp;omega,hB.trans (g.below.mono (by omega))⟩
    have hkN:(idL k).length+1≤8796093022208:=by rw [idL_len];omega
    clear hO hB HO hNil
    go_wp2_with (at_builtin;go_must (refine push_I rfl _ _ 25 rfl Tryz.underlying25 (bx+1) _ (idL k) rfl (HY.out _).1 _ _ k rfl (by (first | (simp;done) | exact new_cell _ _ _ _ rfl)) hkN (HY.out _).2.1 ?_;intro v3 w3 hO3 hB3;have HZ3:Hid (OwnI w3 (bx+1) v3 (idL (k+1))∧Below (bx+1) w1 w3∧(k+1=0→v3 = .slice none 0 0)):=⟨by rw [idL_succ];exact hO3,(HY.out _).2.2.trans hB3,fun h=>by omega⟩;clear hO3 hB3))
    exact ⟨⟨k+1,by go_num,by omega,HZ3⟩,by simp [intOf];omega⟩
  · have hge:¬ (k:Int)<(n:Int):=by omega
    have hkn:k=n:=by omega
    subst hkn
    have HBW:Hid (Below w.heap.size w wr):=HW1.out.1.below.trans (hB.mono (by rw [HBX.out];omega))
    by_cases hn0:k=0
    · subst hn0
      have e:=hNil rfl
      injection e with e1 e2 e3
      subst e1 e2 e3
      have HC:=Hid.mk' (sort_nil wr (.func (.func 93) #[] #[.pointer (some ⟨bx,0,none⟩)]) 0)
      have HOO:=Hid.mk' (hO.le (show w.heap.size≤bx+1 by rw [HBX.out];omega))
      clear HO hO hB hNil
      go_wp2_with (go_at_call 92;refine HC.out.mono ?_;rintro e w4 ⟨rfl,rfl⟩)
      go_ret
      exact ⟨_,_,rfl,HOO.out,by rw [HN.out];rfl,⟨fun i j _ _ h=>by rw [HN.out] at h;omega,fun i _ h=>by rw [HN.out] at h;omega⟩,HBW.out⟩
    · obtain ⟨g,cap,hv,hg1,hg2⟩:=World.ownsRow.form hO (by rw [idL_len];omega)
      rw [idL_len] at hv
      injection hv with e1 e2 e3
      subst e1 e2 e3
      have hgb:bx+1≤g:=(World.ownsRow.lt hO g rfl).1
      have hbx:=HBX.out
      have hsq:Sq wr wr g x3 x2 (idL x2):=⟨idL_len _,by have:=Joins.ownsRow_le hO (Nat.zero_le _);rw [idL_len] at this;exact this,Fr.refl _ _,fun i hi=>by rw [idL_at hi];omega⟩
      have hcm:CmpC wr g x2 (klI rs) bx:=cmp_any (HP.out wr HBW.out) HN.out (cell_below HW1.out.2.1 hB (by have:=HW1.out.2.2;omega)) (by omega) (fun g' o' e=>by have:=HLT.out _ _ _ g' o' rfl e (by omega);omega) HZ.out hn
      have HC:=Hid.mk' (sort_some hsq hcm (kl_in HZ.out) hn fun i hi=>idL_at hi)
      clear HO hO hB hNil hsq hcm hg1 hg2
      go_wp2_with (go_at_call 92;refine HC.out.mono ?_;rintro e w4 ⟨rfl,d4,hs4,hg4⟩;have H4:Hid (Sq wr w4 g x3 x2 d4∧Sg (klI rs) d4 0 x2):=⟨hs4,hg4⟩;clear hs4 hg4)
      go_ret
      have hl4:=H4.out.1.l
      refine ⟨_,d4,rfl,?_,by rw [HN.out];exact hl4,by rw [HN.out];exact H4.out.2,HBW.out.trans (H4.out.1.f.below (fun b e=>by have e:b=g:=e;omega) HBW.out.size)⟩
      have ho:=H4.out.1.o
      unfold OwnI
      rw [hl4]
      refine ⟨ho.1,?_⟩
      rcases ho.2 with h | ⟨g',c',cur,e,_,h2,h3⟩
      · exact .inl h
      · injection e with e1 e2 e3
        injection e1 with e1
        injection e1 with e1 _
        subst e1 e3
        exact .inr ⟨g,x3,cur,rfl,by omega,h2,h3⟩
theorem run_appI (w:World) (ty:TypeId) (base:Nat) (v:Value) (l b:List Int) (xv:Value) (hown:OwnI w base v l) (hr:IR w xv b) (hl:l.length+b.length≤8796093022208) (hbase:base≤w.heap.size) :
 ∃ v' w',(Builtin.append_ #[25,25] ty #[v,xv]).run Tryz.prog w = .ok v' w'∧OwnI w' base v' (l++b)∧w.grownBy w' v.ownBlock∧(v'.ownBlock=v.ownBlock∨v'.ownBlock=some w.heap.size):=by
 obtain ⟨i0,hi0,hz0,hz1,hz2⟩:=info_parts iinfo3
 obtain ⟨A,c,rfl,hc,hr⟩:=hr
 by_cases he:b=[]
 · subst he
   obtain ⟨va,vn,vc,hv⟩:=hown.ir.sl
   have hvn:vn=l.length∧vn≤vc:=by
    obtain ⟨a',c',e,h1,_⟩:=hown.ir
    rw [hv] at e
    injection e with _ e2 e3
    omega
   subst hv
   have hr:=run_append_nothing (P:=Tryz.prog) w 25 25 ty 3 i0 Tryz.underlying25 hi0 va vn vc hvn.2 (.slice A 0 c) ⟨.inl ⟨3,Tryz.underlying25⟩,fun w'=>by cases A <;> simp [Builtin.lenOf,go_sem],by cases A <;> simp [Builtin.firstCells,go_sem],by cases A <;> simp [Builtin.firstCells,go_sem],by simp,by simp⟩
   exact ⟨_,w,hr,by simpa using hown,⟨rfl,rfl,rfl,Nat.le_refl _,fun _ _ _=>rfl⟩,.inl rfl⟩
 · obtain ⟨g1,o',rfl,hd⟩:=hr.resolve_left he
   obtain ⟨v',w',h1,h2,h3,h4,h5⟩:=run_append_own_at (P:=Tryz.prog) w base 25 ty 3 i0 (.int .i64 0) 1 8 Tryz.underlying25 hi0 hz0 hz1 hz2 rfl (by decide) v l.length (ints l) hown ⟨g1,o',none⟩ b.length c (ints b) (by rw [ints_length,Nat.mul_one]) (fun j u hj=>by
    have hadd:(⟨g1,o',none⟩:Addr).add j=⟨g1,o'+j,none⟩:=by unfold Addr.add;split <;> simp_all
    rw [hadd]
    simp only [ints,List.getElem?_map,Option.map_eq_some_iff] at hj
    obtain ⟨y,hy,rfl⟩:=hj
    obtain ⟨hj1,hj2⟩:=List.getElem?_eq_some_iff.1 hy
    rw [hd j hj1,hj2]) (ints_one _) (by unfold maxLen;omega) (by omega) hbase
   exact ⟨v',w',h1,by unfold OwnI;rw [ints_append,List.length_append];exact h2,h3,h5⟩
theorem app_I2 {ops:Array Oper} {rest:List Oper} {o:Oper} {a:Act} {Q:Exit→Act→World→Prop} {w:World} (hgd:o.guard=none) (s x:Operand)
 (ho:o.op = .call { callee := .builtin .append,args:=#[s,x],argTypes:=#[25,25] })
 (base:Nat) (v xv:Value) (l b:List Int) (hs:a.eval s=v) (hown:OwnI w base v l) (hx:a.eval x=xv) (hr:IR w xv b) (hl:l.length+b.length≤8796093022208) (hbase:base≤w.heap.size)
 (h:∀ v' w',OwnI w' base v' (l++b)→w.grownBy w' v.ownBlock→wpList Tryz.prog ops Q rest (a.put o.dst v') w'):wpList Tryz.prog ops Q (o::rest) a w:=by
 refine wpList_plain hgd fun K hK => ?_
 obtain ⟨v',w',hr2,h1,h2,_⟩:=run_appI w o.type base v l b xv hown hr hl hbase
 unfold Oper.wp execOp
 simp only [ho,resolve,invoke,builtin,Sem.run_bind,Sem.run_pure,Result.andThen_ok,List.map_toArray,List.map_cons,List.map_nil,hs,hx,hr2]
 exact hK _ _ (h v' w' h1 h2)
theorem app_I3 {ops:Array Oper} {rest:List Oper} {o:Oper} {a:Act} {Q:Exit→Act→World→Prop} {w:World} (hgd:o.guard=none) (s x:Operand)
 (ho:o.op = .call { callee := .builtin .append,args:=#[s,x],argTypes:=#[25,25] })
 (base:Nat) (v xv:Value) (l b:List Int) (hs:a.eval s=v) (hown:OwnI w base v l) (hx:a.eval x=xv) (hr:IR w xv b) (hl:l.length+b.length≤8796093022208) (hbase:base≤w.heap.size)
 (h:∀ v' w',OwnI w' base v' (l++b)→w.grownBy w' v.ownBlock→(v'.ownBlock=v.ownBlock∨v'.ownBlock=some w.heap.size)→wpList Tryz.prog ops Q rest (a.put o.dst v') w'):wpList Tryz.prog ops Q (o::rest) a w:=by
 refine wpList_plain hgd fun K hK => ?_
 obtain ⟨v',w',hr2,h1,h2,h3⟩:=run_appI w o.type base v l b xv hown hr hl hbase
 unfold Oper.wp execOp
 simp only [ho,resolve,invoke,builtin,Sem.run_bind,Sem.run_pure,Result.andThen_ok,List.map_toArray,List.map_cons,List.map_nil,hs,hx,hr2]
 exact hK _ _ (h v' w' h1 h2 h3)
set_option maxHeartbeats 4000000 in
theorem grow_any (n:Nat) (hn0:0<n) (hn:n≤1000000000) (w:World):Calls Tryz.prog 143 #[.slice none 0 0,.int .i64 n] w fun e w'=>∃ cap,e = .returned (.slice (some ⟨w.heap.size,0,none⟩) 0 cap)∧OwnI w' w.heap.size (.slice (some ⟨w.heap.size,0,none⟩) 0 cap) []∧Grown w w':=by
 obtain ⟨i0,hi0,hz0,hz1,hz2⟩:=info_parts iinfo3
 have hr:=fun W ty=>Go.Lib.run_append_nil_zeros (P:=Tryz.prog) W 25 3 ty 3 i0 (.int .i64 0) .i64 .i64 Tryz.underlying25 Tryz.underlying3 hi0 hz0 n hn0 (by rw [hz1];decide) (by omega) (by rw [hz2];omega)
 have HR:=Hid.mk' hr
 have nI:(n:Int)≤1000000000:=by omega
 have n0:(0:Int)<(n:Int):=by omega
 clear hr
 go_enter Tryz.func143,Tryz.ntmps143
 go_wp2_with (at_builtin;go_must (refine Go.Lib.wpList_append_run _ rfl _ _ 25 3 rfl _ _ rfl rfl _ _ (HR.out _ _) ?_))
 go_ret
 refine ⟨grownCap w n 0 3,rfl,⟨rfl,.inr ⟨w.heap.size,grownCap w n 0 3,_,rfl,Nat.le_refl _,heap_alloc_new w _,Nat.zero_le _,grownCap_le_maxLen w n 0 3 (by unfold maxLen;omega),?_,by simp [ints]⟩⟩,((Grown.refl _).alloc _).drew⟩
 have:=grownCap_ge w n 0 3
 simp only [Array.size_append,size_zeroCells]
 show n*1+(grownCap w n 0 3 - n)*1=_
 omega
set_option maxHeartbeats 8000000 in
theorem concat_any (b:Nat) (v1 v2:Value) (l1 l2:List Int) (w:World) (c1:w.cell? ⟨b,0,none⟩=some v1) (c2:w.cell? ⟨b,1,none⟩=some v2) (h1:IR w v1 l1) (h2:IR w v2 l2) (h0:0<l1.length+l2.length) (hn:l1.length+l2.length≤1000000000) :
 Calls Tryz.prog 117 #[.slice (some ⟨b,0,none⟩) 2 2] w fun e w'=>∃ v',e = .returned v'∧OwnI w' w.heap.size v' (l1++l2)∧Below w.heap.size w w':=by
 have H1:Hid (∀ V,Below w.heap.size w V→IR V v1 l1):=fun V hb=>h1.below hb (Nat.le_refl _)
 have H2:Hid (∀ V,Below w.heap.size w V→IR V v2 l2):=fun V hb=>h2.below hb (Nat.le_refl _)
 have HC1:Hid (∀ V,Below w.heap.size w V→V.cell? ⟨b,0,none⟩=some v1∧V.cell? ⟨b,1,none⟩=some v2):=fun V hb=>⟨cell_below c1 hb (Nat.le_refl _),cell_below c2 hb (Nat.le_refl _)⟩
 have HG:=Hid.mk' (fun W=>grow_any (l1.length+l2.length) h0 hn W)
 obtain ⟨x1,x3,e1,_,_⟩:=h1
 obtain ⟨y1,y3,e2,_,_⟩:=h2
 obtain ⟨n1,hn1⟩:∃ n1,l1.length=n1:=⟨_,rfl⟩
 obtain ⟨n2,hn2⟩:∃ n2,l2.length=n2:=⟨_,rfl⟩
 have HN1:=Hid.mk' hn1
 have HN2:=Hid.mk' hn2
 rw [hn1] at e1 hn HG
 rw [hn2] at e2 hn HG
 subst e1 e2
 have n1I:(n1:Int)≤1000000000:=by omega
 have n2I:(n2:Int)≤1000000000:=by omega
 have n10:(0:Int)≤(n1:Int):=by omega
 have n20:(0:Int)≤(n2:Int):=by omega
 have ns:(n1:Int)+(n2:Int)≤1000000000:=by omega
 have ncast:((n1+n2:Nat):Int)=(n1:Int)+(n2:Int):=by omega
 rw [ncast] at HG
 clear hn1 hn2 h0 ncast
 go_enter Tryz.func117,Tryz.ntmps117
 go_wp2
 refine wp_loop_rounds 3 ?_
 rw [rounds_succ]
 go_wp2
 rw [rounds_succ]
 go_wp2
 rw [rounds_succ]
 go_wp2_with (go_at_call 143;refine (HG.out _).mono ?_;rintro e w1 ⟨cap,rfl,hO1,hG1⟩;have HO1:=Hid.mk' hO1;have HG1:=Hid.mk' hG1;clear hO1 hG1)
 have hB1:Below w.heap.size w w1:=HG1.out.below
 obtain ⟨d1,d2⟩:=HC1.out w1 hB1
 have HB1:=Hid.mk' hB1
 clear c1 c2 hB1
 refine wp_loop_rounds 3 ?_
 rw [rounds_succ]
 go_wp2_with (at_builtin;go_must (refine app_I2 rfl _ _ rfl w.heap.size _ _ [] l1 rfl HO1.out rfl (H1.out w1 HB1.out) (by rw [HN1.out];simp;omega) HB1.out.size ?_;intro v2 w2 hO2 hg2;have HO2:Hid (OwnI w2 w.heap.size v2 l1):=hO2;have HB2:Hid (Below w.heap.size w w2):=HB1.out.grown hg2 HB1.out.size (fun k hk=>(World.ownsRow.lt HO1.out k hk).1);obtain ⟨p1,p2,p3,hv2⟩:=hO2.ir.sl;subst hv2;clear hO2 hg2))
 obtain ⟨f1,f2⟩:=HC1.out w2 HB2.out
 rw [rounds_succ]
 go_wp2_with (at_builtin;go_must (refine app_I2 rfl _ _ rfl w.heap.size _ _ l1 l2 rfl HO2.out rfl (H2.out w2 HB2.out) (by rw [HN1.out,HN2.out];omega) HB2.out.size ?_;intro v3 w3 hO3 hg3;have HO3:Hid (OwnI w3 w.heap.size v3 (l1++l2)):=hO3;have HB3:Hid (Below w.heap.size w w3):=HB2.out.grown hg3 HB2.out.size (fun k hk=>(World.ownsRow.lt HO2.out k hk).1);obtain ⟨q1,q2,q3,hv3⟩:=hO3.ir.sl;subst hv3;clear hO3 hg3))
 rw [rounds_succ]
 go_wp2
 go_ret
 exact ⟨_,rfl,HO3.out,HB3.out⟩
end Go.Proofs
