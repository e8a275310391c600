/-
  Several texts in one (Se Sf).
-/
import Derived.RangeFuncNested
import Derived.RangeFuncBound
import Derived.RangeFuncCalls
import Derived.RangeFuncLeaves
import Derived.Shelf.Abstract
import Derived.Shelf.RegionOpen
import Derived.WalkKit
import Derived.WalkSpells
import Derived.WalkLawsBesides
import Derived.OwnWalkIn
import Derived.TacticsInMore
import Derived.LoopNIn
import Derived.LoopIn
import Derived.BigQuiet
import Derived.RegionIn
import Derived.Deep.QuietTactic
import Derived.Deep.RegionWith
import Derived.Lib.OthersKept
import Derived.Maps.AppendAt
import Derived.Lib.SmallJoins
import Derived.Shelf.SlSortCmp.QuietGrown
import Derived.Test.YtibgnkpagfpinaaGreatDoorMgfp
namespace Go.Proofs
open Go.RowKit Go.Shelf
set_option maxRecDepth 100000
attribute [local go_sem] Oper.semAt_some
attribute [local go_sem ↓] Go.wp_at_zero Go.wp_at_succ
set_option maxHeartbeats 16000000 in
theorem sym_one {w0 w:World} {blk cap n:Nat} {d:List Int} {key:Int→Int} {bx:Nat} (h:Sq w0 w blk cap n d) (hc:CmpC w0 blk n key bx) (hkey:∀ x,0≤key x∧key x≤1000000) (a b:Nat) (hab:a+1≤b) (hb:b≤n) (hn:n≤1000000) (hs:SS key d (a+1) b) (hx:Hx d a (a+1) b) :
 Calls Tryz.prog 146 #[.slice (some ⟨blk,0,none⟩) n cap,.int .i64 a,.int .i64 ((a:Int)+1),.int .i64 b,.func (.func 96) #[] #[.pointer (some ⟨bx,0,none⟩)]] w fun e w'=>e = .returned (.tuple #[])∧∃ d',Sq w0 w' blk cap n d'∧Mix d d' a b∧SS key d' a b:=by
 have HS:Hid (Sq w0 w blk cap n d):=h
 have HC:=Hid.mk' hc
 have HK:=Hid.mk' hkey
 have HSS:=Hid.mk' hs
 have HX:=Hid.mk' hx
 have hnI:(n:Int)≤1000000:=by omega
 have hdl:d.length=n:=h.l
 have a0:(0:Int)≤(a:Int):=by omega
 have aI:(a:Int)<(n:Int):=by omega
 have bI:(b:Int)≤(n:Int):=by omega
 have hone:(a:Int)+1 - (a:Int)=1:=by omega
 have ca:=h.cell (j:=a) (by omega)
 clear h hc hkey hs hx
 go_enter Tryz.func146,Tryz.ntmps146
 go_wp2
 go_loopw [10,11] (fun v10 v11 wr=>∃ i j:Nat,v10 = .int .i64 i∧v11 = .int .i64 j∧a+1≤i∧i≤j∧j≤b∧Hid (Sq w0 wr blk cap n d∧(i=a+1∨lt key (bAt d (i - 1)) (bAt d a))∧(j=b∨lt key (bAt d a) (bAt d j)))) (fun v10 v11 _=>(intOf v11).toNat - (intOf v10).toNat)
 case atStart=>exact ⟨a+1,b,by go_num,rfl,Nat.le_refl _,hab,Nat.le_refl _,HS.out,.inl rfl,.inl rfl⟩
 case round=>
  obtain ⟨i,j,rfl,rfl,hai,hij,hjb,HF⟩:=hrel
  have i0:(0:Int)≤(i:Int):=by omega
  have j0:(0:Int)≤(j:Int):=by omega
  have iI:(i:Int)≤1000000:=by omega
  have jI:(j:Int)≤1000000:=by omega
  by_cases hlt:i<j
  · have hltI:(i:Int)<(j:Int):=by omega
    go_wp2_with fail
    have hq:((i:Int)+(j:Int)) / 2=(((i+j) / 2:Nat):Int):=by omega
    rw [hq]
    obtain ⟨h,hh⟩:∃ h,(i+j) / 2=h:=⟨_,rfl⟩
    have hih:i≤h:=by omega
    have hhj:h<j:=by omega
    rw [hh]
    clear hq hh
    have h0:(0:Int)≤(h:Int):=by omega
    have hI:(h:Int)<(n:Int):=by omega
    obtain ⟨hsq,hc1,hc2⟩:=HF.out
    have c1:=hsq.cell (j:=h) (by omega)
    have c2:=hsq.cell (j:=a) (by omega)
    have r1:=hsq.r h (by omega)
    have r2:=hsq.r a (by omega)
    have HC1:Hid (∀ m os,Calls Tryz.prog 96 #[.int .i64 (bAt d h),.int .i64 (bAt d a),.pointer (some ⟨bx,0,none⟩)] (Go.Sort.grow (wr.drewN m) os) fun e w'=>e = .returned (.int .i64 (key (bAt d a) - key (bAt d h)))∧Grown (Go.Sort.grow (wr.drewN m) os) w'):=fun m os=>HC.out _ ((hsq.grown ((Grown.refl wr).quiet m os)).f) _ _ r1.1 r1.2 r2.1 r2.2
    have k1:=fun m os=>((Grown.refl wr).quiet m os).cellv c1
    have k2:=fun m os=>((Grown.refl wr).quiet m os).cellv c2
    have hK1:=HK.out (bAt d h)
    have hK2:=HK.out (bAt d a)
    have HSG:=Hid.mk' (fun m os=>hsq.grown ((Grown.refl wr).quiet m os))
    obtain ⟨D,hD⟩:∃ D,key (bAt d a) - key (bAt d h)=D:=⟨_,rfl⟩
    rw [hD] at HC1
    have HY:Hid (D<0→lt key (bAt d h) (bAt d a)):=fun hl=>lt_clt (by omega)
    have HN:Hid (¬ D<0→lt key (bAt d a) (bAt d h)):=fun hl=>lt_not (HX.out a h (Nat.le_refl _) (by omega) (by omega) (by omega)) (by omega)
    have H1:=Hid.mk' hc1
    have H2:=Hid.mk' hc2
    generalize bAt d h=x at c1 HC1 k1
    generalize bAt d a=y at c2 ca HC1 k2
    clear hsq HF hc1 hc2 hD r1 r2 hK1 hK2
    by_cases hDl:D<0
    · have hDd:decide (D<0)=true:=by simpa using hDl
      have HY2:=Hid.mk' (HY.out hDl)
      clear HY HN
      refine wp_region_quiet_grown mixed (by kernel_rfl) ?_
      repeat (go_big_quiet_step ((go_at_call 96;exact grown_of (HC1.out _ _))))
      refine wpQuiet_nil ?_
      intro _ hw'
      obtain ⟨⟨nq,osq⟩,hw''⟩:=hw'
      subst hw''
      go_wp2
      exact ⟨⟨h+1,j,by go_num,rfl,by omega,by omega,hjb,HSG.out _ _,.inr (by rw [Nat.add_sub_cancel];exact HY2.out),H2.out⟩,by simp [intOf];omega⟩
    · have hDd:decide (D<0)=false:=by simpa using hDl
      have HN2:=Hid.mk' (HN.out hDl)
      clear HY HN
      refine wp_region_quiet_grown mixed (by kernel_rfl) ?_
      repeat (go_big_quiet_step ((go_at_call 96;exact grown_of (HC1.out _ _))))
      refine wpQuiet_nil ?_
      intro _ hw'
      obtain ⟨⟨nq,osq⟩,hw''⟩:=hw'
      subst hw''
      go_wp2
      exact ⟨⟨i,h,rfl,rfl,hai,hih,by omega,HSG.out _ _,H1.out,.inr HN2.out⟩,by simp [intOf];omega⟩
  · have hge:¬ (i:Int)<(j:Int):=by omega
    have hjx:j=i:=by omega
    subst hjx
    obtain ⟨hsq,hc1,hc2⟩:=HF.out
    have H1:=Hid.mk' hc1
    have H2:=Hid.mk' hc2
    have HSQ:=Hid.mk' hsq
    clear HF hsq hc1 hc2 ca
    go_wp2
    go_loopw [13] (fun vk wr=>∃ k:Nat,vk = .int .i64 k∧a≤k∧k≤j - 1∧Hid (∃ f,Sq w0 wr blk cap n f∧MvR d f a k)) (fun vk _=>j - (intOf vk).toNat)
    case atStart=>exact ⟨a,rfl,Nat.le_refl _,by omega,d,HSQ.out,MvR.zero _ _⟩
    case round=>
     obtain ⟨k,rfl,hak,hkj,HE⟩:=hrel
     have k0:(0:Int)≤(k:Int):=by omega
     obtain ⟨f,hsq,hmv⟩:=HE.out
     by_cases hltk:k<j - 1
     · have hltkI:(k:Int)<(j:Int) - 1:=by omega
       have c1:=hsq.cell (j:=k) (by omega)
       have c2:=hsq.cell (j:=k+1) (by omega)
       have hfz:=hsq.frozen
       have HQ:Hid (∀ V,Grown wr V→Sq w0 ((V.setCell ⟨blk,k,none⟩ (.int .i64 (bAt f (k+1)))).setCell ⟨blk,k+1,none⟩ (.int .i64 (bAt f k))) blk cap n (swp f k (k+1))):=fun V hg=>(hsq.grown hg).swap (by omega) (by omega)
       have HM:=Hid.mk' (hmv.succ hak (by omega))
       generalize bAt f k=x at c1 HQ
       generalize bAt f (k+1)=y at c2 HQ
       have kI:(k:Int)+1<(n:Int):=by omega
       have t1:((k:Int)+1).toNat=k+1:=by omega
       clear hsq hmv HE
       go_wp2
       go_region
       all_goals (go_wp2;exact ⟨⟨k+1,by go_num,by omega,by omega,_,(HQ.out wr (Grown.refl _)).grown ((Grown.refl _).drew),HM.out⟩,by simp [intOf];omega⟩)
     · have hgek:¬ (k:Int)<(j:Int) - 1:=by omega
       have hkk:k=j - 1:=by omega
       have HFI:Hid (∃ d',Sq w0 wr blk cap n d'∧Mix d d' a b∧SS key d' a b):=by
        rw [hkk] at hmv
        exact ⟨f,hsq,hmv.done hai hjb HSS.out H1.out H2.out⟩
       clear hsq hmv HE hkk
       go_wp2
       refine bodyPost_ret (results_none rfl _ _ _) rfl ?_
       exact ⟨rfl,HFI.out⟩
set_option maxHeartbeats 16000000 in
theorem sym_two {w0 w:World} {blk cap n:Nat} {d:List Int} {key:Int→Int} {bx:Nat} (h:Sq w0 w blk cap n d) (hc:CmpC w0 blk n key bx) (hkey:∀ x,0≤key x∧key x≤1000000) (a m:Nat) (ham:a+1<m) (hb:m+1≤n) (hn:n≤1000000) (hs:SS key d a m) (hx:Hx d a m (m+1)) :
 Calls Tryz.prog 146 #[.slice (some ⟨blk,0,none⟩) n cap,.int .i64 a,.int .i64 m,.int .i64 ((m:Int)+1),.func (.func 96) #[] #[.pointer (some ⟨bx,0,none⟩)]] w fun e w'=>e = .returned (.tuple #[])∧∃ d',Sq w0 w' blk cap n d'∧Mix d d' a (m+1)∧SS key d' a (m+1):=by
 have HS:Hid (Sq w0 w blk cap n d):=h
 have HC:=Hid.mk' hc
 have HK:=Hid.mk' hkey
 have HSS:=Hid.mk' hs
 have HX:=Hid.mk' hx
 have hnI:(n:Int)≤1000000:=by omega
 have hdl:d.length=n:=h.l
 have a0:(0:Int)≤(a:Int):=by omega
 have m0:(0:Int)≤(m:Int):=by omega
 have mI:(m:Int)<(n:Int):=by omega
 have hone:(m:Int)+1 - (m:Int)=1:=by omega
 have hno:((m:Int) - (a:Int) == 1)=false:=by simp;omega
 have cm:=h.cell (j:=m) (by omega)
 clear h hc hkey hs hx
 go_enter Tryz.func146,Tryz.ntmps146
 go_wp2
 go_loopw [14,15] (fun v10 v11 wr=>∃ i j:Nat,v10 = .int .i64 i∧v11 = .int .i64 j∧a≤i∧i≤j∧j≤m∧Hid (Sq w0 wr blk cap n d∧(i=a∨lt key (bAt d (i - 1)) (bAt d m))∧(j=m∨lt key (bAt d m) (bAt d j)))) (fun v10 v11 _=>(intOf v11).toNat - (intOf v10).toNat)
 case atStart=>exact ⟨a,m,rfl,rfl,Nat.le_refl _,by omega,Nat.le_refl _,HS.out,.inl rfl,.inl rfl⟩
 case round=>
  obtain ⟨i,j,rfl,rfl,hai,hij,hjb,HF⟩:=hrel
  have i0:(0:Int)≤(i:Int):=by omega
  have j0:(0:Int)≤(j:Int):=by omega
  have iI:(i:Int)≤1000000:=by omega
  have jI:(j:Int)≤1000000:=by omega
  by_cases hlt:i<j
  · have hltI:(i:Int)<(j:Int):=by omega
    go_wp2_with fail
    have hq:((i:Int)+(j:Int)) / 2=(((i+j) / 2:Nat):Int):=by omega
    rw [hq]
    obtain ⟨h,hh⟩:∃ h,(i+j) / 2=h:=⟨_,rfl⟩
    have hih:i≤h:=by omega
    have hhj:h<j:=by omega
    rw [hh]
    clear hq hh
    have h0:(0:Int)≤(h:Int):=by omega
    have hI:(h:Int)<(n:Int):=by omega
    obtain ⟨hsq,hc1,hc2⟩:=HF.out
    have c1:=hsq.cell (j:=h) (by omega)
    have c2:=hsq.cell (j:=m) (by omega)
    have r1:=hsq.r h (by omega)
    have r2:=hsq.r m (by omega)
    have HC1:Hid (∀ q os,Calls Tryz.prog 96 #[.int .i64 (bAt d m),.int .i64 (bAt d h),.pointer (some ⟨bx,0,none⟩)] (Go.Sort.grow (wr.drewN q) os) fun e w'=>e = .returned (.int .i64 (key (bAt d h) - key (bAt d m)))∧Grown (Go.Sort.grow (wr.drewN q) os) w'):=fun q os=>HC.out _ ((hsq.grown ((Grown.refl wr).quiet q os)).f) _ _ r2.1 r2.2 r1.1 r1.2
    have k1:=fun q os=>((Grown.refl wr).quiet q os).cellv c1
    have k2:=fun q os=>((Grown.refl wr).quiet q os).cellv c2
    have hK1:=HK.out (bAt d h)
    have hK2:=HK.out (bAt d m)
    have HSG:=Hid.mk' (fun q os=>hsq.grown ((Grown.refl wr).quiet q os))
    obtain ⟨D,hD⟩:∃ D,key (bAt d h) - key (bAt d m)=D:=⟨_,rfl⟩
    rw [hD] at HC1
    have HY:Hid (D<0→lt key (bAt d m) (bAt d h)):=fun hl=>lt_clt (by omega)
    have HN:Hid (¬ D<0→lt key (bAt d h) (bAt d m)):=fun hl=>lt_not (HX.out h m (by omega) (by omega) (Nat.le_refl _) (by omega)) (by omega)
    have H1:=Hid.mk' hc1
    have H2:=Hid.mk' hc2
    generalize bAt d h=x at c1 HC1 k1
    generalize bAt d m=y at c2 cm HC1 k2
    clear hsq HF hc1 hc2 hD r1 r2 hK1 hK2
    by_cases hDl:D<0
    · have hDd:decide (D<0)=true:=by simpa using hDl
      have HY2:=Hid.mk' (HY.out hDl)
      clear HY HN
      refine wp_region_quiet_grown mixed (by kernel_rfl) ?_
      repeat (go_big_quiet_step ((go_at_call 96;exact grown_of (HC1.out _ _))))
      refine wpQuiet_nil ?_
      intro _ hw'
      obtain ⟨⟨nq,osq⟩,hw''⟩:=hw'
      subst hw''
      go_wp2
      exact ⟨⟨i,h,rfl,rfl,hai,hih,by omega,HSG.out _ _,H1.out,.inr HY2.out⟩,by simp [intOf];omega⟩
    · have hDd:decide (D<0)=false:=by simpa using hDl
      have HN2:=Hid.mk' (HN.out hDl)
      clear HY HN
      refine wp_region_quiet_grown mixed (by kernel_rfl) ?_
      repeat (go_big_quiet_step ((go_at_call 96;exact grown_of (HC1.out _ _))))
      refine wpQuiet_nil ?_
      intro _ hw'
      obtain ⟨⟨nq,osq⟩,hw''⟩:=hw'
      subst hw''
      go_wp2
      exact ⟨⟨h+1,j,by go_num,rfl,by omega,by omega,hjb,HSG.out _ _,.inr (by rw [Nat.add_sub_cancel];exact HN2.out),H2.out⟩,by simp [intOf];omega⟩
  · have hge:¬ (i:Int)<(j:Int):=by omega
    have hjx:j=i:=by omega
    subst hjx
    obtain ⟨hsq,hc1,hc2⟩:=HF.out
    have H1:=Hid.mk' hc1
    have H2:=Hid.mk' hc2
    have HSQ:=Hid.mk' hsq
    clear HF hsq hc1 hc2 cm
    go_wp2
    go_loopw [17] (fun vk wr=>∃ k:Nat,vk = .int .i64 k∧j≤k∧k≤m∧Hid (∃ f,Sq w0 wr blk cap n f∧MvL d f m k)) (fun vk _=>(intOf vk).toNat)
    case atStart=>exact ⟨m,rfl,hjb,Nat.le_refl _,d,HSQ.out,MvL.zero _ _⟩
    case round=>
     obtain ⟨k,rfl,hak,hkj,HE⟩:=hrel
     have k0:(0:Int)≤(k:Int):=by omega
     obtain ⟨f,hsq,hmv⟩:=HE.out
     by_cases hltk:j<k
     · have hltkI:(j:Int)<(k:Int):=by omega
       have c1:=hsq.cell (j:=k) (by omega)
       have c2:=hsq.cell (j:=k - 1) (by omega)
       have hfz:=hsq.frozen
       have HQ:Hid (∀ V,Grown wr V→Sq w0 ((V.setCell ⟨blk,k,none⟩ (.int .i64 (bAt f (k - 1)))).setCell ⟨blk,k - 1,none⟩ (.int .i64 (bAt f k))) blk cap n (swp f k (k - 1))):=fun V hg=>(hsq.grown hg).swap (by omega) (by omega)
       have HM:Hid (MvL d (swp f k (k - 1)) m (k - 1)):=by
        have:=MvL.succ (k:=k - 1) (by rw [show k - 1+1=k by omega];exact hmv) (by omega) (by omega)
        rw [show k - 1+1=k by omega] at this
        exact this
       generalize bAt f k=x at c1 HQ
       generalize bAt f (k - 1)=y at c2 HQ
       have kI:(k:Int)<(n:Int):=by omega
       have t1:((k:Int) - 1).toNat=k - 1:=by omega
       clear hsq hmv HE
       go_wp2
       go_region
       all_goals (go_wp2;exact ⟨⟨k - 1,by rw [show (k:Int) - 1=((k - 1:Nat):Int) by omega],by omega,by omega,_,(HQ.out wr (Grown.refl _)).grown ((Grown.refl _).drew),HM.out⟩,by simp [intOf];omega⟩)
     · have hgek:¬ (j:Int)<(k:Int):=by omega
       have hkk:k=j:=by omega
       have HFI:Hid (∃ d',Sq w0 wr blk cap n d'∧Mix d d' a (m+1)∧SS key d' a (m+1)):=by
        rw [hkk] at hmv
        exact ⟨f,hsq,hmv.done hai hjb HSS.out H1.out H2.out⟩
       clear hsq hmv HE hkk
       go_wp2
       refine bodyPost_ret (results_none rfl _ _ _) rfl ?_
       exact ⟨rfl,HFI.out⟩
structure SymP (key:Int→Int) (d:List Int) (a m b mid st en:Nat):Prop where
 sa:SS key d a m
 sb:SS key d m b
 hx:Hx d a m b
 s1:a≤st
 s2:st≤m
 e1:m≤en
 e2:en≤b
 e3:mid=st+(en - m)
 c1:a<st→en<b→lt key (bAt d (st - 1)) (bAt d en)
 c2:st<m→m<en→lt key (bAt d (en - 1)) (bAt d st)
theorem SymP.rl {key:Int→Int} {d d1:List Int} {a m b mid st en:Nat} (h:SymP key d a m b mid st en) (hr:Rot d d1 st m en):SS key d1 a st∧SS key d1 st mid∧Hx d1 a st mid∧SS key d1 mid en∧SS key d1 en b∧Hx d1 mid en b:=by
 rw [h.e3]
 exact rot_left h.sa h.sb h.hx h.s1 h.s2 h.e1 h.e2 hr
theorem SymP.nl {key:Int→Int} {d1:List Int} {a b mid st en:Nat} (h:SS key d1 a st∧SS key d1 st mid∧Hx d1 a st mid∧SS key d1 mid en∧SS key d1 en b∧Hx d1 mid en b) (hz:st=a∨st=mid):Mix d1 d1 a mid∧SS key d1 a mid:=by
 refine ⟨Mix.refl _ _ _,?_⟩
 rcases hz with rfl | rfl
 · exact h.2.1
 · exact h.1
theorem SymP.a2 {key:Int→Int} {d1 d2:List Int} {a b mid st en:Nat} (h:SS key d1 a st∧SS key d1 st mid∧Hx d1 a st mid∧SS key d1 mid en∧SS key d1 en b∧Hx d1 mid en b) (hm:Mix d1 d2 a mid) (hme:mid≤en:=by omega):SS key d2 mid en∧SS key d2 en b∧Hx d2 mid en b:=by
 have e1:∀ k,mid≤k→bAt d2 k=bAt d1 k:=fun k hk=>hm.o k (by omega)
 refine ⟨h.2.2.2.1.same fun k h1 _=>e1 k h1,h.2.2.2.2.1.same fun k h1 _=>e1 k (by omega),fun i j h1 h2 h3 h4 => ?_⟩
 rw [e1 i h1,e1 j (by omega)];exact h.2.2.2.2.2 i j h1 h2 h3 h4
theorem SymP.nr {key:Int→Int} {d2:List Int} {b mid en:Nat} (h:SS key d2 mid en∧SS key d2 en b∧Hx d2 mid en b) (hz:en=mid∨en=b):Mix d2 d2 mid b∧SS key d2 mid b:=by
 refine ⟨Mix.refl _ _ _,?_⟩
 rcases hz with rfl | rfl
 · exact h.2.1
 · exact h.1
theorem SymP.fin {key:Int→Int} {d d1 d2 d3:List Int} {a m b mid st en:Nat} {w0 W:World} {blk cap n:Nat} (h:SymP key d a m b mid st en) (hs:Sq w0 W blk cap n d3) (hr:Rot d d1 st m en) (h2:Mix d1 d2 a mid∧SS key d2 a mid) (h3:Mix d2 d3 mid b∧SS key d3 mid b):∃ d',Sq w0 W blk cap n d'∧Mix d d' a b∧SS key d' a b:=
 ⟨d3,hs,sym_done h.sa h.sb h.s1 h.s2 h.e1 h.e2 h.e3 h.c1 h.c2 hr h2.1 h2.2 h3.1 h3.2⟩
set_option maxHeartbeats 32000000 in
theorem sym_any {w0:World} {blk cap n:Nat} {key:Int→Int} {bx:Nat} (hc:CmpC w0 blk n key bx) (hkey:∀ x,0≤key x∧key x≤1000000) (hn:n≤1000000):∀ (N a m b:Nat) (d:List Int) (w:World),b - a≤N→a<m→m<b→b≤n→Sq w0 w blk cap n d→SS key d a m→SS key d m b→Hx d a m b →
 Calls Tryz.prog 146 #[.slice (some ⟨blk,0,none⟩) n cap,.int .i64 a,.int .i64 m,.int .i64 b,.func (.func 96) #[] #[.pointer (some ⟨bx,0,none⟩)]] w fun e w'=>e = .returned (.tuple #[])∧∃ d',Sq w0 w' blk cap n d'∧Mix d d' a b∧SS key d' a b:=by
 intro N
 induction N with
 | zero=>intro a m b d w h1 h2 h3;omega
 | succ N ih=>
 intro a m b d w hN ham hmb hb h hsa hsb hx
 by_cases h1:m=a+1
 · subst h1
   have:=sym_one h hc hkey a b (by omega) hb hn hsb hx
   rw [show ((a+1:Nat):Int)=(a:Int)+1 by omega]
   exact this
 by_cases h2:b=m+1
 · subst h2
   have:=sym_two h hc hkey a m (by omega) hb hn hsa hx
   rw [show ((m+1:Nat):Int)=(m:Int)+1 by omega]
   exact this
 have IH:=Hid.mk' ih
 have HS:Hid (Sq w0 w blk cap n d):=h
 have HC:=Hid.mk' hc
 have HK:=Hid.mk' hkey
 have HSA:=Hid.mk' hsa
 have HSB:=Hid.mk' hsb
 have HX:=Hid.mk' hx
 have hnI:(n:Int)≤1000000:=by omega
 have hdl:d.length=n:=h.l
 have a0:(0:Int)≤(a:Int):=by omega
 have m0:(0:Int)≤(m:Int):=by omega
 have b0:(0:Int)≤(b:Int):=by omega
 have aI:(a:Int)≤1000000:=by omega
 have mI:(m:Int)≤1000000:=by omega
 have bI:(b:Int)≤1000000:=by omega
 have hno:((m:Int) - (a:Int) == 1)=false:=by simp;omega
 have hno2:((b:Int) - (m:Int) == 1)=false:=by simp;omega
 clear h hc hkey hsa hsb hx ih
 have hq:((a:Int)+(b:Int)) / 2=(((a+b) / 2:Nat):Int):=by omega
 obtain ⟨mid,hmid⟩:∃ mid,(a+b) / 2=mid:=⟨_,rfl⟩
 have hm1:a<mid:=by omega
 have hm2:mid<b:=by omega
 have hm3:2*mid≤a+b:=by omega
 have hm4:a+b≤2*mid+1:=by omega
 have mid0:(0:Int)≤(mid:Int):=by omega
 have midI:(mid:Int)≤1000000:=by omega
 rw [hmid] at hq
 clear hmid
 by_cases hgt:mid<m
 · have hgtI:(mid:Int)<(m:Int):=by omega
   obtain ⟨s0,hs0⟩:∃ s0,mid+m - b=s0:=⟨_,rfl⟩
   have HS0:Hid (s0+b=mid+m∧s0≤mid∧a≤s0∧mid≤m):=by refine ⟨?_,?_,?_,?_⟩ <;> omega
   have hz:(mid:Int)+(m:Int) - (b:Int)=(s0:Int):=by omega
   clear hs0
   go_enter Tryz.func146,Tryz.ntmps146
   go_wp2_with fail
   clear hz hq
   go_loopw [20,21] (fun v20 v21 wr=>∃ st r:Nat,v20 = .int .i64 st∧v21 = .int .i64 r∧s0≤st∧st≤r∧r≤mid∧Hid (Sq w0 wr blk cap n d∧(st=s0∨lt key (bAt d (st - 1)) (bAt d (mid+m - st)))∧(r=mid∨lt key (bAt d (mid+m - 1 - r)) (bAt d r)))) (fun v20 v21 _=>(intOf v21).toNat - (intOf v20).toNat)
   case atStart=>exact ⟨s0,mid,rfl,rfl,Nat.le_refl _,by have:=HS0.out;omega,Nat.le_refl _,HS.out,.inl rfl,.inl rfl⟩
   case round=>
    obtain ⟨st,r,rfl,rfl,hs0,hsr,hr0,HF⟩:=hrel
    have i0:(0:Int)≤(st:Int):=by omega
    have j0:(0:Int)≤(r:Int):=by omega
    have iI:(st:Int)≤1000000:=by omega
    have jI:(r:Int)≤1000000:=by omega
    by_cases hlt:st<r
    · have hltI:(st:Int)<(r:Int):=by omega
      go_wp2_with fail
      have hq:((st:Int)+(r:Int)) / 2=(((st+r) / 2:Nat):Int):=by omega
      rw [hq]
      obtain ⟨h,hh⟩:∃ h,(st+r) / 2=h:=⟨_,rfl⟩
      have hih:st≤h:=by omega
      have hhj:h<r:=by omega
      rw [hh]
      clear hq hh
      have h0:(0:Int)≤(h:Int):=by omega
      have hhm:h<m:=by have:=HS0.out;omega
      obtain ⟨p,hp⟩:∃ p,mid+m - 1 - h=p:=⟨_,rfl⟩
      have hpm:m≤p:=by have:=HS0.out;omega
      have hpb:p<b:=by have:=HS0.out;omega
      have hI:(h:Int)<(n:Int):=by omega
      have pq:((mid:Int)+(m:Int) - 1 - (h:Int)).toNat=p:=by omega
      have pq0:(0:Int)≤(mid:Int)+(m:Int) - 1 - (h:Int):=by omega
      have pqI:(mid:Int)+(m:Int) - 1 - (h:Int)<(n:Int):=by omega
      obtain ⟨hsq,hc1,hc2⟩:=HF.out
      have c1:=hsq.cell (j:=h) (by omega)
      have c2:=hsq.cell (j:=p) (by omega)
      have r1:=hsq.r h (by omega)
      have r2:=hsq.r p (by omega)
      have HC1:Hid (∀ q os,Calls Tryz.prog 96 #[.int .i64 (bAt d p),.int .i64 (bAt d h),.pointer (some ⟨bx,0,none⟩)] (Go.Sort.grow (wr.drewN q) os) fun e w'=>e = .returned (.int .i64 (key (bAt d h) - key (bAt d p)))∧Grown (Go.Sort.grow (wr.drewN q) os) w'):=fun q os=>HC.out _ ((hsq.grown ((Grown.refl wr).quiet q os)).f) _ _ r2.1 r2.2 r1.1 r1.2
      have k1:=fun q os=>((Grown.refl wr).quiet q os).cellv c1
      have k2:=fun q os=>((Grown.refl wr).quiet q os).cellv c2
      have hK1:=HK.out (bAt d h)
      have hK2:=HK.out (bAt d p)
      have HSG:=Hid.mk' (fun q os=>hsq.grown ((Grown.refl wr).quiet q os))
      obtain ⟨D,hD⟩:∃ D,key (bAt d h) - key (bAt d p)=D:=⟨_,rfl⟩
      rw [hD] at HC1
      have HY:Hid (D<0→lt key (bAt d (mid+m - 1 - h)) (bAt d h)):=fun hl=>by rw [hp];exact lt_clt (by omega)
      have HN:Hid (¬ D<0→lt key (bAt d (h+1 - 1)) (bAt d (mid+m - (h+1)))):=fun hl=>by
       rw [show mid+m - (h+1)=p by omega,Nat.add_sub_cancel]
       exact lt_not (HX.out h p (by have:=HS0.out;omega) hhm hpm hpb) (by omega)
      have H1:=Hid.mk' hc1
      have H2:=Hid.mk' hc2
      generalize bAt d h=x at c1 HC1 k1
      generalize bAt d p=y at c2 HC1 k2
      clear hsq HF hc1 hc2 hD r1 r2 hK1 hK2 hp
      by_cases hDl:D<0
      · have hDd:decide (D<0)=true:=by simpa using hDl
        have HY2:=Hid.mk' (HY.out hDl)
        clear HY HN
        refine wp_region_quiet_grown mixed (by kernel_rfl) ?_
        repeat (go_big_quiet_step ((go_at_call 96;exact grown_of (HC1.out _ _))))
        refine wpQuiet_nil ?_
        intro _ hw'
        obtain ⟨⟨nq,osq⟩,hw''⟩:=hw'
        subst hw''
        go_wp2
        exact ⟨⟨st,h,rfl,rfl,hs0,hih,by omega,HSG.out _ _,H1.out,.inr HY2.out⟩,by simp [intOf];omega⟩
      · have hDd:decide (D<0)=false:=by simpa using hDl
        have HN2:=Hid.mk' (HN.out hDl)
        clear HY HN
        refine wp_region_quiet_grown mixed (by kernel_rfl) ?_
        repeat (go_big_quiet_step ((go_at_call 96;exact grown_of (HC1.out _ _))))
        refine wpQuiet_nil ?_
        intro _ hw'
        obtain ⟨⟨nq,osq⟩,hw''⟩:=hw'
        subst hw''
        go_wp2
        exact ⟨⟨h+1,r,by go_num,rfl,by omega,by omega,hr0,HSG.out _ _,.inr HN2.out,H2.out⟩,by simp [intOf];omega⟩
    · have hge:¬ (st:Int)<(r:Int):=by omega
      have hjx:st=r:=by omega
      subst hjx
      obtain ⟨hsq,hc1,hc2⟩:=HF.out
      obtain ⟨en,hen⟩:∃ en,mid+m - st=en:=⟨_,rfl⟩
      have hE0:=HS0.out
      have hE1:m≤en:=by omega
      have hE2:en≤b:=by omega
      have hE3:mid=st+(en - m):=by omega
      have hS1:a≤st:=by omega
      have hS2:st≤m:=by omega
      have HC1':Hid (a<st→en<b→lt key (bAt d (st - 1)) (bAt d en)):=fun h1 h2=>by
       rcases hc1 with h | h
       · exfalso;omega
       · rw [hen] at h;exact h
      have HC2':Hid (st<m→m<en→lt key (bAt d (en - 1)) (bAt d st)):=fun h1 h2=>by
       rcases hc2 with h | h
       · exfalso;omega
       · rw [show mid+m - 1 - st=en - 1 by omega] at h;exact h
      have hq2:(mid:Int)+(m:Int) - (st:Int)=(en:Int):=by omega
      have HSQ:=Hid.mk' hsq
      have HSP:Hid (SymP key d a m b mid st en):=⟨HSA.out,HSB.out,HX.out,hS1,hS2,hE1,hE2,hE3,HC1'.out,HC2'.out⟩
      have en0I:(0:Int)≤(en:Int):=by omega
      have enI:(en:Int)≤1000000:=by omega
      have hM1:st≤mid:=by omega
      have hM2:mid≤en:=by omega
      clear HF hsq hc1 hc2 hen hE0 HC1' HC2' hE3
      rcases (show (st<m∧m<en)∨(st<m∧¬ m<en)∨¬ st<m by omega) with ⟨g1,g2⟩ | ⟨g1,g2⟩ | g1
      all_goals
       first | (have g1I:(st:Int)<(m:Int):=by omega;have g1d:=decide_eq_true g1I) | (have g1I:¬ (st:Int)<(m:Int):=by omega;have g1d:=decide_eq_false g1I) | skip
       first | (have g2I:(m:Int)<(en:Int):=by omega;have g2d:=decide_eq_true g2I) | (have g2I:¬ (m:Int)<(en:Int):=by omega;have g2d:=decide_eq_false g2I) | skip
       first
        | (have HR:=Hid.mk' (rotate_any HSQ.out st m en (.func (.func 96) #[] #[.pointer (some ⟨bx,0,none⟩)]) g1 g2 (by omega) hn);go_wp2_with fail;refine HR.out.mono ?_;rintro e w1 ⟨rfl,d1,hs1,hr1⟩;have HS1:=Hid.mk' hs1;have HR1:=Hid.mk' hr1;clear hs1 hr1 HR)
        | (have HS1:=HSQ;have HR1:Hid (Rot d d st m en):=rot_none (by omega) (by omega) (by omega))
       have HRL:=Hid.mk' (HSP.out.rl HR1.out)
       rcases (show (a<st∧st<mid)∨(a<st∧¬ st<mid)∨¬ a<st by omega) with ⟨f1,f2⟩ | ⟨f1,f2⟩ | f1
       all_goals
        first | (have f1I:(a:Int)<(st:Int):=by omega;have f1d:=decide_eq_true f1I) | (have f1I:¬ (a:Int)<(st:Int):=by omega;have f1d:=decide_eq_false f1I) | skip
        first | (have f2I:(st:Int)<(mid:Int):=by omega;have f2d:=decide_eq_true f2I) | (have f2I:¬ (st:Int)<(mid:Int):=by omega;have f2d:=decide_eq_false f2I) | skip
        first
         | (have HI:=Hid.mk' (IH.out a st mid _ _ (by omega) f1 f2 (by omega) HS1.out HRL.out.1 HRL.out.2.1 HRL.out.2.2.1);go_wp2_with fail;refine HI.out.mono ?_;rintro e w2 ⟨rfl,d2,hs2,hm2⟩;have HS2:=Hid.mk' hs2;have HM2:=Hid.mk' hm2;clear hs2 hm2 HI)
         | (have HS2:=HS1;have HM2:=Hid.mk' (SymP.nl HRL.out (by omega)))
        rcases (show (mid<en∧en<b)∨(mid<en∧¬ en<b)∨¬ mid<en by omega) with ⟨f3,f4⟩ | ⟨f3,f4⟩ | f3
        all_goals
         first | (have f3I:(mid:Int)<(en:Int):=by omega;have f3d:=decide_eq_true f3I) | (have f3I:¬ (mid:Int)<(en:Int):=by omega;have f3d:=decide_eq_false f3I) | skip
         first | (have f4I:(en:Int)<(b:Int):=by omega;have f4d:=decide_eq_true f4I) | (have f4I:¬ (en:Int)<(b:Int):=by omega;have f4d:=decide_eq_false f4I) | skip
         first
          | (have HA2:=Hid.mk' (SymP.a2 HRL.out HM2.out.1);have HI:=Hid.mk' (IH.out mid en b _ _ (by omega) f3 f4 hb HS2.out HA2.out.1 HA2.out.2.1 HA2.out.2.2);go_wp2_with fail;refine HI.out.mono ?_;rintro e w3 ⟨rfl,d3,hs3,hm3⟩;have HFI:=Hid.mk' (HSP.out.fin hs3 HR1.out HM2.out hm3);clear hs3 hm3 HI)
          | (have HFI:=Hid.mk' (HSP.out.fin HS2.out HR1.out HM2.out (SymP.nr (SymP.a2 HRL.out HM2.out.1) (by omega))))
         go_wp2
         go_end0
         exact ⟨rfl,HFI.out⟩
 · have hgtI:¬ (mid:Int)<(m:Int):=by omega
   have HS0:Hid (a≤m∧m≤mid):=⟨by omega,by omega⟩
   go_enter Tryz.func146,Tryz.ntmps146
   go_wp2_with fail
   clear hq
   go_loopw [20,21] (fun v20 v21 wr=>∃ st r:Nat,v20 = .int .i64 st∧v21 = .int .i64 r∧a≤st∧st≤r∧r≤m∧Hid (Sq w0 wr blk cap n d∧(st=a∨lt key (bAt d (st - 1)) (bAt d (mid+m - st)))∧(r=m∨lt key (bAt d (mid+m - 1 - r)) (bAt d r)))) (fun v20 v21 _=>(intOf v21).toNat - (intOf v20).toNat)
   case atStart=>exact ⟨a,m,rfl,rfl,Nat.le_refl _,by have:=HS0.out;omega,Nat.le_refl _,HS.out,.inl rfl,.inl rfl⟩
   case round=>
    obtain ⟨st,r,rfl,rfl,hs0,hsr,hr0,HF⟩:=hrel
    have i0:(0:Int)≤(st:Int):=by omega
    have j0:(0:Int)≤(r:Int):=by omega
    have iI:(st:Int)≤1000000:=by omega
    have jI:(r:Int)≤1000000:=by omega
    by_cases hlt:st<r
    · have hltI:(st:Int)<(r:Int):=by omega
      go_wp2_with fail
      have hq:((st:Int)+(r:Int)) / 2=(((st+r) / 2:Nat):Int):=by omega
      rw [hq]
      obtain ⟨h,hh⟩:∃ h,(st+r) / 2=h:=⟨_,rfl⟩
      have hih:st≤h:=by omega
      have hhj:h<r:=by omega
      rw [hh]
      clear hq hh
      have h0:(0:Int)≤(h:Int):=by omega
      have hhm:h<m:=by have:=HS0.out;omega
      obtain ⟨p,hp⟩:∃ p,mid+m - 1 - h=p:=⟨_,rfl⟩
      have hpm:m≤p:=by have:=HS0.out;omega
      have hpb:p<b:=by have:=HS0.out;omega
      have hI:(h:Int)<(n:Int):=by omega
      have pq:((mid:Int)+(m:Int) - 1 - (h:Int)).toNat=p:=by omega
      have pq0:(0:Int)≤(mid:Int)+(m:Int) - 1 - (h:Int):=by omega
      have pqI:(mid:Int)+(m:Int) - 1 - (h:Int)<(n:Int):=by omega
      obtain ⟨hsq,hc1,hc2⟩:=HF.out
      have c1:=hsq.cell (j:=h) (by omega)
      have c2:=hsq.cell (j:=p) (by omega)
      have r1:=hsq.r h (by omega)
      have r2:=hsq.r p (by omega)
      have HC1:Hid (∀ q os,Calls Tryz.prog 96 #[.int .i64 (bAt d p),.int .i64 (bAt d h),.pointer (some ⟨bx,0,none⟩)] (Go.Sort.grow (wr.drewN q) os) fun e w'=>e = .returned (.int .i64 (key (bAt d h) - key (bAt d p)))∧Grown (Go.Sort.grow (wr.drewN q) os) w'):=fun q os=>HC.out _ ((hsq.grown ((Grown.refl wr).quiet q os)).f) _ _ r2.1 r2.2 r1.1 r1.2
      have k1:=fun q os=>((Grown.refl wr).quiet q os).cellv c1
      have k2:=fun q os=>((Grown.refl wr).quiet q os).cellv c2
      have hK1:=HK.out (bAt d h)
      have hK2:=HK.out (bAt d p)
      have HSG:=Hid.mk' (fun q os=>hsq.grown ((Grown.refl wr).quiet q os))
      obtain ⟨D,hD⟩:∃ D,key (bAt d h) - key (bAt d p)=D:=⟨_,rfl⟩
      rw [hD] at HC1
      have HY:Hid (D<0→lt key (bAt d (mid+m - 1 - h)) (bAt d h)):=fun hl=>by rw [hp];exact lt_clt (by omega)
      have HN:Hid (¬ D<0→lt key (bAt d (h+1 - 1)) (bAt d (mid+m - (h+1)))):=fun hl=>by
       rw [show mid+m - (h+1)=p by omega,Nat.add_sub_cancel]
       exact lt_not (HX.out h p (by have:=HS0.out;omega) hhm hpm hpb) (by omega)
      have H1:=Hid.mk' hc1
      have H2:=Hid.mk' hc2
      generalize bAt d h=x at c1 HC1 k1
      generalize bAt d p=y at c2 HC1 k2
      clear hsq HF hc1 hc2 hD r1 r2 hK1 hK2 hp
      by_cases hDl:D<0
      · have hDd:decide (D<0)=true:=by simpa using hDl
        have HY2:=Hid.mk' (HY.out hDl)
        clear HY HN
        refine wp_region_quiet_grown mixed (by kernel_rfl) ?_
        repeat (go_big_quiet_step ((go_at_call 96;exact grown_of (HC1.out _ _))))
        refine wpQuiet_nil ?_
        intro _ hw'
        obtain ⟨⟨nq,osq⟩,hw''⟩:=hw'
        subst hw''
        go_wp2
        exact ⟨⟨st,h,rfl,rfl,hs0,hih,by omega,HSG.out _ _,H1.out,.inr HY2.out⟩,by simp [intOf];omega⟩
      · have hDd:decide (D<0)=false:=by simpa using hDl
        have HN2:=Hid.mk' (HN.out hDl)
        clear HY HN
        refine wp_region_quiet_grown mixed (by kernel_rfl) ?_
        repeat (go_big_quiet_step ((go_at_call 96;exact grown_of (HC1.out _ _))))
        refine wpQuiet_nil ?_
        intro _ hw'
        obtain ⟨⟨nq,osq⟩,hw''⟩:=hw'
        subst hw''
        go_wp2
        exact ⟨⟨h+1,r,by go_num,rfl,by omega,by omega,hr0,HSG.out _ _,.inr HN2.out,H2.out⟩,by simp [intOf];omega⟩
    · have hge:¬ (st:Int)<(r:Int):=by omega
      have hjx:st=r:=by omega
      subst hjx
      obtain ⟨hsq,hc1,hc2⟩:=HF.out
      obtain ⟨en,hen⟩:∃ en,mid+m - st=en:=⟨_,rfl⟩
      have hE0:=HS0.out
      have hE1:m≤en:=by omega
      have hE2:en≤b:=by omega
      have hE3:mid=st+(en - m):=by omega
      have hS1:a≤st:=by omega
      have hS2:st≤m:=by omega
      have HC1':Hid (a<st→en<b→lt key (bAt d (st - 1)) (bAt d en)):=fun h1 h2=>by
       rcases hc1 with h | h
       · exfalso;omega
       · rw [hen] at h;exact h
      have HC2':Hid (st<m→m<en→lt key (bAt d (en - 1)) (bAt d st)):=fun h1 h2=>by
       rcases hc2 with h | h
       · exfalso;omega
       · rw [show mid+m - 1 - st=en - 1 by omega] at h;exact h
      have hq2:(mid:Int)+(m:Int) - (st:Int)=(en:Int):=by omega
      have HSQ:=Hid.mk' hsq
      have HSP:Hid (SymP key d a m b mid st en):=⟨HSA.out,HSB.out,HX.out,hS1,hS2,hE1,hE2,hE3,HC1'.out,HC2'.out⟩
      have en0I:(0:Int)≤(en:Int):=by omega
      have enI:(en:Int)≤1000000:=by omega
      have hM1:st≤mid:=by omega
      have hM2:mid≤en:=by omega
      clear HF hsq hc1 hc2 hen hE0 HC1' HC2' hE3
      rcases (show (st<m∧m<en)∨(st<m∧¬ m<en)∨¬ st<m by omega) with ⟨g1,g2⟩ | ⟨g1,g2⟩ | g1
      all_goals
       first | (have g1I:(st:Int)<(m:Int):=by omega;have g1d:=decide_eq_true g1I) | (have g1I:¬ (st:Int)<(m:Int):=by omega;have g1d:=decide_eq_false g1I) | skip
       first | (have g2I:(m:Int)<(en:Int):=by omega;have g2d:=decide_eq_true g2I) | (have g2I:¬ (m:Int)<(en:Int):=by omega;have g2d:=decide_eq_false g2I) | skip
       first
        | (have HR:=Hid.mk' (rotate_any HSQ.out st m en (.func (.func 96) #[] #[.pointer (some ⟨bx,0,none⟩)]) g1 g2 (by omega) hn);go_wp2_with fail;refine HR.out.mono ?_;rintro e w1 ⟨rfl,d1,hs1,hr1⟩;have HS1:=Hid.mk' hs1;have HR1:=Hid.mk' hr1;clear hs1 hr1 HR)
        | (have HS1:=HSQ;have HR1:Hid (Rot d d st m en):=rot_none (by omega) (by omega) (by omega))
       have HRL:=Hid.mk' (HSP.out.rl HR1.out)
       rcases (show (a<st∧st<mid)∨(a<st∧¬ st<mid)∨¬ a<st by omega) with ⟨f1,f2⟩ | ⟨f1,f2⟩ | f1
       all_goals
        first | (have f1I:(a:Int)<(st:Int):=by omega;have f1d:=decide_eq_true f1I) | (have f1I:¬ (a:Int)<(st:Int):=by omega;have f1d:=decide_eq_false f1I) | skip
        first | (have f2I:(st:Int)<(mid:Int):=by omega;have f2d:=decide_eq_true f2I) | (have f2I:¬ (st:Int)<(mid:Int):=by omega;have f2d:=decide_eq_false f2I) | skip
        first
         | (have HI:=Hid.mk' (IH.out a st mid _ _ (by omega) f1 f2 (by omega) HS1.out HRL.out.1 HRL.out.2.1 HRL.out.2.2.1);go_wp2_with fail;refine HI.out.mono ?_;rintro e w2 ⟨rfl,d2,hs2,hm2⟩;have HS2:=Hid.mk' hs2;have HM2:=Hid.mk' hm2;clear hs2 hm2 HI)
         | (have HS2:=HS1;have HM2:=Hid.mk' (SymP.nl HRL.out (by omega)))
        rcases (show (mid<en∧en<b)∨(mid<en∧¬ en<b)∨¬ mid<en by omega) with ⟨f3,f4⟩ | ⟨f3,f4⟩ | f3
        all_goals
         first | (have f3I:(mid:Int)<(en:Int):=by omega;have f3d:=decide_eq_true f3I) | (have f3I:¬ (mid:Int)<(en:Int):=by omega;have f3d:=decide_eq_false f3I) | skip
         first | (have f4I:(en:Int)<(b:Int):=by omega;have f4d:=decide_eq_true f4I) | (have f4I:¬ (en:Int)<(b:Int):=by omega;have f4d:=decide_eq_false f4I) | skip
         first
          | (have HA2:=Hid.mk' (SymP.a2 HRL.out HM2.out.1);have HI:=Hid.mk' (IH.out mid en b _ _ (by omega) f3 f4 hb HS2.out HA2.out.1 HA2.out.2.1 HA2.out.2.2);go_wp2_with fail;refine HI.out.mono ?_;rintro e w3 ⟨rfl,d3,hs3,hm3⟩;have HFI:=Hid.mk' (HSP.out.fin hs3 HR1.out HM2.out hm3);clear hs3 hm3 HI)
          | (have HFI:=Hid.mk' (HSP.out.fin HS2.out HR1.out HM2.out (SymP.nr (SymP.a2 HRL.out HM2.out.1) (by omega))))
         go_wp2
         go_end0
         exact ⟨rfl,HFI.out⟩
end Go.Proofs
