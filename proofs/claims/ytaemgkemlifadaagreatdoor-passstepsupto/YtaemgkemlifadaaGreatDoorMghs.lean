/-
  Several texts in one (Se Sf Sg Sh Si Ob).
-/
import Derived.Test.YtaemgkemlifadaaGreatDoorMggs
import Derived.Test.YtaemgkemlifadaaGreatDoorMgas
import Derived.Test.YtaemgkemlifadaaGreatDoorMgds
namespace Go.Proofs
open Go.RowKit Go.Shelf
set_option maxRecDepth 100000
attribute [local go_sem] Oper.semAt_some
attribute [local go_sem ↓] Go.wp_at_zero Go.wp_at_succ
set_option maxHeartbeats 16000000 in
theorem sym_one {w0 w:World} {blk cap n:Nat} {d:List Int} {key:Int→Int} {bx:Nat} (h:Sq w0 w blk cap n d) (hc:CmpC w0 blk n key bx) (hkey:∀ x,0≤key x∧key x≤1000000) (a b:Nat) (hab:a+1≤b) (hb:b≤n) (hn:n≤1000000) (hs:SS key d (a+1) b) (hx:Hx d a (a+1) b) :
 Calls Tryz.prog 112 #[.slice (some ⟨blk,0,none⟩) n cap,.int .i64 a,.int .i64 ((a:Int)+1),.int .i64 b,.func (.func 71) #[] #[.pointer (some ⟨bx,0,none⟩)]] w fun e w'=>e = .returned (.tuple #[])∧∃ d',Sq w0 w' blk cap n d'∧Mix d d' a b∧SS key d' a b:=by
 have HS:Hid (Sq w0 w blk cap n d):=h
 have HC:=Hid.mk' hc
 have HK:=Hid.mk' hkey
 have HSS:=Hid.mk' hs
 have HX:=Hid.mk' hx
 have hnI:(n:Int)≤1000000:=by omega
 have hdl:d.length=n:=h.l
 have a0:(0:Int)≤(a:Int):=by omega
 have aI:(a:Int)<(n:Int):=by omega
 have bI:(b:Int)≤(n:Int):=by omega
 have hone:(a:Int)+1 - (a:Int)=1:=by omega
 have ca:=h.cell (j:=a) (by omega)
 clear h hc hkey hs hx
 go_enter Tryz.func112,Tryz.ntmps112
 go_wp2
 go_loopw [10,11] (fun v10 v11 wr=>∃ i j:Nat,v10 = .int .i64 i∧v11 = .int .i64 j∧a+1≤i∧i≤j∧j≤b∧Hid (Sq w0 wr blk cap n d∧(i=a+1∨lt key (bAt d (i - 1)) (bAt d a))∧(j=b∨lt key (bAt d a) (bAt d j)))) (fun v10 v11 _=>(intOf v11).toNat - (intOf v10).toNat)
 case atStart=>exact ⟨a+1,b,by go_num,rfl,Nat.le_refl _,hab,Nat.le_refl _,HS.out,.inl rfl,.inl rfl⟩
 case round=>
  obtain ⟨i,j,rfl,rfl,hai,hij,hjb,HF⟩:=hrel
  have i0:(0:Int)≤(i:Int):=by omega
  have j0:(0:Int)≤(j:Int):=by omega
  have iI:(i:Int)≤1000000:=by omega
  have jI:(j:Int)≤1000000:=by omega
  by_cases hlt:i<j
  · have hltI:(i:Int)<(j:Int):=by omega
    go_wp2_with fail
    have hq:((i:Int)+(j:Int)) / 2=(((i+j) / 2:Nat):Int):=by omega
    rw [hq]
    obtain ⟨h,hh⟩:∃ h,(i+j) / 2=h:=⟨_,rfl⟩
    have hih:i≤h:=by omega
    have hhj:h<j:=by omega
    rw [hh]
    clear hq hh
    have h0:(0:Int)≤(h:Int):=by omega
    have hI:(h:Int)<(n:Int):=by omega
    obtain ⟨hsq,hc1,hc2⟩:=HF.out
    have c1:=hsq.cell (j:=h) (by omega)
    have c2:=hsq.cell (j:=a) (by omega)
    have r1:=hsq.r h (by omega)
    have r2:=hsq.r a (by omega)
    have HC1:Hid (∀ m os,Calls Tryz.prog 71 #[.int .i64 (bAt d h),.int .i64 (bAt d a),.pointer (some ⟨bx,0,none⟩)] (Go.Sort.grow (wr.drewN m) os) fun e w'=>e = .returned (.int .i64 (key (bAt d a) - key (bAt d h)))∧Grown (Go.Sort.grow (wr.drewN m) os) w'):=fun m os=>HC.out _ ((hsq.grown ((Grown.refl wr).quiet m os)).f) _ _ r1.1 r1.2 r2.1 r2.2
    have k1:=fun m os=>((Grown.refl wr).quiet m os).cellv c1
    have k2:=fun m os=>((Grown.refl wr).quiet m os).cellv c2
    have hK1:=HK.out (bAt d h)
    have hK2:=HK.out (bAt d a)
    have HSG:=Hid.mk' (fun m os=>hsq.grown ((Grown.refl wr).quiet m os))
    obtain ⟨D,hD⟩:∃ D,key (bAt d a) - key (bAt d h)=D:=⟨_,rfl⟩
    rw [hD] at HC1
    have HY:Hid (D<0→lt key (bAt d h) (bAt d a)):=fun hl=>lt_clt (by omega)
    have HN:Hid (¬ D<0→lt key (bAt d a) (bAt d h)):=fun hl=>lt_not (HX.out a h (Nat.le_refl _) (by omega) (by omega) (by omega)) (by omega)
    have H1:=Hid.mk' hc1
    have H2:=Hid.mk' hc2
    generalize bAt d h=x at c1 HC1 k1
    generalize bAt d a=y at c2 ca HC1 k2
    clear hsq HF hc1 hc2 hD r1 r2 hK1 hK2
    by_cases hDl:D<0
    · have hDd:decide (D<0)=true:=by simpa using hDl
      have HY2:=Hid.mk' (HY.out hDl)
      clear HY HN
      refine wp_region_quiet_grown mixed (by kernel_rfl) ?_
      repeat (go_big_quiet_step ((go_at_call 71;exact grown_of (HC1.out _ _))))
      refine wpQuiet_nil ?_
      intro _ hw'
      obtain ⟨⟨nq,osq⟩,hw''⟩:=hw'
      subst hw''
      go_wp2
      exact ⟨⟨h+1,j,by go_num,rfl,by omega,by omega,hjb,HSG.out _ _,.inr (by rw [Nat.add_sub_cancel];exact HY2.out),H2.out⟩,by simp [intOf];omega⟩
    · have hDd:decide (D<0)=false:=by simpa using hDl
      have HN2:=Hid.mk' (HN.out hDl)
      clear HY HN
      refine wp_region_quiet_grown mixed (by kernel_rfl) ?_
      repeat (go_big_quiet_step ((go_at_call 71;exact grown_of (HC1.out _ _))))
      refine wpQuiet_nil ?_
      intro _ hw'
      obtain ⟨⟨nq,osq⟩,hw''⟩:=hw'
      subst hw''
      go_wp2
      exact ⟨⟨i,h,rfl,rfl,hai,hih,by omega,HSG.out _ _,H1.out,.inr HN2.out⟩,by simp [intOf];omega⟩
  · have hge:¬ (i:Int)<(j:Int):=by omega
    have hjx:j=i:=by omega
    subst hjx
    obtain ⟨hsq,hc1,hc2⟩:=HF.out
    have H1:=Hid.mk' hc1
    have H2:=Hid.mk' hc2
    have HSQ:=Hid.mk' hsq
    clear HF hsq hc1 hc2 ca
    go_wp2
    go_loopw [13] (fun vk wr=>∃ k:Nat,vk = .int .i64 k∧a≤k∧k≤j - 1∧Hid (∃ f,Sq w0 wr blk cap n f∧MvR d f a k)) (fun vk _=>j - (intOf vk).toNat)
    case atStart=>exact ⟨a,rfl,Nat.le_refl _,by omega,d,HSQ.out,MvR.zero _ _⟩
    case round=>
     obtain ⟨k,rfl,hak,hkj,HE⟩:=hrel
     have k0:(0:Int)≤(k:Int):=by omega
     obtain ⟨f,hsq,hmv⟩:=HE.out
     by_cases hltk:k<j - 1
     · have hltkI:(k:Int)<(j:Int) - 1:=by omega
       have c1:=hsq.cell (j:=k) (by omega)
       have c2:=hsq.cell (j:=k+1) (by omega)
       have hfz:=hsq.frozen
       have HQ:Hid (∀ V,Grown wr V→Sq w0 ((V.setCell ⟨blk,k,none⟩ (.int .i64 (bAt f (k+1)))).setCell ⟨blk,k+1,none⟩ (.int .i64 (bAt f k))) blk cap n (swp f k (k+1))):=fun V hg=>(hsq.grown hg).swap (by omega) (by omega)
       have HM:=Hid.mk' (hmv.succ hak (by omega))
       generalize bAt f k=x at c1 HQ
       generalize bAt f (k+1)=y at c2 HQ
       have kI:(k:Int)+1<(n:Int):=by omega
       have t1:((k:Int)+1).toNat=k+1:=by omega
       clear hsq hmv HE
       go_wp2
       go_region
       all_goals (go_wp2;exact ⟨⟨k+1,by go_num,by omega,by omega,_,(HQ.out wr (Grown.refl _)).grown ((Grown.refl _).drew),HM.out⟩,by simp [intOf];omega⟩)
     · have hgek:¬ (k:Int)<(j:Int) - 1:=by omega
       have hkk:k=j - 1:=by omega
       have HFI:Hid (∃ d',Sq w0 wr blk cap n d'∧Mix d d' a b∧SS key d' a b):=by
        rw [hkk] at hmv
        exact ⟨f,hsq,hmv.done hai hjb HSS.out H1.out H2.out⟩
       clear hsq hmv HE hkk
       go_wp2
       refine bodyPost_ret (results_none rfl _ _ _) rfl ?_
       exact ⟨rfl,HFI.out⟩
set_option maxHeartbeats 16000000 in
theorem sym_two {w0 w:World} {blk cap n:Nat} {d:List Int} {key:Int→Int} {bx:Nat} (h:Sq w0 w blk cap n d) (hc:CmpC w0 blk n key bx) (hkey:∀ x,0≤key x∧key x≤1000000) (a m:Nat) (ham:a+1<m) (hb:m+1≤n) (hn:n≤1000000) (hs:SS key d a m) (hx:Hx d a m (m+1)) :
 Calls Tryz.prog 112 #[.slice (some ⟨blk,0,none⟩) n cap,.int .i64 a,.int .i64 m,.int .i64 ((m:Int)+1),.func (.func 71) #[] #[.pointer (some ⟨bx,0,none⟩)]] w fun e w'=>e = .returned (.tuple #[])∧∃ d',Sq w0 w' blk cap n d'∧Mix d d' a (m+1)∧SS key d' a (m+1):=by
 have HS:Hid (Sq w0 w blk cap n d):=h
 have HC:=Hid.mk' hc
 have HK:=Hid.mk' hkey
 have HSS:=Hid.mk' hs
 have HX:=Hid.mk' hx
 have hnI:(n:Int)≤1000000:=by omega
 have hdl:d.length=n:=h.l
 have a0:(0:Int)≤(a:Int):=by omega
 have m0:(0:Int)≤(m:Int):=by omega
 have mI:(m:Int)<(n:Int):=by omega
 have hone:(m:Int)+1 - (m:Int)=1:=by omega
 have hno:((m:Int) - (a:Int) == 1)=false:=by simp;omega
 have cm:=h.cell (j:=m) (by omega)
 clear h hc hkey hs hx
 go_enter Tryz.func112,Tryz.ntmps112
 go_wp2
 go_loopw [14,15] (fun v10 v11 wr=>∃ i j:Nat,v10 = .int .i64 i∧v11 = .int .i64 j∧a≤i∧i≤j∧j≤m∧Hid (Sq w0 wr blk cap n d∧(i=a∨lt key (bAt d (i - 1)) (bAt d m))∧(j=m∨lt key (bAt d m) (bAt d j)))) (fun v10 v11 _=>(intOf v11).toNat - (intOf v10).toNat)
 case atStart=>exact ⟨a,m,rfl,rfl,Nat.le_refl _,by omega,Nat.le_refl _,HS.out,.inl rfl,.inl rfl⟩
 case round=>
  obtain ⟨i,j,rfl,rfl,hai,hij,hjb,HF⟩:=hrel
  have i0:(0:Int)≤(i:Int):=by omega
  have j0:(0:Int)≤(j:Int):=by omega
  have iI:(i:Int)≤1000000:=by omega
  have jI:(j:Int)≤1000000:=by omega
  by_cases hlt:i<j
  · have hltI:(i:Int)<(j:Int):=by omega
    go_wp2_with fail
    have hq:((i:Int)+(j:Int)) / 2=(((i+j) / 2:Nat):Int):=by omega
    rw [hq]
    obtain ⟨h,hh⟩:∃ h,(i+j) / 2=h:=⟨_,rfl⟩
    have hih:i≤h:=by omega
    have hhj:h<j:=by omega
    rw [hh]
    clear hq hh
    have h0:(0:Int)≤(h:Int):=by omega
    have hI:(h:Int)<(n:Int):=by omega
    obtain ⟨hsq,hc1,hc2⟩:=HF.out
    have c1:=hsq.cell (j:=h) (by omega)
    have c2:=hsq.cell (j:=m) (by omega)
    have r1:=hsq.r h (by omega)
    have r2:=hsq.r m (by omega)
    have HC1:Hid (∀ q os,Calls Tryz.prog 71 #[.int .i64 (bAt d m),.int .i64 (bAt d h),.pointer (some ⟨bx,0,none⟩)] (Go.Sort.grow (wr.drewN q) os) fun e w'=>e = .returned (.int .i64 (key (bAt d h) - key (bAt d m)))∧Grown (Go.Sort.grow (wr.drewN q) os) w'):=fun q os=>HC.out _ ((hsq.grown ((Grown.refl wr).quiet q os)).f) _ _ r2.1 r2.2 r1.1 r1.2
    have k1:=fun q os=>((Grown.refl wr).quiet q os).cellv c1
    have k2:=fun q os=>((Grown.refl wr).quiet q os).cellv c2
    have hK1:=HK.out (bAt d h)
    have hK2:=HK.out (bAt d m)
    have HSG:=Hid.mk' (fun q os=>hsq.grown ((Grown.refl wr).quiet q os))
    obtain ⟨D,hD⟩:∃ D,key (bAt d h) - key (bAt d m)=D:=⟨_,rfl⟩
    rw [hD] at HC1
    have HY:Hid (D<0→lt key (bAt d m) (bAt d h)):=fun hl=>lt_clt (by omega)
    have HN:Hid (¬ D<0→lt key (bAt d h) (bAt d m)):=fun hl=>lt_not (HX.out h m (by omega) (by omega) (Nat.le_refl _) (by omega)) (by omega)
    have H1:=Hid.mk' hc1
    have H2:=Hid.mk' hc2
    generalize bAt d h=x at c1 HC1 k1
    generalize bAt d m=y at c2 cm HC1 k2
    clear hsq HF hc1 hc2 hD r1 r2 hK1 hK2
    by_cases hDl:D<0
    · have hDd:decide (D<0)=true:=by simpa using hDl
      have HY2:=Hid.mk' (HY.out hDl)
      clear HY HN
      refine wp_region_quiet_grown mixed (by kernel_rfl) ?_
      repeat (go_big_quiet_step ((go_at_call 71;exact grown_of (HC1.out _ _))))
      refine wpQuiet_nil ?_
      intro _ hw'
      obtain ⟨⟨nq,osq⟩,hw''⟩:=hw'
      subst hw''
      go_wp2
      exact ⟨⟨i,h,rfl,rfl,hai,hih,by omega,HSG.out _ _,H1.out,.inr HY2.out⟩,by simp [intOf];omega⟩
    · have hDd:decide (D<0)=false:=by simpa using hDl
      have HN2:=Hid.mk' (HN.out hDl)
      clear HY HN
      refine wp_region_quiet_grown mixed (by kernel_rfl) ?_
      repeat (go_big_quiet_step ((go_at_call 71;exact grown_of (HC1.out _ _))))
      refine wpQuiet_nil ?_
      intro _ hw'
      obtain ⟨⟨nq,osq⟩,hw''⟩:=hw'
      subst hw''
      go_wp2
      exact ⟨⟨h+1,j,by go_num,rfl,by omega,by omega,hjb,HSG.out _ _,.inr (by rw [Nat.add_sub_cancel];exact HN2.out),H2.out⟩,by simp [intOf];omega⟩
  · have hge:¬ (i:Int)<(j:Int):=by omega
    have hjx:j=i:=by omega
    subst hjx
    obtain ⟨hsq,hc1,hc2⟩:=HF.out
    have H1:=Hid.mk' hc1
    have H2:=Hid.mk' hc2
    have HSQ:=Hid.mk' hsq
    clear HF hsq hc1 hc2 cm
    go_wp2
    go_loopw [17] (fun vk wr=>∃ k:Nat,vk = .int .i64 k∧j≤k∧k≤m∧Hid (∃ f,Sq w0 wr blk cap n f∧MvL d f m k)) (fun vk _=>(intOf vk).toNat)
    case atStart=>exact ⟨m,rfl,hjb,Nat.le_refl _,d,HSQ.out,MvL.zero _ _⟩
    case round=>
     obtain ⟨k,rfl,hak,hkj,HE⟩:=hrel
     have k0:(0:Int)≤(k:Int):=by omega
     obtain ⟨f,hsq,hmv⟩:=HE.out
     by_cases hltk:j<k
     · have hltkI:(j:Int)<(k:Int):=by omega
       have c1:=hsq.cell (j:=k) (by omega)
       have c2:=hsq.cell (j:=k - 1) (by omega)
       have hfz:=hsq.frozen
       have HQ:Hid (∀ V,Grown wr V→Sq w0 ((V.setCell ⟨blk,k,none⟩ (.int .i64 (bAt f (k - 1)))).setCell ⟨blk,k - 1,none⟩ (.int .i64 (bAt f k))) blk cap n (swp f k (k - 1))):=fun V hg=>(hsq.grown hg).swap (by omega) (by omega)
       have HM:Hid (MvL d (swp f k (k - 1)) m (k - 1)):=by
        have:=MvL.succ (k:=k - 1) (by rw [show k - 1+1=k by omega];exact hmv) (by omega) (by omega)
        rw [show k - 1+1=k by omega] at this
        exact this
       generalize bAt f k=x at c1 HQ
       generalize bAt f (k - 1)=y at c2 HQ
       have kI:(k:Int)<(n:Int):=by omega
       have t1:((k:Int) - 1).toNat=k - 1:=by omega
       clear hsq hmv HE
       go_wp2
       go_region
       all_goals (go_wp2;exact ⟨⟨k - 1,by rw [show (k:Int) - 1=((k - 1:Nat):Int) by omega],by omega,by omega,_,(HQ.out wr (Grown.refl _)).grown ((Grown.refl _).drew),HM.out⟩,by simp [intOf];omega⟩)
     · have hgek:¬ (j:Int)<(k:Int):=by omega
       have hkk:k=j:=by omega
       have HFI:Hid (∃ d',Sq w0 wr blk cap n d'∧Mix d d' a (m+1)∧SS key d' a (m+1)):=by
        rw [hkk] at hmv
        exact ⟨f,hsq,hmv.done hai hjb HSS.out H1.out H2.out⟩
       clear hsq hmv HE hkk
       go_wp2
       refine bodyPost_ret (results_none rfl _ _ _) rfl ?_
       exact ⟨rfl,HFI.out⟩
structure SymP (key:Int→Int) (d:List Int) (a m b mid st en:Nat):Prop where
 sa:SS key d a m
 sb:SS key d m b
 hx:Hx d a m b
 s1:a≤st
 s2:st≤m
 e1:m≤en
 e2:en≤b
 e3:mid=st+(en - m)
 c1:a<st→en<b→lt key (bAt d (st - 1)) (bAt d en)
 c2:st<m→m<en→lt key (bAt d (en - 1)) (bAt d st)
theorem SymP.rl {key:Int→Int} {d d1:List Int} {a m b mid st en:Nat} (h:SymP key d a m b mid st en) (hr:Rot d d1 st m en):SS key d1 a st∧SS key d1 st mid∧Hx d1 a st mid∧SS key d1 mid en∧SS key d1 en b∧Hx d1 mid en b:=by
 rw [h.e3]
 exact rot_left h.sa h.sb h.hx h.s1 h.s2 h.e1 h.e2 hr
theorem SymP.nl {key:Int→Int} {d1:List Int} {a b mid st en:Nat} (h:SS key d1 a st∧SS key d1 st mid∧Hx d1 a st mid∧SS key d1 mid en∧SS key d1 en b∧Hx d1 mid en b) (hz:st=a∨st=mid):Mix d1 d1 a mid∧SS key d1 a mid:=by
 refine ⟨Mix.refl _ _ _,?_⟩
 rcases hz with rfl | rfl
 · exact h.2.1
 · exact h.1
theorem SymP.a2 {key:Int→Int} {d1 d2:List Int} {a b mid st en:Nat} (h:SS key d1 a st∧SS key d1 st mid∧Hx d1 a st mid∧SS key d1 mid en∧SS key d1 en b∧Hx d1 mid en b) (hm:Mix d1 d2 a mid) (hme:mid≤en:=by omega):SS key d2 mid en∧SS key d2 en b∧Hx d2 mid en b:=by
 have e1:∀ k,mid≤k→bAt d2 k=bAt d1 k:=fun k hk=>hm.o k (by omega)
 refine ⟨h.2.2.2.1.same fun k h1 _=>e1 k h1,h.2.2.2.2.1.same fun k h1 _=>e1 k (by omega),fun i j h1 h2 h3 h4 => ?_⟩
 rw [e1 i h1,e1 j (by omega)];exact h.2.2.2.2.2 i j h1 h2 h3 h4
theorem SymP.nr {key:Int→Int} {d2:List Int} {b mid en:Nat} (h:SS key d2 mid en∧SS key d2 en b∧Hx d2 mid en b) (hz:en=mid∨en=b):Mix d2 d2 mid b∧SS key d2 mid b:=by
 refine ⟨Mix.refl _ _ _,?_⟩
 rcases hz with rfl | rfl
 · exact h.2.1
 · exact h.1
theorem SymP.fin {key:Int→Int} {d d1 d2 d3:List Int} {a m b mid st en:Nat} {w0 W:World} {blk cap n:Nat} (h:SymP key d a m b mid st en) (hs:Sq w0 W blk cap n d3) (hr:Rot d d1 st m en) (h2:Mix d1 d2 a mid∧SS key d2 a mid) (h3:Mix d2 d3 mid b∧SS key d3 mid b):∃ d',Sq w0 W blk cap n d'∧Mix d d' a b∧SS key d' a b:=
 ⟨d3,hs,sym_done h.sa h.sb h.s1 h.s2 h.e1 h.e2 h.e3 h.c1 h.c2 hr h2.1 h2.2 h3.1 h3.2⟩
set_option maxHeartbeats 32000000 in
theorem sym_any {w0:World} {blk cap n:Nat} {key:Int→Int} {bx:Nat} (hc:CmpC w0 blk n key bx) (hkey:∀ x,0≤key x∧key x≤1000000) (hn:n≤1000000):∀ (N a m b:Nat) (d:List Int) (w:World),b - a≤N→a<m→m<b→b≤n→Sq w0 w blk cap n d→SS key d a m→SS key d m b→Hx d a m b →
 Calls Tryz.prog 112 #[.slice (some ⟨blk,0,none⟩) n cap,.int .i64 a,.int .i64 m,.int .i64 b,.func (.func 71) #[] #[.pointer (some ⟨bx,0,none⟩)]] w fun e w'=>e = .returned (.tuple #[])∧∃ d',Sq w0 w' blk cap n d'∧Mix d d' a b∧SS key d' a b:=by
 intro N
 induction N with
 | zero=>intro a m b d w h1 h2 h3;omega
 | succ N ih=>
 intro a m b d w hN ham hmb hb h hsa hsb hx
 by_cases h1:m=a+1
 · subst h1
   have:=sym_one h hc hkey a b (by omega) hb hn hsb hx
   rw [show ((a+1:Nat):Int)=(a:Int)+1 by omega]
   exact this
 by_cases h2:b=m+1
 · subst h2
   have:=sym_two h hc hkey a m (by omega) hb hn hsa hx
   rw [show ((m+1:Nat):Int)=(m:Int)+1 by omega]
   exact this
 have IH:=Hid.mk' ih
 have HS:Hid (Sq w0 w blk cap n d):=h
 have HC:=Hid.mk' hc
 have HK:=Hid.mk' hkey
 have HSA:=Hid.mk' hsa
 have HSB:=Hid.mk' hsb
 have HX:=Hid.mk' hx
 have hnI:(n:Int)≤1000000:=by omega
 have hdl:d.length=n:=h.l
 have a0:(0:Int)≤(a:Int):=by omega
 have m0:(0:Int)≤(m:Int):=by omega
 have b0:(0:Int)≤(b:Int):=by omega
 have aI:(a:Int)≤1000000:=by omega
 have mI:(m:Int)≤1000000:=by omega
 have bI:(b:Int)≤1000000:=by omega
 have hno:((m:Int) - (a:Int) == 1)=false:=by simp;omega
 have hno2:((b:Int) - (m:Int) == 1)=false:=by simp;omega
 clear h hc hkey hsa hsb hx ih
 have hq:((a:Int)+(b:Int)) / 2=(((a+b) / 2:Nat):Int):=by omega
 obtain ⟨mid,hmid⟩:∃ mid,(a+b) / 2=mid:=⟨_,rfl⟩
 have hm1:a<mid:=by omega
 have hm2:mid<b:=by omega
 have hm3:2*mid≤a+b:=by omega
 have hm4:a+b≤2*mid+1:=by omega
 have mid0:(0:Int)≤(mid:Int):=by omega
 have midI:(mid:Int)≤1000000:=by omega
 rw [hmid] at hq
 clear hmid
 by_cases hgt:mid<m
 · have hgtI:(mid:Int)<(m:Int):=by omega
   obtain ⟨s0,hs0⟩:∃ s0,mid+m - b=s0:=⟨_,rfl⟩
   have HS0:Hid (s0+b=mid+m∧s0≤mid∧a≤s0∧mid≤m):=by refine ⟨?_,?_,?_,?_⟩ <;> omega
   have hz:(mid:Int)+(m:Int) - (b:Int)=(s0:Int):=by omega
   clear hs0
   go_enter Tryz.func112,Tryz.ntmps112
   go_wp2_with fail
   clear hz hq
   go_loopw [20,21] (fun v20 v21 wr=>∃ st r:Nat,v20 = .int .i64 st∧v21 = .int .i64 r∧s0≤st∧st≤r∧r≤mid∧Hid (Sq w0 wr blk cap n d∧(st=s0∨lt key (bAt d (st - 1)) (bAt d (mid+m - st)))∧(r=mid∨lt key (bAt d (mid+m - 1 - r)) (bAt d r)))) (fun v20 v21 _=>(intOf v21).toNat - (intOf v20).toNat)
   case atStart=>exact ⟨s0,mid,rfl,rfl,Nat.le_refl _,by have:=HS0.out;omega,Nat.le_refl _,HS.out,.inl rfl,.inl rfl⟩
   case round=>
    obtain ⟨st,r,rfl,rfl,hs0,hsr,hr0,HF⟩:=hrel
    have i0:(0:Int)≤(st:Int):=by omega
    have j0:(0:Int)≤(r:Int):=by omega
    have iI:(st:Int)≤1000000:=by omega
    have jI:(r:Int)≤1000000:=by omega
    by_cases hlt:st<r
    · have hltI:(st:Int)<(r:Int):=by omega
      go_wp2_with fail
      have hq:((st:Int)+(r:Int)) / 2=(((st+r) / 2:Nat):Int):=by omega
      rw [hq]
      obtain ⟨h,hh⟩:∃ h,(st+r) / 2=h:=⟨_,rfl⟩
      have hih:st≤h:=by omega
      have hhj:h<r:=by omega
      rw [hh]
      clear hq hh
      have h0:(0:Int)≤(h:Int):=by omega
      have hhm:h<m:=by have:=HS0.out;omega
      obtain ⟨p,hp⟩:∃ p,mid+m - 1 - h=p:=⟨_,rfl⟩
      have hpm:m≤p:=by have:=HS0.out;omega
      have hpb:p<b:=by have:=HS0.out;omega
      have hI:(h:Int)<(n:Int):=by omega
      have pq:((mid:Int)+(m:Int) - 1 - (h:Int)).toNat=p:=by omega
      have pq0:(0:Int)≤(mid:Int)+(m:Int) - 1 - (h:Int):=by omega
      have pqI:(mid:Int)+(m:Int) - 1 - (h:Int)<(n:Int):=by omega
      obtain ⟨hsq,hc1,hc2⟩:=HF.out
      have c1:=hsq.cell (j:=h) (by omega)
      have c2:=hsq.cell (j:=p) (by omega)
      have r1:=hsq.r h (by omega)
      have r2:=hsq.r p (by omega)
      have HC1:Hid (∀ q os,Calls Tryz.prog 71 #[.int .i64 (bAt d p),.int .i64 (bAt d h),.pointer (some ⟨bx,0,none⟩)] (Go.Sort.grow (wr.drewN q) os) fun e w'=>e = .returned (.int .i64 (key (bAt d h) - key (bAt d p)))∧Grown (Go.Sort.grow (wr.drewN q) os) w'):=fun q os=>HC.out _ ((hsq.grown ((Grown.refl wr).quiet q os)).f) _ _ r2.1 r2.2 r1.1 r1.2
      have k1:=fun q os=>((Grown.refl wr).quiet q os).cellv c1
      have k2:=fun q os=>((Grown.refl wr).quiet q os).cellv c2
      have hK1:=HK.out (bAt d h)
      have hK2:=HK.out (bAt d p)
      have HSG:=Hid.mk' (fun q os=>hsq.grown ((Grown.refl wr).quiet q os))
      obtain ⟨D,hD⟩:∃ D,key (bAt d h) - key (bAt d p)=D:=⟨_,rfl⟩
      rw [hD] at HC1
      have HY:Hid (D<0→lt key (bAt d (mid+m - 1 - h)) (bAt d h)):=fun hl=>by rw [hp];exact lt_clt (by omega)
      have HN:Hid (¬ D<0→lt key (bAt d (h+1 - 1)) (bAt d (mid+m - (h+1)))):=fun hl=>by
       rw [show mid+m - (h+1)=p by omega,Nat.add_sub_cancel]
       exact lt_not (HX.out h p (by have:=HS0.out;omega) hhm hpm hpb) (by omega)
      have H1:=Hid.mk' hc1
      have H2:=Hid.mk' hc2
      generalize bAt d h=x at c1 HC1 k1
      generalize bAt d p=y at c2 HC1 k2
      clear hsq HF hc1 hc2 hD r1 r2 hK1 hK2 hp
      by_cases hDl:D<0
      · have hDd:decide (D<0)=true:=by simpa using hDl
        have HY2:=Hid.mk' (HY.out hDl)
        clear HY HN
        refine wp_region_quiet_grown mixed (by kernel_rfl) ?_
        repeat (go_big_quiet_step ((go_at_call 71;exact grown_of (HC1.out _ _))))
        refine wpQuiet_nil ?_
        intro _ hw'
        obtain ⟨⟨nq,osq⟩,hw''⟩:=hw'
        subst hw''
        go_wp2
        exact ⟨⟨st,h,rfl,rfl,hs0,hih,by omega,HSG.out _ _,H1.out,.inr HY2.out⟩,by simp [intOf];omega⟩
      · have hDd:decide (D<0)=false:=by simpa using hDl
        have HN2:=Hid.mk' (HN.out hDl)
        clear HY HN
        refine wp_region_quiet_grown mixed (by kernel_rfl) ?_
        repeat (go_big_quiet_step ((go_at_call 71;exact grown_of (HC1.out _ _))))
        refine wpQuiet_nil ?_
        intro _ hw'
        obtain ⟨⟨nq,osq⟩,hw''⟩:=hw'
        subst hw''
        go_wp2
        exact ⟨⟨h+1,r,by go_num,rfl,by omega,by omega,hr0,HSG.out _ _,.inr HN2.out,H2.out⟩,by simp [intOf];omega⟩
    · have hge:¬ (st:Int)<(r:Int):=by omega
      have hjx:st=r:=by omega
      subst hjx
      obtain ⟨hsq,hc1,hc2⟩:=HF.out
      obtain ⟨en,hen⟩:∃ en,mid+m - st=en:=⟨_,rfl⟩
      have hE0:=HS0.out
      have hE1:m≤en:=by omega
      have hE2:en≤b:=by omega
      have hE3:mid=st+(en - m):=by omega
      have hS1:a≤st:=by omega
      have hS2:st≤m:=by omega
      have HC1':Hid (a<st→en<b→lt key (bAt d (st - 1)) (bAt d en)):=fun h1 h2=>by
       rcases hc1 with h | h
       · exfalso;omega
       · rw [hen] at h;exact h
      have HC2':Hid (st<m→m<en→lt key (bAt d (en - 1)) (bAt d st)):=fun h1 h2=>by
       rcases hc2 with h | h
       · exfalso;omega
       · rw [show mid+m - 1 - st=en - 1 by omega] at h;exact h
      have hq2:(mid:Int)+(m:Int) - (st:Int)=(en:Int):=by omega
      have HSQ:=Hid.mk' hsq
      have HSP:Hid (SymP key d a m b mid st en):=⟨HSA.out,HSB.out,HX.out,hS1,hS2,hE1,hE2,hE3,HC1'.out,HC2'.out⟩
      have en0I:(0:Int)≤(en:Int):=by omega
      have enI:(en:Int)≤1000000:=by omega
      have hM1:st≤mid:=by omega
      have hM2:mid≤en:=by omega
      clear HF hsq hc1 hc2 hen hE0 HC1' HC2' hE3
      rcases (show (st<m∧m<en)∨(st<m∧¬ m<en)∨¬ st<m by omega) with ⟨g1,g2⟩ | ⟨g1,g2⟩ | g1
      all_goals
       first | (have g1I:(st:Int)<(m:Int):=by omega;have g1d:=decide_eq_true g1I) | (have g1I:¬ (st:Int)<(m:Int):=by omega;have g1d:=decide_eq_false g1I) | skip
       first | (have g2I:(m:Int)<(en:Int):=by omega;have g2d:=decide_eq_true g2I) | (have g2I:¬ (m:Int)<(en:Int):=by omega;have g2d:=decide_eq_false g2I) | skip
       first
        | (have HR:=Hid.mk' (rotate_any HSQ.out st m en (.func (.func 71) #[] #[.pointer (some ⟨bx,0,none⟩)]) g1 g2 (by omega) hn);go_wp2_with fail;refine HR.out.mono ?_;rintro e w1 ⟨rfl,d1,hs1,hr1⟩;have HS1:=Hid.mk' hs1;have HR1:=Hid.mk' hr1;clear hs1 hr1 HR)
        | (have HS1:=HSQ;have HR1:Hid (Rot d d st m en):=rot_none (by omega) (by omega) (by omega))
       have HRL:=Hid.mk' (HSP.out.rl HR1.out)
       rcases (show (a<st∧st<mid)∨(a<st∧¬ st<mid)∨¬ a<st by omega) with ⟨f1,f2⟩ | ⟨f1,f2⟩ | f1
       all_goals
        first | (have f1I:(a:Int)<(st:Int):=by omega;have f1d:=decide_eq_true f1I) | (have f1I:¬ (a:Int)<(st:Int):=by omega;have f1d:=decide_eq_false f1I) | skip
        first | (have f2I:(st:Int)<(mid:Int):=by omega;have f2d:=decide_eq_true f2I) | (have f2I:¬ (st:Int)<(mid:Int):=by omega;have f2d:=decide_eq_false f2I) | skip
        first
         | (have HI:=Hid.mk' (IH.out a st mid _ _ (by omega) f1 f2 (by omega) HS1.out HRL.out.1 HRL.out.2.1 HRL.out.2.2.1);go_wp2_with fail;refine HI.out.mono ?_;rintro e w2 ⟨rfl,d2,hs2,hm2⟩;have HS2:=Hid.mk' hs2;have HM2:=Hid.mk' hm2;clear hs2 hm2 HI)
         | (have HS2:=HS1;have HM2:=Hid.mk' (SymP.nl HRL.out (by omega)))
        rcases (show (mid<en∧en<b)∨(mid<en∧¬ en<b)∨¬ mid<en by omega) with ⟨f3,f4⟩ | ⟨f3,f4⟩ | f3
        all_goals
         first | (have f3I:(mid:Int)<(en:Int):=by omega;have f3d:=decide_eq_true f3I) | (have f3I:¬ (mid:Int)<(en:Int):=by omega;have f3d:=decide_eq_false f3I) | skip
         first | (have f4I:(en:Int)<(b:Int):=by omega;have f4d:=decide_eq_true f4I) | (have f4I:¬ (en:Int)<(b:Int):=by omega;have f4d:=decide_eq_false f4I) | skip
         first
          | (have HA2:=Hid.mk' (SymP.a2 HRL.out HM2.out.1);have HI:=Hid.mk' (IH.out mid en b _ _ (by omega) f3 f4 hb HS2.out HA2.out.1 HA2.out.2.1 HA2.out.2.2);go_wp2_with fail;refine HI.out.mono ?_;rintro e w3 ⟨rfl,d3,hs3,hm3⟩;have HFI:=Hid.mk' (HSP.out.fin hs3 HR1.out HM2.out hm3);clear hs3 hm3 HI)
          | (have HFI:=Hid.mk' (HSP.out.fin HS2.out HR1.out HM2.out (SymP.nr (SymP.a2 HRL.out HM2.out.1) (by omega))))
         go_wp2
         go_end0
         exact ⟨rfl,HFI.out⟩
 · have hgtI:¬ (mid:Int)<(m:Int):=by omega
   have HS0:Hid (a≤m∧m≤mid):=⟨by omega,by omega⟩
   go_enter Tryz.func112,Tryz.ntmps112
   go_wp2_with fail
   clear hq
   go_loopw [20,21] (fun v20 v21 wr=>∃ st r:Nat,v20 = .int .i64 st∧v21 = .int .i64 r∧a≤st∧st≤r∧r≤m∧Hid (Sq w0 wr blk cap n d∧(st=a∨lt key (bAt d (st - 1)) (bAt d (mid+m - st)))∧(r=m∨lt key (bAt d (mid+m - 1 - r)) (bAt d r)))) (fun v20 v21 _=>(intOf v21).toNat - (intOf v20).toNat)
   case atStart=>exact ⟨a,m,rfl,rfl,Nat.le_refl _,by have:=HS0.out;omega,Nat.le_refl _,HS.out,.inl rfl,.inl rfl⟩
   case round=>
    obtain ⟨st,r,rfl,rfl,hs0,hsr,hr0,HF⟩:=hrel
    have i0:(0:Int)≤(st:Int):=by omega
    have j0:(0:Int)≤(r:Int):=by omega
    have iI:(st:Int)≤1000000:=by omega
    have jI:(r:Int)≤1000000:=by omega
    by_cases hlt:st<r
    · have hltI:(st:Int)<(r:Int):=by omega
      go_wp2_with fail
      have hq:((st:Int)+(r:Int)) / 2=(((st+r) / 2:Nat):Int):=by omega
      rw [hq]
      obtain ⟨h,hh⟩:∃ h,(st+r) / 2=h:=⟨_,rfl⟩
      have hih:st≤h:=by omega
      have hhj:h<r:=by omega
      rw [hh]
      clear hq hh
      have h0:(0:Int)≤(h:Int):=by omega
      have hhm:h<m:=by have:=HS0.out;omega
      obtain ⟨p,hp⟩:∃ p,mid+m - 1 - h=p:=⟨_,rfl⟩
      have hpm:m≤p:=by have:=HS0.out;omega
      have hpb:p<b:=by have:=HS0.out;omega
      have hI:(h:Int)<(n:Int):=by omega
      have pq:((mid:Int)+(m:Int) - 1 - (h:Int)).toNat=p:=by omega
      have pq0:(0:Int)≤(mid:Int)+(m:Int) - 1 - (h:Int):=by omega
      have pqI:(mid:Int)+(m:Int) - 1 - (h:Int)<(n:Int):=by omega
      obtain ⟨hsq,hc1,hc2⟩:=HF.out
      have c1:=hsq.cell (j:=h) (by omega)
      have c2:=hsq.cell (j:=p) (by omega)
      have r1:=hsq.r h (by omega)
      have r2:=hsq.r p (by omega)
      have HC1:Hid (∀ q os,Calls Tryz.prog 71 #[.int .i64 (bAt d p),.int .i64 (bAt d h),.pointer (some ⟨bx,0,none⟩)] (Go.Sort.grow (wr.drewN q) os) fun e w'=>e = .returned (.int .i64 (key (bAt d h) - key (bAt d p)))∧Grown (Go.Sort.grow (wr.drewN q) os) w'):=fun q os=>HC.out _ ((hsq.grown ((Grown.refl wr).quiet q os)).f) _ _ r2.1 r2.2 r1.1 r1.2
      have k1:=fun q os=>((Grown.refl wr).quiet q os).cellv c1
      have k2:=fun q os=>((Grown.refl wr).quiet q os).cellv c2
      have hK1:=HK.out (bAt d h)
      have hK2:=HK.out (bAt d p)
      have HSG:=Hid.mk' (fun q os=>hsq.grown ((Grown.refl wr).quiet q os))
      obtain ⟨D,hD⟩:∃ D,key (bAt d h) - key (bAt d p)=D:=⟨_,rfl⟩
      rw [hD] at HC1
      have HY:Hid (D<0→lt key (bAt d (mid+m - 1 - h)) (bAt d h)):=fun hl=>by rw [hp];exact lt_clt (by omega)
      have HN:Hid (¬ D<0→lt key (bAt d (h+1 - 1)) (bAt d (mid+m - (h+1)))):=fun hl=>by
       rw [show mid+m - (h+1)=p by omega,Nat.add_sub_cancel]
       exact lt_not (HX.out h p (by have:=HS0.out;omega) hhm hpm hpb) (by omega)
      have H1:=Hid.mk' hc1
      have H2:=Hid.mk' hc2
      generalize bAt d h=x at c1 HC1 k1
      generalize bAt d p=y at c2 HC1 k2
      clear hsq HF hc1 hc2 hD r1 r2 hK1 hK2 hp
      by_cases hDl:D<0
      · have hDd:decide (D<0)=true:=by simpa using hDl
        have HY2:=Hid.mk' (HY.out hDl)
        clear HY HN
        refine wp_region_quiet_grown mixed (by kernel_rfl) ?_
        repeat (go_big_quiet_step ((go_at_call 71;exact grown_of (HC1.out _ _))))
        refine wpQuiet_nil ?_
        intro _ hw'
        obtain ⟨⟨nq,osq⟩,hw''⟩:=hw'
        subst hw''
        go_wp2
        exact ⟨⟨st,h,rfl,rfl,hs0,hih,by omega,HSG.out _ _,H1.out,.inr HY2.out⟩,by simp [intOf];omega⟩
      · have hDd:decide (D<0)=false:=by simpa using hDl
        have HN2:=Hid.mk' (HN.out hDl)
        clear HY HN
        refine wp_region_quiet_grown mixed (by kernel_rfl) ?_
        repeat (go_big_quiet_step ((go_at_call 71;exact grown_of (HC1.out _ _))))
        refine wpQuiet_nil ?_
        intro _ hw'
        obtain ⟨⟨nq,osq⟩,hw''⟩:=hw'
        subst hw''
        go_wp2
        exact ⟨⟨h+1,r,by go_num,rfl,by omega,by omega,hr0,HSG.out _ _,.inr HN2.out,H2.out⟩,by simp [intOf];omega⟩
    · have hge:¬ (st:Int)<(r:Int):=by omega
      have hjx:st=r:=by omega
      subst hjx
      obtain ⟨hsq,hc1,hc2⟩:=HF.out
      obtain ⟨en,hen⟩:∃ en,mid+m - st=en:=⟨_,rfl⟩
      have hE0:=HS0.out
      have hE1:m≤en:=by omega
      have hE2:en≤b:=by omega
      have hE3:mid=st+(en - m):=by omega
      have hS1:a≤st:=by omega
      have hS2:st≤m:=by omega
      have HC1':Hid (a<st→en<b→lt key (bAt d (st - 1)) (bAt d en)):=fun h1 h2=>by
       rcases hc1 with h | h
       · exfalso;omega
       · rw [hen] at h;exact h
      have HC2':Hid (st<m→m<en→lt key (bAt d (en - 1)) (bAt d st)):=fun h1 h2=>by
       rcases hc2 with h | h
       · exfalso;omega
       · rw [show mid+m - 1 - st=en - 1 by omega] at h;exact h
      have hq2:(mid:Int)+(m:Int) - (st:Int)=(en:Int):=by omega
      have HSQ:=Hid.mk' hsq
      have HSP:Hid (SymP key d a m b mid st en):=⟨HSA.out,HSB.out,HX.out,hS1,hS2,hE1,hE2,hE3,HC1'.out,HC2'.out⟩
      have en0I:(0:Int)≤(en:Int):=by omega
      have enI:(en:Int)≤1000000:=by omega
      have hM1:st≤mid:=by omega
      have hM2:mid≤en:=by omega
      clear HF hsq hc1 hc2 hen hE0 HC1' HC2' hE3
      rcases (show (st<m∧m<en)∨(st<m∧¬ m<en)∨¬ st<m by omega) with ⟨g1,g2⟩ | ⟨g1,g2⟩ | g1
      all_goals
       first | (have g1I:(st:Int)<(m:Int):=by omega;have g1d:=decide_eq_true g1I) | (have g1I:¬ (st:Int)<(m:Int):=by omega;have g1d:=decide_eq_false g1I) | skip
       first | (have g2I:(m:Int)<(en:Int):=by omega;have g2d:=decide_eq_true g2I) | (have g2I:¬ (m:Int)<(en:Int):=by omega;have g2d:=decide_eq_false g2I) | skip
       first
        | (have HR:=Hid.mk' (rotate_any HSQ.out st m en (.func (.func 71) #[] #[.pointer (some ⟨bx,0,none⟩)]) g1 g2 (by omega) hn);go_wp2_with fail;refine HR.out.mono ?_;rintro e w1 ⟨rfl,d1,hs1,hr1⟩;have HS1:=Hid.mk' hs1;have HR1:=Hid.mk' hr1;clear hs1 hr1 HR)
        | (have HS1:=HSQ;have HR1:Hid (Rot d d st m en):=rot_none (by omega) (by omega) (by omega))
       have HRL:=Hid.mk' (HSP.out.rl HR1.out)
       rcases (show (a<st∧st<mid)∨(a<st∧¬ st<mid)∨¬ a<st by omega) with ⟨f1,f2⟩ | ⟨f1,f2⟩ | f1
       all_goals
        first | (have f1I:(a:Int)<(st:Int):=by omega;have f1d:=decide_eq_true f1I) | (have f1I:¬ (a:Int)<(st:Int):=by omega;have f1d:=decide_eq_false f1I) | skip
        first | (have f2I:(st:Int)<(mid:Int):=by omega;have f2d:=decide_eq_true f2I) | (have f2I:¬ (st:Int)<(mid:Int):=by omega;have f2d:=decide_eq_false f2I) | skip
        first
         | (have HI:=Hid.mk' (IH.out a st mid _ _ (by omega) f1 f2 (by omega) HS1.out HRL.out.1 HRL.out.2.1 HRL.out.2.2.1);go_wp2_with fail;refine HI.out.mono ?_;rintro e w2 ⟨rfl,d2,hs2,hm2⟩;have HS2:=Hid.mk' hs2;have HM2:=Hid.mk' hm2;clear hs2 hm2 HI)
         | (have HS2:=HS1;have HM2:=Hid.mk' (SymP.nl HRL.out (by omega)))
        rcases (show (mid<en∧en<b)∨(mid<en∧¬ en<b)∨¬ mid<en by omega) with ⟨f3,f4⟩ | ⟨f3,f4⟩ | f3
        all_goals
         first | (have f3I:(mid:Int)<(en:Int):=by omega;have f3d:=decide_eq_true f3I) | (have f3I:¬ (mid:Int)<(en:Int):=by omega;have f3d:=decide_eq_false f3I) | skip
         first | (have f4I:(en:Int)<(b:Int):=by omega;have f4d:=decide_eq_true f4I) | (have f4I:¬ (en:Int)<(b:Int):=by omega;have f4d:=decide_eq_false f4I) | skip
         first
          | (have HA2:=Hid.mk' (SymP.a2 HRL.out HM2.out.1);have HI:=Hid.mk' (IH.out mid en b _ _ (by omega) f3 f4 hb HS2.out HA2.out.1 HA2.out.2.1 HA2.out.2.2);go_wp2_with fail;refine HI.out.mono ?_;rintro e w3 ⟨rfl,d3,hs3,hm3⟩;have HFI:=Hid.mk' (HSP.out.fin hs3 HR1.out HM2.out hm3);clear hs3 hm3 HI)
          | (have HFI:=Hid.mk' (HSP.out.fin HS2.out HR1.out HM2.out (SymP.nr (SymP.a2 HRL.out HM2.out.1) (by omega))))
         go_wp2
         go_end0
         exact ⟨rfl,HFI.out⟩
structure Sg (key:Int→Int) (d:List Int) (a b:Nat):Prop where
 s:SS key d a b
 r:∀ i,a≤i→i<b→(a:Int)≤bAt d i∧bAt d i<(b:Int)
theorem Sg.same {key:Int→Int} {d e:List Int} {a b:Nat} (h:Sg key d a b) (he:∀ k,a≤k→k<b→bAt e k=bAt d k):Sg key e a b:=⟨h.s.same he,fun i h1 h2=>by rw [he i h1 h2];exact h.r i h1 h2⟩
theorem Sg.mix {key:Int→Int} {d e:List Int} {a b:Nat} (hm:Mix d e a b) (hs:SS key e a b) (hr:∀ i,a≤i→i<b→(a:Int)≤bAt d i∧bAt d i<(b:Int)):Sg key e a b:=⟨hs,fun i h1 h2=>by
 obtain ⟨j,k1,k2,k3⟩:=(hm.s (bAt e i)).1 ⟨i,h1,h2,rfl⟩
 rw [←k3];exact hr j k1 k2⟩
theorem Sg.join {key:Int→Int} {d:List Int} {a m b:Nat} (h1:Sg key d a m) (h2:Sg key d m b):Hx d a m b:=fun i j k1 k2 k3 k4=>by
 have:=h1.r i k1 k2
 have:=h2.r j k3 k4
 omega
theorem Sg.both {key:Int→Int} {d e:List Int} {a m b:Nat} (h1:Sg key d a m) (h2:Sg key d m b) (ham:a≤m) (hmb:m≤b) (hm:Mix d e a b) (hs:SS key e a b):Sg key e a b:=Sg.mix hm hs fun i k1 k2=>by
 by_cases hi:i<m
 · have:=h1.r i k1 hi;omega
 · have:=h2.r i (by omega) k2;omega
def Bl (key:Int→Int) (d:List Int) (bs lo n:Nat):Prop:=∀ k,lo≤k*bs→k*bs<n→Sg key d (k*bs) (min (k*bs+bs) n)
theorem Bl.keep {key:Int→Int} {d e:List Int} {bs lo n lo':Nat} (h:Bl key d bs lo n) (hl:lo≤lo') (he:∀ k,lo'≤k→bAt e k=bAt d k):Bl key e bs lo' n:=fun k h1 h2=>(h k (by omega) h2).same fun t k1 _=>he t (by omega)
def Br (key:Int→Int) (d:List Int) (bs hi:Nat):Prop:=∀ k,k*bs+bs≤hi→Sg key d (k*bs) (k*bs+bs)
theorem Br.keep {key:Int→Int} {d e:List Int} {bs hi:Nat} (h:Br key d bs hi) (he:∀ k,k<hi→bAt e k=bAt d k):Br key e bs hi:=fun k h1=>(h k h1).same fun t _ k2=>he t (by omega)
theorem Br.step {key:Int→Int} {d:List Int} {bs t:Nat} (h:Br key d bs (t*bs)) (hg:Sg key d (t*bs) (t*bs+bs)) (hb:0<bs):Br key d bs ((t+1)*bs):=fun k h1=>by
 by_cases hk:k=t
 · subst hk;exact hg
 · refine h k ?_
   have hkt:k<t+1:=by
    by_cases hx:k<t+1
    · exact hx
    · exfalso
      have:(t+1)*bs≤k*bs:=Nat.mul_le_mul_right bs (by omega)
      omega
   have:(k+1)*bs≤t*bs:=Nat.mul_le_mul_right bs (by omega)
   rw [Nat.succ_mul] at this
   omega
set_option maxHeartbeats 16000000 in
theorem stable_any {w0 w:World} {blk cap n:Nat} {d:List Int} {key:Int→Int} {bx:Nat} (h:Sq w0 w blk cap n d) (hc:CmpC w0 blk n key bx) (hkey:∀ x,0≤key x∧key x≤1000000) (hn:n≤1000000) (hid:∀ i,i<n→bAt d i=(i:Int)) :
 Calls Tryz.prog 95 #[.slice (some ⟨blk,0,none⟩) n cap,.int .i64 n,.func (.func 71) #[] #[.pointer (some ⟨bx,0,none⟩)]] w fun e w'=>e = .returned (.tuple #[])∧∃ d',Sq w0 w' blk cap n d'∧Sg key d' 0 n:=by
 have HS:Hid (Sq w0 w blk cap n d):=h
 have HID:=Hid.mk' hid
 have hnI:(n:Int)≤1000000:=by omega
 have n0:(0:Int)≤(n:Int):=by omega
 have HIN:=Hid.mk' (fun (W:World) (e:List Int) (a b:Nat) (hq:Sq w0 W blk cap n e) (h1:a≤b) (h2:b≤n) (h3:∀ i j,a≤i→i<j→j<b→bAt e i<bAt e j)=>insertion_any hq hc hkey a b h1 h2 hn h3)
 have HSY:=Hid.mk' (fun (W:World) (e:List Int) (a m b:Nat) (hq:Sq w0 W blk cap n e) (h1:a<m) (h2:m<b) (h3:b≤n) (h4:Sg key e a m) (h5:Sg key e m b)=>sym_any hc hkey hn (b - a) a m b e W (Nat.le_refl _) h1 h2 h3 hq h4.s h5.s (h4.join h5))
 clear h hc hkey hid
 go_enter Tryz.func95,Tryz.ntmps95
 go_wp2
 go_loopw [7,8] (fun v7 v8 wr=>∃ t:Nat,v7 = .int .i64 ((t*20:Nat):Int)∧v8 = .int .i64 ((t*20+20:Nat):Int)∧t*20≤n∧Hid (∃ e,Sq w0 wr blk cap n e∧Br key e 20 (t*20)∧∀ k,t*20≤k→k<n→bAt e k=(k:Int))) (fun v7 _ _=>n+20 - (intOf v7).toNat)
 case atStart=>exact ⟨0,rfl,rfl,by omega,d,HS.out,fun k h1=>by omega,fun k _ h2=>HID.out k h2⟩
 case round=>
  obtain ⟨t,rfl,rfl,htn,HE⟩:=hrel
  obtain ⟨A,hA⟩:∃ A,t*20=A:=⟨_,rfl⟩
  have HA:=Hid.mk' hA
  rw [hA] at HE htn ⊢
  clear hA
  have A0:(0:Int)≤(A:Int):=by omega
  obtain ⟨e,hsq,hbr,hrest⟩:=HE.out
  by_cases hle:A+20≤n
  · have hleI:((A+20:Nat):Int)≤(n:Int):=by omega
    have HC:=Hid.mk' (HIN.out wr e A (A+20) hsq (by omega) hle fun i j h1 h2 h3=>by rw [hrest i h1 (by omega),hrest j (by omega) (by omega)];omega)
    have HBR:=Hid.mk' hbr
    have HRE:=Hid.mk' hrest
    clear hsq hbr hrest HE
    go_wp2_with (go_at_call 111;refine HC.out.mono ?_;rintro e' w1 ⟨rfl,f,hs1,hm1,hss1⟩;have H1:Hid (Sq w0 w1 blk cap n f∧Mix e f A (A+20)∧SS key f A (A+20)):=⟨hs1,hm1,hss1⟩;clear hs1 hm1 hss1)
    refine ⟨⟨t+1,?_,?_,?_,f,H1.out.1,?_,?_⟩,?_⟩
    · have:=HA.out;congr 1;omega
    · have:=HA.out;congr 1;omega
    · have:=HA.out;omega
    · have hg:Sg key f A (A+20):=Sg.mix H1.out.2.1 H1.out.2.2 fun i h1 h2=>by rw [HRE.out i h1 (by omega)];omega
      have:=Br.step (t:=t) (bs:=20) (key:=key) (d:=f) (by rw [HA.out];exact HBR.out.keep fun k hk=>H1.out.2.1.o k (by omega)) (by rw [HA.out];exact hg) (by omega)
      exact this
    · intro k h1 h2
      have:=HA.out
      rw [H1.out.2.1.o k (by omega)]
      exact HRE.out k (by omega) h2
    · have:=HA.out;simp [intOf];omega
  · have hleI:¬ ((A+20:Nat):Int)≤(n:Int):=by omega
    have HC:=Hid.mk' (HIN.out wr e A n hsq htn (Nat.le_refl _) fun i j h1 h2 h3=>by rw [hrest i h1 (by omega),hrest j (by omega) (by omega)];omega)
    have HBR:=Hid.mk' hbr
    have HRE:=Hid.mk' hrest
    clear hsq hbr hrest HE
    go_wp2_with (go_at_call 111;refine HC.out.mono ?_;rintro e' w1 ⟨rfl,f,hs1,hm1,hss1⟩;have H1:Hid (Sq w0 w1 blk cap n f∧Bl key f 20 0 n):=⟨hs1,fun k _ hk=>by
     have ha:=HA.out
     by_cases hkt:k*20+20≤A
     · rw [show min (k*20+20) n=k*20+20 by omega]
       exact (HBR.out.keep fun k hk=>hm1.o k (by omega)) k hkt
     · rw [show k*20=A by omega,show min (A+20) n=n by omega]
       exact Sg.mix hm1 hss1 fun i h1 h2=>by rw [HRE.out i h1 h2];omega⟩;clear hs1 hm1 hss1)
    go_loopw [6] (fun v6 wr=>∃ bs:Nat,v6 = .int .i64 bs∧20≤bs∧bs≤4000000∧Hid (∃ e,Sq w0 wr blk cap n e∧Bl key e bs 0 n)) (fun v6 _=>n - (intOf v6).toNat)
    case atStart=>exact ⟨20,rfl,by omega,by omega,f,H1.out⟩
    case round=>
     clear H1 HBR HRE HC
     obtain ⟨bs,rfl,hb1,hb2,HE⟩:=hrel
     have bs0:(0:Int)≤(bs:Int):=by omega
     have bsI:(bs:Int)≤4000000:=by omega
     by_cases hbn:bs<n
     · have hbnI:(bs:Int)<(n:Int):=by omega
       go_wp2
       go_loopw [7,8] (fun v7 v8 wr=>∃ t A:Nat,v7 = .int .i64 A∧v8 = .int .i64 ((A+2*bs:Nat):Int)∧A=t*(2*bs)∧A≤n∧Hid (∃ e,Sq w0 wr blk cap n e∧Br key e (2*bs) A∧Bl key e bs A n)) (fun v7 _ _=>n+1 - (intOf v7).toNat)
       case atStart=>
        obtain ⟨e,h1,h2⟩:=HE.out
        exact ⟨0,0,rfl,by go_num,by omega,by omega,e,h1,fun k hk=>by omega,h2⟩
       case round=>
        obtain ⟨t,B,rfl,rfl,hB,hBn,HF⟩:=hrel
        have hB1:B=2*t*bs:=by rw [hB,←Nat.mul_assoc,Nat.mul_comm t 2]
        have hB2:B+bs=(2*t+1)*bs:=by rw [Nat.succ_mul,hB1]
        have hB3:B+2*bs=(t+1)*(2*bs):=by rw [Nat.add_mul t 1 (2*bs),Nat.one_mul,hB]
        have HB:=Hid.mk' (show B=t*(2*bs)∧B=2*t*bs∧B+bs=(2*t+1)*bs∧B+2*bs=(t+1)*(2*bs) from ⟨hB,hB1,hB2,hB3⟩)
        clear hB hB1 hB2 hB3
        have B0:(0:Int)≤(B:Int):=by omega
        have BI:(B:Int)≤1000000:=by omega
        obtain ⟨e,hsq,hbr,hbl⟩:=HF.out
        have HBR:=Hid.mk' hbr
        have HBL:=Hid.mk' hbl
        have HSQ:=Hid.mk' hsq
        have HG1:Hid (B<n→Sg key e B (min (B+bs) n)):=fun hb=>by
         have:=hbl (2*t) (by rw [←HB.out.2.1];exact Nat.le_refl _) (by rw [←HB.out.2.1];exact hb)
         rw [←HB.out.2.1] at this
         exact this
        have HG2:Hid (B+bs<n→Sg key e (B+bs) (min (B+2*bs) n)):=fun hb=>by
         have:=hbl (2*t+1) (by rw [←HB.out.2.2.1];omega) (by rw [←HB.out.2.2.1];exact hb)
         rw [←HB.out.2.2.1,show B+bs+bs=B+2*bs by omega] at this
         exact this
        clear hsq hbr hbl HF
        by_cases hle2:B+2*bs≤n
        · have hle2I:((B+2*bs:Nat):Int)≤(n:Int):=by omega
          have HC:Hid (Calls Tryz.prog 112 #[.slice (some ⟨blk,0,none⟩) n cap,.int .i64 B,.int .i64 ((B:Int)+(bs:Int)),.int .i64 ((B+2*bs:Nat):Int),.func (.func 71) #[] #[.pointer (some ⟨bx,0,none⟩)]] wr fun e' w'=>e' = .returned (.tuple #[])∧∃ d',Sq w0 w' blk cap n d'∧Mix e d' B (B+2*bs)∧SS key d' B (B+2*bs)):=by
           have g1:=HG1.out (by omega)
           have g2:=HG2.out (by omega)
           rw [show min (B+bs) n=B+bs by omega] at g1
           rw [show min (B+2*bs) n=B+2*bs by omega] at g2
           rw [show (B:Int)+(bs:Int)=((B+bs:Nat):Int) by omega]
           exact HSY.out wr e B (B+bs) (B+2*bs) HSQ.out (by omega) (by omega) hle2 g1 g2
          go_wp2_with (go_at_call 112;refine HC.out.mono ?_;rintro e' w2 ⟨rfl,f,hs2,hm2,hss2⟩;have H2:Hid (Sq w0 w2 blk cap n f∧Mix e f B (B+2*bs)∧SS key f B (B+2*bs)):=⟨hs2,hm2,hss2⟩;clear hs2 hm2 hss2)
          refine ⟨⟨t+1,B+2*bs,?_,?_,HB.out.2.2.2,hle2,f,H2.out.1,?_,?_⟩,?_⟩
          · congr 1
          · (congr 1) <;> omega
          · have g1:=HG1.out (by omega)
            have g2:=HG2.out (by omega)
            rw [show min (B+bs) n=B+bs by omega] at g1
            rw [show min (B+2*bs) n=B+2*bs by omega] at g2
            have hg:=g1.both g2 (by omega) (by omega) H2.out.2.1 H2.out.2.2
            rw [HB.out.2.2.2]
            refine Br.step (by rw [←HB.out.1];exact HBR.out.keep fun k hk=>H2.out.2.1.o k (by omega)) (by rw [←HB.out.1];exact hg) (by omega)
          · exact HBL.out.keep (by omega) fun k hk=>H2.out.2.1.o k (by omega)
          · simp [intOf];omega
        · have hle2I:¬ ((B+2*bs:Nat):Int)≤(n:Int):=by omega
          have HFI:Hid (∀ W f,Sq w0 W blk cap n f→Mix e f B n→(B<n→Sg key f B n)→∃ e,Sq w0 W blk cap n e∧Bl key e (2*bs) 0 n):=fun W f hs hm hg=>⟨f,hs,fun k _ hk=>by
           have hb4:=HB.out.2.2.2
           have hb1:=HB.out.1
           by_cases hkt:k<t
           · have:(k+1)*(2*bs)≤t*(2*bs):=Nat.mul_le_mul_right _ (by omega)
             rw [Nat.succ_mul] at this
             rw [show min (k*(2*bs)+2*bs) n=k*(2*bs)+2*bs by omega]
             exact (HBR.out.keep fun k hk=>hm.o k (by omega)) k (by omega)
           · by_cases hk2:k=t
             · subst hk2
               rw [←hb1] at hk ⊢
               rw [show min (B+2*bs) n=n by omega]
               exact hg hk
             · exfalso
               have:(t+1)*(2*bs)≤k*(2*bs):=Nat.mul_le_mul_right _ (by omega)
               omega⟩
          by_cases hmn:B+bs<n
          · have hmnI:(B:Int)+(bs:Int)<(n:Int):=by omega
            have HC:Hid (Calls Tryz.prog 112 #[.slice (some ⟨blk,0,none⟩) n cap,.int .i64 B,.int .i64 ((B:Int)+(bs:Int)),.int .i64 n,.func (.func 71) #[] #[.pointer (some ⟨bx,0,none⟩)]] wr fun e' w'=>e' = .returned (.tuple #[])∧∃ d',Sq w0 w' blk cap n d'∧Mix e d' B n∧Sg key d' B n):=by
             have g1:=HG1.out (by omega)
             have g2:=HG2.out hmn
             rw [show min (B+bs) n=B+bs by omega] at g1
             rw [show min (B+2*bs) n=n by omega] at g2
             rw [show (B:Int)+(bs:Int)=((B+bs:Nat):Int) by omega]
             refine (HSY.out wr e B (B+bs) n HSQ.out (by omega) hmn (Nat.le_refl _) g1 g2).mono ?_
             rintro e' w' ⟨h1,f,h2,h3,h4⟩
             exact ⟨h1,f,h2,h3,g1.both g2 (by omega) (by omega) h3 h4⟩
            go_wp2_with (go_at_call 112;refine HC.out.mono ?_;rintro e' w2 ⟨rfl,f,hs2,hm2,hg2⟩;have H2:=Hid.mk' (HFI.out w2 f hs2 hm2 fun _=>hg2);clear hs2 hm2 hg2)
            exact ⟨⟨2*bs,by rw [show ((2*bs:Nat):Int)=(bs:Int)*2 by omega],by omega,by omega,H2.out⟩,by simp [intOf];omega⟩
          · have hmnI:¬ (B:Int)+(bs:Int)<(n:Int):=by omega
            have H2:=Hid.mk' (HFI.out wr e HSQ.out (Mix.refl _ _ _) fun hb=>by have:=HG1.out hb;rw [show min (B+bs) n=n by omega] at this;exact this)
            go_wp2
            exact ⟨⟨2*bs,by rw [show ((2*bs:Nat):Int)=(bs:Int)*2 by omega],by omega,by omega,H2.out⟩,by simp [intOf];omega⟩
     · have hbnI:¬ (bs:Int)<(n:Int):=by omega
       have HFI:Hid (∃ d',Sq w0 wr blk cap n d'∧Sg key d' 0 n):=by
        obtain ⟨e,h1,h2⟩:=HE.out
        by_cases hz:n=0
        · subst hz
          exact ⟨e,h1,fun i j _ _ h=>by omega,fun i _ h=>by omega⟩
        · have:=h2 0 (by omega) (by omega)
          rw [Nat.zero_mul,Nat.zero_add,show min bs n=n by omega] at this
          exact ⟨e,h1,this⟩
       go_wp2
       go_end0
       exact ⟨rfl,HFI.out⟩
def klI (rs:List Rl) (x:Int):Int:=((rs[x.toNat]?.map fun r=>r.key.length).getD 0:Nat)
theorem kl_at {rs:List Rl} {j:Nat} (h:j<rs.length):klI rs (j:Int)=(rs[j].key.length:Int):=by simp [klI,h]
theorem kl_in {rs:List Rl} (h:∀ r∈rs,r.key.length≤1000000) (x:Int):0≤klI rs x∧klI rs x≤1000000:=by
 unfold klI
 cases hx:rs[x.toNat]? with
 | none=>simp
 | some r=>
  have:=h r (List.mem_of_getElem? hx)
  simp
  omega
theorem psr_key {w:World} {a:Option Addr} {n c:Nat} {rs:List Rl} (h:PsR w (.slice a n c) rs) {j:Nat} (hj:j<rs.length):∃ g o ka kc,a=some ⟨g,o,none⟩∧w.cell? ⟨g,o+j*7+2,none⟩=some (.slice ka rs[j].key.length kc):=by
 obtain ⟨a',c',e,_,h⟩:=h
 injection e with e1 _ _
 subst e1
 obtain ⟨g,o,e,h⟩:=h.resolve_left fun e=>by rw [e] at hj;simp at hj
 obtain ⟨av,kv,pv,rv,_,_,q2,_,_,_,_,hR⟩:=h j hj
 obtain ⟨ka,kc,hk,_⟩:=hR.k
 rw [hk] at q2
 exact ⟨g,o,ka,kc,e,q2⟩
set_option maxHeartbeats 4000000 in
theorem cmp_any {w0:World} {blk n bx:Nat} {ra:Option Addr} {rc:Nat} {rs:List Rl} (hP:PsR w0 (.slice ra n rc) rs) (hN:rs.length=n) (hb:w0.cell? ⟨bx,0,none⟩=some (.slice ra n rc)) (hbb:bx≠blk) (hlt:∀ g o,ra=some ⟨g,o,none⟩→g≠blk) (hz:∀ r∈rs,r.key.length≤1000000) (hn:n≤1000000):CmpC w0 blk n (klI rs) bx:=by
 intro W hf x y hx0 hxn hy0 hyn
 obtain ⟨i,rfl⟩:∃ i:Nat,x=(i:Int):=⟨x.toNat,by omega⟩
 obtain ⟨j,rfl⟩:∃ j:Nat,y=(j:Int):=⟨y.toNat,by omega⟩
 have hil:i<rs.length:=by omega
 have hjl:j<rs.length:=by omega
 obtain ⟨g,o,ka,kc,e1,c1⟩:=psr_key hP hil
 obtain ⟨g',o',la,lc,e2,c2⟩:=psr_key hP hjl
 rw [e1] at e2
 injection e2 with e2
 injection e2 with e2 e3
 subst e2 e3
 have hg:=hlt g o e1
 subst e1
 rw [kl_at hil,kl_at hjl]
 have hk1:=hz _ (List.getElem_mem hil)
 have hk2:=hz _ (List.getElem_mem hjl)
 have b0:W.cell? ⟨bx,0,none⟩=some (.slice (some ⟨g,o,none⟩) n rc):=by rw [cell_same (hf.block bx (cell_lt hb) hbb)];exact hb
 have d1:W.cell? ⟨g,o+i*7+2,none⟩=some (.slice ka rs[i].key.length kc):=by rw [cell_same (hf.block g (cell_lt c1) hg)];exact c1
 have d2:W.cell? ⟨g,o+j*7+2,none⟩=some (.slice la rs[j].key.length lc):=by rw [cell_same (hf.block g (cell_lt c1) hg)];exact c2
 generalize rs[i].key.length=X at *
 generalize rs[j].key.length=Y at *
 have XI:(X:Int)≤1000000:=by omega
 have YI:(Y:Int)≤1000000:=by omega
 have X0:(0:Int)≤(X:Int):=by omega
 have Y0:(0:Int)≤(Y:Int):=by omega
 have nI:(n:Int)≤1000000:=by omega
 have k0:=fun m os=>((Grown.refl W).quiet m os).cellv b0
 have k1:=fun m os=>((Grown.refl W).quiet m os).cellv d1
 have k2:=fun m os=>((Grown.refl W).quiet m os).cellv d2
 clear hP hN hb hf hz c1 c2 hil hjl hlt
 go_enter Tryz.func71,Tryz.ntmps71
 go_wp2
 refine wp_region_quiet_grown mixed (by kernel_rfl) ?_
 repeat (go_big_quiet_step (fail))
 refine wpQuiet_nil ?_
 intro _ hw'
 obtain ⟨⟨nq,osq⟩,hw''⟩:=hw'
 subst hw''
 go_wp2
 go_ret
 exact ⟨rfl,(Grown.refl W).quiet _ _⟩
theorem insertion_nil (w:World) (cv:Value) (c:Nat):Calls Tryz.prog 111 #[.slice none 0 c,.int .i64 0,.int .i64 0,cv] w fun e w'=>e = .returned (.tuple #[])∧w'=w:=by
 go_enter Tryz.func111,Tryz.ntmps111
 go_wp2
 refine wp_loop_rounds 1 ?_
 rw [rounds_succ]
 go_wp2
 go_end0
 exact ⟨rfl,rfl⟩
theorem stable_nil (w:World) (cv:Value) (c:Nat):Calls Tryz.prog 95 #[.slice none 0 c,.int .i64 0,cv] w fun e w'=>e = .returned (.tuple #[])∧w'=w:=by
 have HC:=Hid.mk' (insertion_nil w cv c)
 go_enter Tryz.func95,Tryz.ntmps95
 go_wp2
 refine wp_loop_rounds 1 ?_
 rw [rounds_succ]
 go_wp2_with (go_at_call 111;refine HC.out.mono ?_;rintro e w1 ⟨rfl,rfl⟩)
 refine wp_loop_rounds 1 ?_
 rw [rounds_succ]
 go_wp2
 go_end0
 exact ⟨rfl,rfl⟩
theorem sort_some {w0 w:World} {blk cap n:Nat} {d:List Int} {key:Int→Int} {bx:Nat} (h:Sq w0 w blk cap n d) (hc:CmpC w0 blk n key bx) (hkey:∀ x,0≤key x∧key x≤1000000) (hn:n≤1000000) (hid:∀ i,i<n→bAt d i=(i:Int)) :
 Calls Tryz.prog 70 #[.slice (some ⟨blk,0,none⟩) n cap,.func (.func 71) #[] #[.pointer (some ⟨bx,0,none⟩)]] w fun e w'=>e = .returned (.tuple #[])∧∃ d',Sq w0 w' blk cap n d'∧Sg key d' 0 n:=by
 have HC:=Hid.mk' (stable_any h hc hkey hn hid)
 clear h hc hkey hid
 go_enter Tryz.func70,Tryz.ntmps70
 go_wp2_with (go_at_call 95;refine HC.out.mono ?_;rintro e w1 ⟨rfl,hq⟩;have HQ:=Hid.mk' hq;clear hq)
 go_end0
 exact ⟨rfl,HQ.out⟩
theorem sort_nil (w:World) (cv:Value) (c:Nat):Calls Tryz.prog 70 #[.slice none 0 c,cv] w fun e w'=>e = .returned (.tuple #[])∧w'=w:=by
 have HC:=Hid.mk' (stable_nil w cv c)
 go_enter Tryz.func70,Tryz.ntmps70
 go_wp2_with (go_at_call 95;refine HC.out.mono ?_;rintro e w1 ⟨rfl,rfl⟩)
 go_end0
 exact ⟨rfl,rfl⟩
section
variable {w:World} {base xb:Nat} {pv rv sv gv cv:Value} {G:List It} {S:List (Value × List It)} {C:List (Value × List (Pc × Value))} {R:List LRu} {re:List Value} {n:Nat}
theorem LX.other (h:LX w base xb pv rv sv gv cv G S C R re n) {t:Value} {E:TypeId} {T:Nat} {tl:List Value} {tn:Nat} (ht:w.ownsRow base E T t tn tl) {w1:World} {j:Nat} {u:Value} (hf:Fr w w1 fun k=>t.ownBlock=some k) {e:TypeId} {size:Nat} {v:Value} {m:Nat} {xs:List Value} (hr:w.ownsRow base e size v m xs) (he:e≠36) (hd:e≠E∨∀ b,v.ownBlock=some b→t.ownBlock≠some b):(w1.setCell ⟨xb,j,none⟩ u).ownsRow base e size v m xs:=by
 have hf2:Fr w (w1.setCell ⟨xb,j,none⟩ u) fun k=>t.ownBlock=some k∨k=xb:=(hf.mono fun k _ e => .inl e).trans (fr_set w1 xb j u) fun i _ e => .inr e
 refine own_fr hr hf2 fun b hb hc => ?_
 rcases hc with hc | hc
 · rcases hd with hd | hd
   · exact own_ne hr ht hd hb hc
   · exact hd b hb hc
 · subst hc;exact h.x_ne hr he hb
theorem LX.pushS (h:LX w base xb pv rv sv gv cv G S C R re n) {v' sv' mv:Value} {its:List It} {w1:World} (hv:w.ownsRow base 60 1 v' (its.length+1) (its.map (fun y=>cut y.1)++[mv])) (hm:Len1 mv) (hi:∀ y∈its,y∈G) (hvb:∀ b,v'.ownBlock=some b→¬ Bs xb rv sv gv cv G S C b) (hf:Fr w w1 fun k=>sv.ownBlock=some k) (ho:w1.ownsRow base 33 1 sv' (S.length+1) (S.map Prod.fst++[v'])) (hgb:sv'.ownBlock=sv.ownBlock∨∃ i,sv'.ownBlock=some i∧w.heap.size≤i) :
 LX (w1.setCell ⟨xb,2,none⟩ sv') base xb pv rv sv' gv cv G (S++[(v',its)]) C R re n∧Fr w (w1.setCell ⟨xb,2,none⟩ sv') (Bs xb rv sv gv cv G S C)∧∀ b,Bs xb rv sv' gv cv G (S++[(v',its)]) C b→Bs xb rv sv gv cv G S C b∨w.heap.size≤b∨v'.ownBlock=some b:=by
 have hx1:w1.heap[xb]? = some (.cells #[pv,rv,sv,gv,cv] 36 (0,0)):=(hf.block xb (blk_lt h.x) (h.x_ne h.s (by decide))).trans h.x
 have hf2:Fr w (w1.setCell ⟨xb,2,none⟩ sv') fun k=>sv.ownBlock=some k∨k=xb:=(hf.mono fun k _ e => .inl e).trans (fr_set w1 xb 2 sv') fun i _ e => .inr e
 have hgx:sv'.ownBlock≠some xb:=fun e=>by
  obtain ⟨cur,hc⟩:=own_at ho e
  rw [hx1] at hc
  injection hc with hc
  injection hc with _ h2 _
  exact absurd h2 (by decide)
 obtain ⟨g2,_,hv2,_,_,_,hob2⟩:=fl_slice hv
 refine ⟨⟨h.hb,?_,h.other h.s hf h.g (by decide) (.inl (by decide)),?_,h.other h.s hf h.c (by decide) (.inl (by decide)),h.other h.s hf h.r (by decide) (.inl (by decide)),fun x hx=>h.other h.s hf (h.gi x hx) (by decide) (.inl (by decide)),fun x hx => ?_,fun x hx=>⟨h.other h.s hf (h.ci x hx).1 (by decide) (.inl (by decide)),(h.ci x hx).2⟩,fun r hr => ?_,h.ng,?_,h.nc⟩,?_,?_⟩
 · rw [set_heap hx1];rfl
 · have:(w1.setCell ⟨xb,2,none⟩ sv').ownsRow base 33 1 sv' (S.length+1) (S.map Prod.fst++[v']):=own_fr ho (fr_set w1 xb 2 sv') fun b hb e=>by subst e;exact hgx hb
   simpa using this
 · rcases List.mem_append.1 hx with hx | hx
   · obtain ⟨⟨mv',h0,h1⟩,h2⟩:=h.si x hx
     exact ⟨⟨mv',h0,h.other h.s hf h1 (by decide) (.inl (by decide))⟩,h2⟩
   · simp at hx;subst hx;exact ⟨⟨mv,hm,h.other h.s hf hv (by decide) (.inl (by decide))⟩,hi⟩
 · obtain ⟨a1,a2,a3,a4⟩:=h.ri r hr
   exact ⟨List.mem_append_left _ a1,List.mem_append_left _ a2,List.mem_append_left _ a3,a4⟩
 · rw [List.map_append,←List.cons_append,List.nodup_append]
   refine ⟨h.ns,by simp,fun a ha b hb e => ?_⟩
   simp at hb
   subst hb
   subst e
   refine hvb g2 hob2 ?_
   rw [hob2] at ha
   rcases List.mem_cons.1 ha with ha | ha
   · exact .inr (.inr (.inr (.inl ha.symm)))
   · obtain ⟨x,hx,e⟩:=List.mem_map.1 ha
     exact .inr (.inr (.inr (.inr (.inr (.inr (.inl ⟨x,hx,e⟩))))))
 · exact hf2.mono fun k _ e=>by
    rcases e with e | e
    · simp [Bs,e]
    · exact .inl e
 · rintro b (hb | hb | hb | hb | hb | ⟨x,hx,hb⟩ | ⟨x,hx,hb⟩ | ⟨x,hx,hb⟩)
   · exact .inl (.inl hb)
   · exact .inl (by simp [Bs,hb])
   · rcases hgb with e | ⟨i,e,hi2⟩
     · exact .inl (by rw [e] at hb;simp [Bs,hb])
     · rw [e] at hb;injection hb with hb;exact .inr (.inl (by omega))
   · exact .inl (by simp [Bs,hb])
   · exact .inl (by simp [Bs,hb])
   · exact .inl (.inr (.inr (.inr (.inr (.inr (.inl ⟨x,hx,hb⟩))))))
   · rcases List.mem_append.1 hx with hx | hx
     · exact .inl (.inr (.inr (.inr (.inr (.inr (.inr (.inl ⟨x,hx,hb⟩)))))))
     · simp at hx;subst hx;exact .inr (.inr hb)
   · exact .inl (.inr (.inr (.inr (.inr (.inr (.inr (.inr ⟨x,hx,hb⟩)))))))
theorem LX.pushC (h:LX w base xb pv rv sv gv cv G S C R re n) {v' cv':Value} {its:List (Pc × Value)} {w1:World} (hv:w.ownsRow base 65 4 v' (its.length+1) (pcells its++pend)) (hi:∀ y∈its,(y.2,y.1.tl)∈G) (hvb:∀ b,v'.ownBlock=some b→¬ Bs xb rv sv gv cv G S C b) (hf:Fr w w1 fun k=>cv.ownBlock=some k) (ho:w1.ownsRow base 51 1 cv' (C.length+1) (C.map Prod.fst++[v'])) (hgb:cv'.ownBlock=cv.ownBlock∨∃ i,cv'.ownBlock=some i∧w.heap.size≤i) :
 LX (w1.setCell ⟨xb,4,none⟩ cv') base xb pv rv sv gv cv' G S (C++[(v',its)]) R re n∧Fr w (w1.setCell ⟨xb,4,none⟩ cv') (Bs xb rv sv gv cv G S C)∧∀ b,Bs xb rv sv gv cv' G S (C++[(v',its)]) b→Bs xb rv sv gv cv G S C b∨w.heap.size≤b∨v'.ownBlock=some b:=by
 have hx1:w1.heap[xb]? = some (.cells #[pv,rv,sv,gv,cv] 36 (0,0)):=(hf.block xb (blk_lt h.x) (h.x_ne h.c (by decide))).trans h.x
 have hf2:Fr w (w1.setCell ⟨xb,4,none⟩ cv') fun k=>cv.ownBlock=some k∨k=xb:=(hf.mono fun k _ e => .inl e).trans (fr_set w1 xb 4 cv') fun i _ e => .inr e
 have hgx:cv'.ownBlock≠some xb:=fun e=>by
  obtain ⟨cur,hc⟩:=own_at ho e
  rw [hx1] at hc
  injection hc with hc
  injection hc with _ h2 _
  exact absurd h2 (by decide)
 obtain ⟨g2,_,hv2,_,_,_,hob2⟩:=fl_slice hv
 refine ⟨⟨h.hb,?_,h.other h.c hf h.g (by decide) (.inl (by decide)),h.other h.c hf h.s (by decide) (.inl (by decide)),?_,h.other h.c hf h.r (by decide) (.inl (by decide)),fun x hx=>h.other h.c hf (h.gi x hx) (by decide) (.inl (by decide)),fun x hx => ?_,fun x hx => ?_,fun r hr => ?_,h.ng,h.ns,?_⟩,?_,?_⟩
 · rw [set_heap hx1];rfl
 · have:(w1.setCell ⟨xb,4,none⟩ cv').ownsRow base 51 1 cv' (C.length+1) (C.map Prod.fst++[v']):=own_fr ho (fr_set w1 xb 4 cv') fun b hb e=>by subst e;exact hgx hb
   simpa using this
 · obtain ⟨⟨mv',h0,h1⟩,h2⟩:=h.si x hx
   exact ⟨⟨mv',h0,h.other h.c hf h1 (by decide) (.inl (by decide))⟩,h2⟩
 · rcases List.mem_append.1 hx with hx | hx
   · exact ⟨h.other h.c hf (h.ci x hx).1 (by decide) (.inl (by decide)),(h.ci x hx).2⟩
   · simp at hx;subst hx;exact ⟨h.other h.c hf hv (by decide) (.inl (by decide)),hi⟩
 · obtain ⟨a1,a2,a3,a4⟩:=h.ri r hr
   exact ⟨a1,a2,a3,List.mem_append_left _ a4⟩
 · rw [List.map_append,List.nodup_append]
   refine ⟨h.nc,by simp,fun a ha b hb e => ?_⟩
   simp at hb
   subst hb
   subst e
   refine hvb g2 hob2 ?_
   rw [hob2] at ha
   obtain ⟨x,hx,e⟩:=List.mem_map.1 ha
   exact .inr (.inr (.inr (.inr (.inr (.inr (.inr ⟨x,hx,e⟩))))))
 · exact hf2.mono fun k _ e=>by
    rcases e with e | e
    · simp [Bs,e]
    · exact .inl e
 · rintro b (hb | hb | hb | hb | hb | ⟨x,hx,hb⟩ | ⟨x,hx,hb⟩ | ⟨x,hx,hb⟩)
   · exact .inl (.inl hb)
   · exact .inl (by simp [Bs,hb])
   · exact .inl (by simp [Bs,hb])
   · exact .inl (by simp [Bs,hb])
   · rcases hgb with e | ⟨i,e,hi2⟩
     · exact .inl (by rw [e] at hb;simp [Bs,hb])
     · rw [e] at hb;injection hb with hb;exact .inr (.inl (by omega))
   · exact .inl (.inr (.inr (.inr (.inr (.inr (.inl ⟨x,hx,hb⟩))))))
   · exact .inl (.inr (.inr (.inr (.inr (.inr (.inr (.inl ⟨x,hx,hb⟩)))))))
   · rcases List.mem_append.1 hx with hx | hx
     · exact .inl (.inr (.inr (.inr (.inr (.inr (.inr (.inr ⟨x,hx,hb⟩)))))))
     · simp at hx;subst hx;exact .inr (.inr hb)
theorem LX.pushR (h:LX w base xb pv rv sv gv cv G S C R [] n) {rv':Value} {R':List LRu} {re':List Value} {w1:World} (hi:∀ r∈R',r.a∈S∧r.k∈S∧r.p∈S∧r.q∈C) (hf:Fr w w1 fun k=>rv.ownBlock=some k) (ho:w1.ownsRow base 53 7 rv' (n+1) (rucells R'++re')) (hgb:rv'.ownBlock=rv.ownBlock∨∃ i,rv'.ownBlock=some i∧w.heap.size≤i) :
 LX (w1.setCell ⟨xb,1,none⟩ rv') base xb pv rv' sv gv cv G S C R' re' (n+1)∧Fr w (w1.setCell ⟨xb,1,none⟩ rv') (Bs xb rv sv gv cv G S C)∧∀ b,Bs xb rv' sv gv cv G S C b→Bs xb rv sv gv cv G S C b∨w.heap.size≤b:=by
 have hx1:w1.heap[xb]? = some (.cells #[pv,rv,sv,gv,cv] 36 (0,0)):=(hf.block xb (blk_lt h.x) (h.x_ne h.r (by decide))).trans h.x
 have hf2:Fr w (w1.setCell ⟨xb,1,none⟩ rv') fun k=>rv.ownBlock=some k∨k=xb:=(hf.mono fun k _ e => .inl e).trans (fr_set w1 xb 1 rv') fun i _ e => .inr e
 have hgx:rv'.ownBlock≠some xb:=fun e=>by
  obtain ⟨cur,hc⟩:=own_at ho e
  rw [hx1] at hc
  injection hc with hc
  injection hc with _ h2 _
  exact absurd h2 (by decide)
 refine ⟨⟨h.hb,?_,h.other h.r hf h.g (by decide) (.inl (by decide)),h.other h.r hf h.s (by decide) (.inl (by decide)),h.other h.r hf h.c (by decide) (.inl (by decide)),?_,fun x hx=>h.other h.r hf (h.gi x hx) (by decide) (.inl (by decide)),fun x hx => ?_,fun x hx=>⟨h.other h.r hf (h.ci x hx).1 (by decide) (.inl (by decide)),(h.ci x hx).2⟩,hi,h.ng,h.ns,h.nc⟩,?_,?_⟩
 · rw [set_heap hx1];rfl
 · exact own_fr ho (fr_set w1 xb 1 rv') fun b hb e=>by subst e;exact hgx hb
 · obtain ⟨⟨mv',h0,h1⟩,h2⟩:=h.si x hx
   exact ⟨⟨mv',h0,h.other h.r hf h1 (by decide) (.inl (by decide))⟩,h2⟩
 · exact hf2.mono fun k _ e=>by
    rcases e with e | e
    · simp [Bs,e]
    · exact .inl e
 · rintro b (hb | hb | hb | hb | hb | ⟨x,hx,hb⟩ | ⟨x,hx,hb⟩ | ⟨x,hx,hb⟩)
   · exact .inl (.inl hb)
   · rcases hgb with e | ⟨i,e,hi2⟩
     · exact .inl (by rw [e] at hb;simp [Bs,hb])
     · rw [e] at hb;injection hb with hb;exact .inr (by omega)
   · exact .inl (by simp [Bs,hb])
   · exact .inl (by simp [Bs,hb])
   · exact .inl (by simp [Bs,hb])
   · exact .inl (.inr (.inr (.inr (.inr (.inr (.inl ⟨x,hx,hb⟩))))))
   · exact .inl (.inr (.inr (.inr (.inr (.inr (.inr (.inl ⟨x,hx,hb⟩)))))))
   · exact .inl (.inr (.inr (.inr (.inr (.inr (.inr (.inr ⟨x,hx,hb⟩)))))))
theorem LX.setP (h:LX w base xb pv rv sv gv cv G S C R re n) (u:Value):LX (w.setCell ⟨xb,0,none⟩ u) base xb u rv sv gv cv G S C R re n:=by
 have hf:=fr_set w xb 0 u
 have o:∀ {e:TypeId} {size:Nat} {v:Value} {m:Nat} {xs:List Value},w.ownsRow base e size v m xs→e≠36→(w.setCell ⟨xb,0,none⟩ u).ownsRow base e size v m xs:=fun hr he=>own_fr hr hf fun b hb e=>by subst e;exact h.x_ne hr he hb
 refine ⟨h.hb,by rw [set_heap h.x];rfl,o h.g (by decide),o h.s (by decide),o h.c (by decide),o h.r (by decide),fun x hx=>o (h.gi x hx) (by decide),fun x hx => ?_,fun x hx=>⟨o (h.ci x hx).1 (by decide),(h.ci x hx).2⟩,h.ri,h.ng,h.ns,h.nc⟩
 obtain ⟨⟨mv',h0,h1⟩,h2⟩:=h.si x hx
 exact ⟨⟨mv',h0,o h1 (by decide)⟩,h2⟩
end
end Go.Proofs
