/-
  Two rows that are merged, whatever they are.
-/
import Derived.RangeFuncNested
import Derived.RangeFuncBound
import Derived.RangeFuncCalls
import Derived.RangeFuncLeaves
import Derived.Shelf.Abstract
import Derived.Shelf.RegionOpen
import Derived.WalkKit
import Derived.WalkSpells
import Derived.WalkLawsBesides
import Derived.OwnWalkIn
import Derived.TacticsInMore
import Derived.LoopNIn
import Derived.LoopIn
import Derived.BigQuiet
import Derived.RegionIn
import Derived.Deep.QuietTactic
import Derived.Deep.RegionWith
import Derived.Lib.OthersKept
import Derived.Maps.AppendAt
import Derived.Lib.SmallJoins
import Derived.Shelf.SlSortCmp.QuietGrown
import Derived.Test.YtaemgkemlifadaaGreatDoorMgis
namespace Go.Proofs
open Go.RowKit Go.Shelf
set_option maxRecDepth 100000
attribute [local go_sem] Oper.semAt_some
attribute [local go_sem ↓] Go.wp_at_zero Go.wp_at_succ
set_option maxHeartbeats 32000000 in
theorem sym_any {w0:World} {blk cap n:Nat} {key:Int→Int} {bx:Nat} (hc:CmpC w0 blk n key bx) (hkey:∀ x,0≤key x∧key x≤1000000) (hn:n≤1000000):∀ (N a m b:Nat) (d:List Int) (w:World),b - a≤N→a<m→m<b→b≤n→Sq w0 w blk cap n d→SS key d a m→SS key d m b→Hx d a m b →
 Calls Tryz.prog 112 #[.slice (some ⟨blk,0,none⟩) n cap,.int .i64 a,.int .i64 m,.int .i64 b,.func (.func 71) #[] #[.pointer (some ⟨bx,0,none⟩)]] w fun e w'=>e = .returned (.tuple #[])∧∃ d',Sq w0 w' blk cap n d'∧Mix d d' a b∧SS key d' a b:=by
 intro N
 induction N with
 | zero=>intro a m b d w h1 h2 h3;omega
 | succ N ih=>
 intro a m b d w hN ham hmb hb h hsa hsb hx
 by_cases h1:m=a+1
 · subst h1
   have:=sym_one h hc hkey a b (by omega) hb hn hsb hx
   rw [show ((a+1:Nat):Int)=(a:Int)+1 by omega]
   exact this
 by_cases h2:b=m+1
 · subst h2
   have:=sym_two h hc hkey a m (by omega) hb hn hsa hx
   rw [show ((m+1:Nat):Int)=(m:Int)+1 by omega]
   exact this
 have IH:=Hid.mk' ih
 have HS:Hid (Sq w0 w blk cap n d):=h
 have HC:=Hid.mk' hc
 have HK:=Hid.mk' hkey
 have HSA:=Hid.mk' hsa
 have HSB:=Hid.mk' hsb
 have HX:=Hid.mk' hx
 have hnI:(n:Int)≤1000000:=by omega
 have hdl:d.length=n:=h.l
 have a0:(0:Int)≤(a:Int):=by omega
 have m0:(0:Int)≤(m:Int):=by omega
 have b0:(0:Int)≤(b:Int):=by omega
 have aI:(a:Int)≤1000000:=by omega
 have mI:(m:Int)≤1000000:=by omega
 have bI:(b:Int)≤1000000:=by omega
 have hno:((m:Int) - (a:Int) == 1)=false:=by simp;omega
 have hno2:((b:Int) - (m:Int) == 1)=false:=by simp;omega
 clear h hc hkey hsa hsb hx ih
 have hq:((a:Int)+(b:Int)) / 2=(((a+b) / 2:Nat):Int):=by omega
 obtain ⟨mid,hmid⟩:∃ mid,(a+b) / 2=mid:=⟨_,rfl⟩
 have hm1:a<mid:=by omega
 have hm2:mid<b:=by omega
 have hm3:2*mid≤a+b:=by omega
 have hm4:a+b≤2*mid+1:=by omega
 have mid0:(0:Int)≤(mid:Int):=by omega
 have midI:(mid:Int)≤1000000:=by omega
 rw [hmid] at hq
 clear hmid
 by_cases hgt:mid<m
 · have hgtI:(mid:Int)<(m:Int):=by omega
   obtain ⟨s0,hs0⟩:∃ s0,mid+m - b=s0:=⟨_,rfl⟩
   have HS0:Hid (s0+b=mid+m∧s0≤mid∧a≤s0∧mid≤m):=by refine ⟨?_,?_,?_,?_⟩ <;> omega
   have hz:(mid:Int)+(m:Int) - (b:Int)=(s0:Int):=by omega
   clear hs0
   go_enter Tryz.func112,Tryz.ntmps112
   go_wp2_with fail
   clear hz hq
   go_loopw [20,21] (fun v20 v21 wr=>∃ st r:Nat,v20 = .int .i64 st∧v21 = .int .i64 r∧s0≤st∧st≤r∧r≤mid∧Hid (Sq w0 wr blk cap n d∧(st=s0∨lt key (bAt d (st - 1)) (bAt d (mid+m - st)))∧(r=mid∨lt key (bAt d (mid+m - 1 - r)) (bAt d r)))) (fun v20 v21 _=>(intOf v21).toNat - (intOf v20).toNat)
   case atStart=>exact ⟨s0,mid,rfl,rfl,Nat.le_refl _,by have:=HS0.out;omega,Nat.le_refl _,HS.out,.inl rfl,.inl rfl⟩
   case round=>
    obtain ⟨st,r,rfl,rfl,hs0,hsr,hr0,HF⟩:=hrel
    have i0:(0:Int)≤(st:Int):=by omega
    have j0:(0:Int)≤(r:Int):=by omega
    have iI:(st:Int)≤1000000:=by omega
    have jI:(r:Int)≤1000000:=by omega
    by_cases hlt:st<r
    · have hltI:(st:Int)<(r:Int):=by omega
      go_wp2_with fail
      have hq:((st:Int)+(r:Int)) / 2=(((st+r) / 2:Nat):Int):=by omega
      rw [hq]
      obtain ⟨h,hh⟩:∃ h,(st+r) / 2=h:=⟨_,rfl⟩
      have hih:st≤h:=by omega
      have hhj:h<r:=by omega
      rw [hh]
      clear hq hh
      have h0:(0:Int)≤(h:Int):=by omega
      have hhm:h<m:=by have:=HS0.out;omega
      obtain ⟨p,hp⟩:∃ p,mid+m - 1 - h=p:=⟨_,rfl⟩
      have hpm:m≤p:=by have:=HS0.out;omega
      have hpb:p<b:=by have:=HS0.out;omega
      have hI:(h:Int)<(n:Int):=by omega
      have pq:((mid:Int)+(m:Int) - 1 - (h:Int)).toNat=p:=by omega
      have pq0:(0:Int)≤(mid:Int)+(m:Int) - 1 - (h:Int):=by omega
      have pqI:(mid:Int)+(m:Int) - 1 - (h:Int)<(n:Int):=by omega
      obtain ⟨hsq,hc1,hc2⟩:=HF.out
      have c1:=hsq.cell (j:=h) (by omega)
      have c2:=hsq.cell (j:=p) (by omega)
      have r1:=hsq.r h (by omega)
      have r2:=hsq.r p (by omega)
      have HC1:Hid (∀ q os,Calls Tryz.prog 71 #[.int .i64 (bAt d p),.int .i64 (bAt d h),.pointer (some ⟨bx,0,none⟩)] (Go.Sort.grow (wr.drewN q) os) fun e w'=>e = .returned (.int .i64 (key (bAt d h) - key (bAt d p)))∧Grown (Go.Sort.grow (wr.drewN q) os) w'):=fun q os=>HC.out _ ((hsq.grown ((Grown.refl wr).quiet q os)).f) _ _ r2.1 r2.2 r1.1 r1.2
      have k1:=fun q os=>((Grown.refl wr).quiet q os).cellv c1
      have k2:=fun q os=>((Grown.refl wr).quiet q os).cellv c2
      have hK1:=HK.out (bAt d h)
      have hK2:=HK.out (bAt d p)
      have HSG:=Hid.mk' (fun q os=>hsq.grown ((Grown.refl wr).quiet q os))
      obtain ⟨D,hD⟩:∃ D,key (bAt d h) - key (bAt d p)=D:=⟨_,rfl⟩
      rw [hD] at HC1
      have HY:Hid (D<0→lt key (bAt d (mid+m - 1 - h)) (bAt d h)):=fun hl=>by rw [hp];exact lt_clt (by omega)
      have HN:Hid (¬ D<0→lt key (bAt d (h+1 - 1)) (bAt d (mid+m - (h+1)))):=fun hl=>by
       rw [show mid+m - (h+1)=p by omega,Nat.add_sub_cancel]
       exact lt_not (HX.out h p (by have:=HS0.out;omega) hhm hpm hpb) (by omega)
      have H1:=Hid.mk' hc1
      have H2:=Hid.mk' hc2
      generalize bAt d h=x at c1 HC1 k1
      generalize bAt d p=y at c2 HC1 k2
      clear hsq HF hc1 hc2 hD r1 r2 hK1 hK2 hp
      by_cases hDl:D<0
      · have hDd:decide (D<0)=true:=by simpa using hDl
        have HY2:=Hid.mk' (HY.out hDl)
        clear HY HN
        refine wp_region_quiet_grown mixed (by kernel_rfl) ?_
        repeat (go_big_quiet_step ((go_at_call 71;exact grown_of (HC1.out _ _))))
        refine wpQuiet_nil ?_
        intro _ hw'
        obtain ⟨⟨nq,osq⟩,hw''⟩:=hw'
        subst hw''
        go_wp2
        exact ⟨⟨st,h,rfl,rfl,hs0,hih,by omega,HSG.out _ _,H1.out,.inr HY2.out⟩,by simp [intOf];omega⟩
      · have hDd:decide (D<0)=false:=by simpa using hDl
        have HN2:=Hid.mk' (HN.out hDl)
        clear HY HN
        refine wp_region_quiet_grown mixed (by kernel_rfl) ?_
        repeat (go_big_quiet_step ((go_at_call 71;exact grown_of (HC1.out _ _))))
        refine wpQuiet_nil ?_
        intro _ hw'
        obtain ⟨⟨nq,osq⟩,hw''⟩:=hw'
        subst hw''
        go_wp2
        exact ⟨⟨h+1,r,by go_num,rfl,by omega,by omega,hr0,HSG.out _ _,.inr HN2.out,H2.out⟩,by simp [intOf];omega⟩
    · have hge:¬ (st:Int)<(r:Int):=by omega
      have hjx:st=r:=by omega
      subst hjx
      obtain ⟨hsq,hc1,hc2⟩:=HF.out
      obtain ⟨en,hen⟩:∃ en,mid+m - st=en:=⟨_,rfl⟩
      have hE0:=HS0.out
      have hE1:m≤en:=by omega
      have hE2:en≤b:=by omega
      have hE3:mid=st+(en - m):=by omega
      have hS1:a≤st:=by omega
      have hS2:st≤m:=by omega
      have HC1':Hid (a<st→en<b→lt key (bAt d (st - 1)) (bAt d en)):=fun h1 h2=>by
       rcases hc1 with h | h
       · exfalso;omega
       · rw [hen] at h;exact h
      have HC2':Hid (st<m→m<en→lt key (bAt d (en - 1)) (bAt d st)):=fun h1 h2=>by
       rcases hc2 with h | h
       · exfalso;omega
       · rw [show mid+m - 1 - st=en - 1 by omega] at h;exact h
      have hq2:(mid:Int)+(m:Int) - (st:Int)=(en:Int):=by omega
      have HSQ:=Hid.mk' hsq
      have en0I:(0:Int)≤(en:Int):=by omega
      have enI:(en:Int)≤1000000:=by omega
      have HE3:=Hid.mk' hE3
      clear hE3 HF hsq hc1 hc2 hen hE0
      by_cases g1:st<m
      · have g1I:(st:Int)<(m:Int):=by omega
        have g1d:decide ((st:Int)<(m:Int))=true:=by simpa using g1I
        by_cases g2:m<en
        · have g2I:(m:Int)<(en:Int):=by omega
          have g2d:decide ((m:Int)<(en:Int))=true:=by simpa using g2I
          by_cases f1:a<st
          · have f1I:(a:Int)<(st:Int):=by omega
            have f1d:decide ((a:Int)<(st:Int))=true:=by simpa using f1I
            by_cases f2:st<mid
            · have f2I:(st:Int)<(mid:Int):=by omega
              have f2d:decide ((st:Int)<(mid:Int))=true:=by simpa using f2I
              by_cases f3:mid<en
              · have f3I:(mid:Int)<(en:Int):=by omega
                have f3d:decide ((mid:Int)<(en:Int))=true:=by simpa using f3I
                by_cases f4:en<b
                · have f4I:(en:Int)<(b:Int):=by omega
                  have f4d:decide ((en:Int)<(b:Int))=true:=by simpa using f4I
                  have HR:=Hid.mk' (rotate_any HSQ.out st m en (.func (.func 71) #[] #[.pointer (some ⟨bx,0,none⟩)]) g1 g2 (by omega) hn)
                  go_wp2_with fail
                  refine HR.out.mono ?_
                  rintro e w1 ⟨rfl,d1,hs1,hr1⟩
                  have HS1:=Hid.mk' hs1
                  have HR1:=Hid.mk' hr1
                  clear hs1 hr1 HR
                  have hrl:=rot_left HSA.out HSB.out HX.out hS1 hS2 hE1 hE2 HR1.out
                  rw [←HE3.out] at hrl
                  have HRL:=Hid.mk' hrl
                  clear hrl
                  have HI:=Hid.mk' (IH.out a st mid d1 _ (by omega) f1 f2 (by omega) HS1.out HRL.out.1 HRL.out.2.1 HRL.out.2.2.1)
                  go_wp2_with fail
                  refine HI.out.mono ?_
                  rintro e w2 ⟨rfl,d2,hs2,hm2,hss2⟩
                  have HS2:=Hid.mk' hs2
                  have HM2:=Hid.mk' hm2
                  have HSS2:=Hid.mk' hss2
                  clear hs2 hm2 hss2 HI
                  have HA2:Hid (SS key d2 mid en∧SS key d2 en b∧Hx d2 mid en b):=by
                   have e1:∀ k,mid≤k→bAt d2 k=bAt d1 k:=fun k hk=>HM2.out.o k (by omega)
                   refine ⟨HRL.out.2.2.2.1.same fun k h1 _=>e1 k h1,HRL.out.2.2.2.2.1.same fun k h1 _=>e1 k (by omega),fun i j h1 h2 h3 h4 => ?_⟩
                   rw [e1 i h1,e1 j (by omega)];exact HRL.out.2.2.2.2.2 i j h1 h2 h3 h4
                  have HI:=Hid.mk' (IH.out mid en b d2 _ (by omega) f3 f4 hb HS2.out HA2.out.1 HA2.out.2.1 HA2.out.2.2)
                  go_wp2_with fail
                  refine HI.out.mono ?_
                  rintro e w3 ⟨rfl,d3,hs3,hm3,hss3⟩
                  have HFI:Hid (∃ d',Sq w0 w3 blk cap n d'∧Mix d d' a b∧SS key d' a b):=⟨d3,hs3,sym_done HSA.out HSB.out hS1 hS2 hE1 hE2 HE3.out HC1'.out HC2'.out HR1.out HM2.out HSS2.out hm3 hss3⟩
                  clear hs3 hm3 hss3 HI
                  go_wp2
                  go_end0
                  exact ⟨rfl,HFI.out⟩
                · have f4I:¬ (en:Int)<(b:Int):=by omega
                  have f4d:decide ((en:Int)<(b:Int))=false:=by simpa using f4I
                  have HR:=Hid.mk' (rotate_any HSQ.out st m en (.func (.func 71) #[] #[.pointer (some ⟨bx,0,none⟩)]) g1 g2 (by omega) hn)
                  go_wp2_with fail
                  refine HR.out.mono ?_
                  rintro e w1 ⟨rfl,d1,hs1,hr1⟩
                  have HS1:=Hid.mk' hs1
                  have HR1:=Hid.mk' hr1
                  clear hs1 hr1 HR
                  have hrl:=rot_left HSA.out HSB.out HX.out hS1 hS2 hE1 hE2 HR1.out
                  rw [←HE3.out] at hrl
                  have HRL:=Hid.mk' hrl
                  clear hrl
                  have HI:=Hid.mk' (IH.out a st mid d1 _ (by omega) f1 f2 (by omega) HS1.out HRL.out.1 HRL.out.2.1 HRL.out.2.2.1)
                  go_wp2_with fail
                  refine HI.out.mono ?_
                  rintro e w2 ⟨rfl,d2,hs2,hm2,hss2⟩
                  have HS2:=Hid.mk' hs2
                  have HM2:=Hid.mk' hm2
                  have HSS2:=Hid.mk' hss2
                  clear hs2 hm2 hss2 HI
                  have HA2:Hid (SS key d2 mid en∧SS key d2 en b∧Hx d2 mid en b):=by
                   have e1:∀ k,mid≤k→bAt d2 k=bAt d1 k:=fun k hk=>HM2.out.o k (by omega)
                   refine ⟨HRL.out.2.2.2.1.same fun k h1 _=>e1 k h1,HRL.out.2.2.2.2.1.same fun k h1 _=>e1 k (by omega),fun i j h1 h2 h3 h4 => ?_⟩
                   rw [e1 i h1,e1 j (by omega)];exact HRL.out.2.2.2.2.2 i j h1 h2 h3 h4
                  have HSS3:Hid (SS key d2 mid b):=by
                   by_cases hz:en=mid
                   · have:=HA2.out.2.1;rw [hz] at this;exact this
                   · have:=HA2.out.1;rw [show en=b by omega] at this;exact this
                  have HFI:=Hid.mk' (Exists.intro (p:=fun d'=>Sq w0 _ blk cap n d'∧Mix d d' a b∧SS key d' a b) d2 ⟨HS2.out,sym_done HSA.out HSB.out hS1 hS2 hE1 hE2 HE3.out HC1'.out HC2'.out HR1.out HM2.out HSS2.out (Mix.refl _ _ _) HSS3.out⟩)
                  go_wp2
                  go_end0
                  exact ⟨rfl,HFI.out⟩
              · have f3I:¬ (mid:Int)<(en:Int):=by omega
                have f3d:decide ((mid:Int)<(en:Int))=false:=by simpa using f3I
                have HR:=Hid.mk' (rotate_any HSQ.out st m en (.func (.func 71) #[] #[.pointer (some ⟨bx,0,none⟩)]) g1 g2 (by omega) hn)
                go_wp2_with fail
                refine HR.out.mono ?_
                rintro e w1 ⟨rfl,d1,hs1,hr1⟩
                have HS1:=Hid.mk' hs1
                have HR1:=Hid.mk' hr1
                clear hs1 hr1 HR
                have hrl:=rot_left HSA.out HSB.out HX.out hS1 hS2 hE1 hE2 HR1.out
                rw [←HE3.out] at hrl
                have HRL:=Hid.mk' hrl
                clear hrl
                have HI:=Hid.mk' (IH.out a st mid d1 _ (by omega) f1 f2 (by omega) HS1.out HRL.out.1 HRL.out.2.1 HRL.out.2.2.1)
                go_wp2_with fail
                refine HI.out.mono ?_
                rintro e w2 ⟨rfl,d2,hs2,hm2,hss2⟩
                have HS2:=Hid.mk' hs2
                have HM2:=Hid.mk' hm2
                have HSS2:=Hid.mk' hss2
                clear hs2 hm2 hss2 HI
                have HA2:Hid (SS key d2 mid en∧SS key d2 en b∧Hx d2 mid en b):=by
                 have e1:∀ k,mid≤k→bAt d2 k=bAt d1 k:=fun k hk=>HM2.out.o k (by omega)
                 refine ⟨HRL.out.2.2.2.1.same fun k h1 _=>e1 k h1,HRL.out.2.2.2.2.1.same fun k h1 _=>e1 k (by omega),fun i j h1 h2 h3 h4 => ?_⟩
                 rw [e1 i h1,e1 j (by omega)];exact HRL.out.2.2.2.2.2 i j h1 h2 h3 h4
                have HSS3:Hid (SS key d2 mid b):=by
                 by_cases hz:en=mid
                 · have:=HA2.out.2.1;rw [hz] at this;exact this
                 · have:=HA2.out.1;rw [show en=b by omega] at this;exact this
                have HFI:=Hid.mk' (Exists.intro (p:=fun d'=>Sq w0 _ blk cap n d'∧Mix d d' a b∧SS key d' a b) d2 ⟨HS2.out,sym_done HSA.out HSB.out hS1 hS2 hE1 hE2 HE3.out HC1'.out HC2'.out HR1.out HM2.out HSS2.out (Mix.refl _ _ _) HSS3.out⟩)
                go_wp2
                go_end0
                exact ⟨rfl,HFI.out⟩
            · have f2I:¬ (st:Int)<(mid:Int):=by omega
              have f2d:decide ((st:Int)<(mid:Int))=false:=by simpa using f2I
              by_cases f3:mid<en
              · have f3I:(mid:Int)<(en:Int):=by omega
                have f3d:decide ((mid:Int)<(en:Int))=true:=by simpa using f3I
                by_cases f4:en<b
                · have f4I:(en:Int)<(b:Int):=by omega
                  have f4d:decide ((en:Int)<(b:Int))=true:=by simpa using f4I
                  have HR:=Hid.mk' (rotate_any HSQ.out st m en (.func (.func 71) #[] #[.pointer (some ⟨bx,0,none⟩)]) g1 g2 (by omega) hn)
                  go_wp2_with fail
                  refine HR.out.mono ?_
                  rintro e w1 ⟨rfl,d1,hs1,hr1⟩
                  have HS1:=Hid.mk' hs1
                  have HR1:=Hid.mk' hr1
                  clear hs1 hr1 HR
                  have hrl:=rot_left HSA.out HSB.out HX.out hS1 hS2 hE1 hE2 HR1.out
                  rw [←HE3.out] at hrl
                  have HRL:=Hid.mk' hrl
                  clear hrl
                  have HS2:=HS1
                  have HM2:=Hid.mk' (Mix.refl d1 a mid)
                  have HSS2:Hid (SS key d1 a mid):=by
                   by_cases hz:st=a
                   · have:=HRL.out.2.1;rw [hz] at this;exact this
                   · have:=HRL.out.1;rw [show st=mid by omega] at this;exact this
                  have HA2:Hid (SS key d1 mid en∧SS key d1 en b∧Hx d1 mid en b):=by
                   have e1:∀ k,mid≤k→bAt d1 k=bAt d1 k:=fun k hk=>HM2.out.o k (by omega)
                   refine ⟨HRL.out.2.2.2.1.same fun k h1 _=>e1 k h1,HRL.out.2.2.2.2.1.same fun k h1 _=>e1 k (by omega),fun i j h1 h2 h3 h4 => ?_⟩
                   rw [e1 i h1,e1 j (by omega)];exact HRL.out.2.2.2.2.2 i j h1 h2 h3 h4
                  have HI:=Hid.mk' (IH.out mid en b d1 _ (by omega) f3 f4 hb HS2.out HA2.out.1 HA2.out.2.1 HA2.out.2.2)
                  go_wp2_with fail
                  refine HI.out.mono ?_
                  rintro e w3 ⟨rfl,d3,hs3,hm3,hss3⟩
                  have HFI:Hid (∃ d',Sq w0 w3 blk cap n d'∧Mix d d' a b∧SS key d' a b):=⟨d3,hs3,sym_done HSA.out HSB.out hS1 hS2 hE1 hE2 HE3.out HC1'.out HC2'.out HR1.out HM2.out HSS2.out hm3 hss3⟩
                  clear hs3 hm3 hss3 HI
                  go_wp2
                  go_end0
                  exact ⟨rfl,HFI.out⟩
                · have f4I:¬ (en:Int)<(b:Int):=by omega
                  have f4d:decide ((en:Int)<(b:Int))=false:=by simpa using f4I
                  have HR:=Hid.mk' (rotate_any HSQ.out st m en (.func (.func 71) #[] #[.pointer (some ⟨bx,0,none⟩)]) g1 g2 (by omega) hn)
                  go_wp2_with fail
                  refine HR.out.mono ?_
                  rintro e w1 ⟨rfl,d1,hs1,hr1⟩
                  have HS1:=Hid.mk' hs1
                  have HR1:=Hid.mk' hr1
                  clear hs1 hr1 HR
                  have hrl:=rot_left HSA.out HSB.out HX.out hS1 hS2 hE1 hE2 HR1.out
                  rw [←HE3.out] at hrl
                  have HRL:=Hid.mk' hrl
                  clear hrl
                  have HS2:=HS1
                  have HM2:=Hid.mk' (Mix.refl d1 a mid)
                  have HSS2:Hid (SS key d1 a mid):=by
                   by_cases hz:st=a
                   · have:=HRL.out.2.1;rw [hz] at this;exact this
                   · have:=HRL.out.1;rw [show st=mid by omega] at this;exact this
                  have HA2:Hid (SS key d1 mid en∧SS key d1 en b∧Hx d1 mid en b):=by
                   have e1:∀ k,mid≤k→bAt d1 k=bAt d1 k:=fun k hk=>HM2.out.o k (by omega)
                   refine ⟨HRL.out.2.2.2.1.same fun k h1 _=>e1 k h1,HRL.out.2.2.2.2.1.same fun k h1 _=>e1 k (by omega),fun i j h1 h2 h3 h4 => ?_⟩
                   rw [e1 i h1,e1 j (by omega)];exact HRL.out.2.2.2.2.2 i j h1 h2 h3 h4
                  have HSS3:Hid (SS key d1 mid b):=by
                   by_cases hz:en=mid
                   · have:=HA2.out.2.1;rw [hz] at this;exact this
                   · have:=HA2.out.1;rw [show en=b by omega] at this;exact this
                  have HFI:=Hid.mk' (Exists.intro (p:=fun d'=>Sq w0 _ blk cap n d'∧Mix d d' a b∧SS key d' a b) d1 ⟨HS2.out,sym_done HSA.out HSB.out hS1 hS2 hE1 hE2 HE3.out HC1'.out HC2'.out HR1.out HM2.out HSS2.out (Mix.refl _ _ _) HSS3.out⟩)
                  go_wp2
                  go_end0
                  exact ⟨rfl,HFI.out⟩
              · have f3I:¬ (mid:Int)<(en:Int):=by omega
                have f3d:decide ((mid:Int)<(en:Int))=false:=by simpa using f3I
                have HR:=Hid.mk' (rotate_any HSQ.out st m en (.func (.func 71) #[] #[.pointer (some ⟨bx,0,none⟩)]) g1 g2 (by omega) hn)
                go_wp2_with fail
                refine HR.out.mono ?_
                rintro e w1 ⟨rfl,d1,hs1,hr1⟩
                have HS1:=Hid.mk' hs1
                have HR1:=Hid.mk' hr1
                clear hs1 hr1 HR
                have hrl:=rot_left HSA.out HSB.out HX.out hS1 hS2 hE1 hE2 HR1.out
                rw [←HE3.out] at hrl
                have HRL:=Hid.mk' hrl
                clear hrl
                have HS2:=HS1
                have HM2:=Hid.mk' (Mix.refl d1 a mid)
                have HSS2:Hid (SS key d1 a mid):=by
                 by_cases hz:st=a
                 · have:=HRL.out.2.1;rw [hz] at this;exact this
                 · have:=HRL.out.1;rw [show st=mid by omega] at this;exact this
                have HA2:Hid (SS key d1 mid en∧SS key d1 en b∧Hx d1 mid en b):=by
                 have e1:∀ k,mid≤k→bAt d1 k=bAt d1 k:=fun k hk=>HM2.out.o k (by omega)
                 refine ⟨HRL.out.2.2.2.1.same fun k h1 _=>e1 k h1,HRL.out.2.2.2.2.1.same fun k h1 _=>e1 k (by omega),fun i j h1 h2 h3 h4 => ?_⟩
                 rw [e1 i h1,e1 j (by omega)];exact HRL.out.2.2.2.2.2 i j h1 h2 h3 h4
                have HSS3:Hid (SS key d1 mid b):=by
                 by_cases hz:en=mid
                 · have:=HA2.out.2.1;rw [hz] at this;exact this
                 · have:=HA2.out.1;rw [show en=b by omega] at this;exact this
                have HFI:=Hid.mk' (Exists.intro (p:=fun d'=>Sq w0 _ blk cap n d'∧Mix d d' a b∧SS key d' a b) d1 ⟨HS2.out,sym_done HSA.out HSB.out hS1 hS2 hE1 hE2 HE3.out HC1'.out HC2'.out HR1.out HM2.out HSS2.out (Mix.refl _ _ _) HSS3.out⟩)
                go_wp2
                go_end0
                exact ⟨rfl,HFI.out⟩
          · have f1I:¬ (a:Int)<(st:Int):=by omega
            have f1d:decide ((a:Int)<(st:Int))=false:=by simpa using f1I
            by_cases f3:mid<en
            · have f3I:(mid:Int)<(en:Int):=by omega
              have f3d:decide ((mid:Int)<(en:Int))=true:=by simpa using f3I
              by_cases f4:en<b
              · have f4I:(en:Int)<(b:Int):=by omega
                have f4d:decide ((en:Int)<(b:Int))=true:=by simpa using f4I
                have HR:=Hid.mk' (rotate_any HSQ.out st m en (.func (.func 71) #[] #[.pointer (some ⟨bx,0,none⟩)]) g1 g2 (by omega) hn)
                go_wp2_with fail
                refine HR.out.mono ?_
                rintro e w1 ⟨rfl,d1,hs1,hr1⟩
                have HS1:=Hid.mk' hs1
                have HR1:=Hid.mk' hr1
                clear hs1 hr1 HR
                have hrl:=rot_left HSA.out HSB.out HX.out hS1 hS2 hE1 hE2 HR1.out
                rw [←HE3.out] at hrl
                have HRL:=Hid.mk' hrl
                clear hrl
                have HS2:=HS1
                have HM2:=Hid.mk' (Mix.refl d1 a mid)
                have HSS2:Hid (SS key d1 a mid):=by
                 by_cases hz:st=a
                 · have:=HRL.out.2.1;rw [hz] at this;exact this
                 · have:=HRL.out.1;rw [show st=mid by omega] at this;exact this
                have HA2:Hid (SS key d1 mid en∧SS key d1 en b∧Hx d1 mid en b):=by
                 have e1:∀ k,mid≤k→bAt d1 k=bAt d1 k:=fun k hk=>HM2.out.o k (by omega)
                 refine ⟨HRL.out.2.2.2.1.same fun k h1 _=>e1 k h1,HRL.out.2.2.2.2.1.same fun k h1 _=>e1 k (by omega),fun i j h1 h2 h3 h4 => ?_⟩
                 rw [e1 i h1,e1 j (by omega)];exact HRL.out.2.2.2.2.2 i j h1 h2 h3 h4
                have HI:=Hid.mk' (IH.out mid en b d1 _ (by omega) f3 f4 hb HS2.out HA2.out.1 HA2.out.2.1 HA2.out.2.2)
                go_wp2_with fail
                refine HI.out.mono ?_
                rintro e w3 ⟨rfl,d3,hs3,hm3,hss3⟩
                have HFI:Hid (∃ d',Sq w0 w3 blk cap n d'∧Mix d d' a b∧SS key d' a b):=⟨d3,hs3,sym_done HSA.out HSB.out hS1 hS2 hE1 hE2 HE3.out HC1'.out HC2'.out HR1.out HM2.out HSS2.out hm3 hss3⟩
                clear hs3 hm3 hss3 HI
                go_wp2
                go_end0
                exact ⟨rfl,HFI.out⟩
              · have f4I:¬ (en:Int)<(b:Int):=by omega
                have f4d:decide ((en:Int)<(b:Int))=false:=by simpa using f4I
                have HR:=Hid.mk' (rotate_any HSQ.out st m en (.func (.func 71) #[] #[.pointer (some ⟨bx,0,none⟩)]) g1 g2 (by omega) hn)
                go_wp2_with fail
                refine HR.out.mono ?_
                rintro e w1 ⟨rfl,d1,hs1,hr1⟩
                have HS1:=Hid.mk' hs1
                have HR1:=Hid.mk' hr1
                clear hs1 hr1 HR
                have hrl:=rot_left HSA.out HSB.out HX.out hS1 hS2 hE1 hE2 HR1.out
                rw [←HE3.out] at hrl
                have HRL:=Hid.mk' hrl
                clear hrl
                have HS2:=HS1
                have HM2:=Hid.mk' (Mix.refl d1 a mid)
                have HSS2:Hid (SS key d1 a mid):=by
                 by_cases hz:st=a
                 · have:=HRL.out.2.1;rw [hz] at this;exact this
                 · have:=HRL.out.1;rw [show st=mid by omega] at this;exact this
                have HA2:Hid (SS key d1 mid en∧SS key d1 en b∧Hx d1 mid en b):=by
                 have e1:∀ k,mid≤k→bAt d1 k=bAt d1 k:=fun k hk=>HM2.out.o k (by omega)
                 refine ⟨HRL.out.2.2.2.1.same fun k h1 _=>e1 k h1,HRL.out.2.2.2.2.1.same fun k h1 _=>e1 k (by omega),fun i j h1 h2 h3 h4 => ?_⟩
                 rw [e1 i h1,e1 j (by omega)];exact HRL.out.2.2.2.2.2 i j h1 h2 h3 h4
                have HSS3:Hid (SS key d1 mid b):=by
                 by_cases hz:en=mid
                 · have:=HA2.out.2.1;rw [hz] at this;exact this
                 · have:=HA2.out.1;rw [show en=b by omega] at this;exact this
                have HFI:=Hid.mk' (Exists.intro (p:=fun d'=>Sq w0 _ blk cap n d'∧Mix d d' a b∧SS key d' a b) d1 ⟨HS2.out,sym_done HSA.out HSB.out hS1 hS2 hE1 hE2 HE3.out HC1'.out HC2'.out HR1.out HM2.out HSS2.out (Mix.refl _ _ _) HSS3.out⟩)
                go_wp2
                go_end0
                exact ⟨rfl,HFI.out⟩
            · have f3I:¬ (mid:Int)<(en:Int):=by omega
              have f3d:decide ((mid:Int)<(en:Int))=false:=by simpa using f3I
              have HR:=Hid.mk' (rotate_any HSQ.out st m en (.func (.func 71) #[] #[.pointer (some ⟨bx,0,none⟩)]) g1 g2 (by omega) hn)
              go_wp2_with fail
              refine HR.out.mono ?_
              rintro e w1 ⟨rfl,d1,hs1,hr1⟩
              have HS1:=Hid.mk' hs1
              have HR1:=Hid.mk' hr1
              clear hs1 hr1 HR
              have hrl:=rot_left HSA.out HSB.out HX.out hS1 hS2 hE1 hE2 HR1.out
              rw [←HE3.out] at hrl
              have HRL:=Hid.mk' hrl
              clear hrl
              have HS2:=HS1
              have HM2:=Hid.mk' (Mix.refl d1 a mid)
              have HSS2:Hid (SS key d1 a mid):=by
               by_cases hz:st=a
               · have:=HRL.out.2.1;rw [hz] at this;exact this
               · have:=HRL.out.1;rw [show st=mid by omega] at this;exact this
              have HA2:Hid (SS key d1 mid en∧SS key d1 en b∧Hx d1 mid en b):=by
               have e1:∀ k,mid≤k→bAt d1 k=bAt d1 k:=fun k hk=>HM2.out.o k (by omega)
               refine ⟨HRL.out.2.2.2.1.same fun k h1 _=>e1 k h1,HRL.out.2.2.2.2.1.same fun k h1 _=>e1 k (by omega),fun i j h1 h2 h3 h4 => ?_⟩
               rw [e1 i h1,e1 j (by omega)];exact HRL.out.2.2.2.2.2 i j h1 h2 h3 h4
              have HSS3:Hid (SS key d1 mid b):=by
               by_cases hz:en=mid
               · have:=HA2.out.2.1;rw [hz] at this;exact this
               · have:=HA2.out.1;rw [show en=b by omega] at this;exact this
              have HFI:=Hid.mk' (Exists.intro (p:=fun d'=>Sq w0 _ blk cap n d'∧Mix d d' a b∧SS key d' a b) d1 ⟨HS2.out,sym_done HSA.out HSB.out hS1 hS2 hE1 hE2 HE3.out HC1'.out HC2'.out HR1.out HM2.out HSS2.out (Mix.refl _ _ _) HSS3.out⟩)
              go_wp2
              go_end0
              exact ⟨rfl,HFI.out⟩
        · have g2I:¬ (m:Int)<(en:Int):=by omega
          have g2d:decide ((m:Int)<(en:Int))=false:=by simpa using g2I
          by_cases f1:a<st
          · have f1I:(a:Int)<(st:Int):=by omega
            have f1d:decide ((a:Int)<(st:Int))=true:=by simpa using f1I
            by_cases f2:st<mid
            · have f2I:(st:Int)<(mid:Int):=by omega
              have f2d:decide ((st:Int)<(mid:Int))=true:=by simpa using f2I
              by_cases f3:mid<en
              · have f3I:(mid:Int)<(en:Int):=by omega
                have f3d:decide ((mid:Int)<(en:Int))=true:=by simpa using f3I
                by_cases f4:en<b
                · have f4I:(en:Int)<(b:Int):=by omega
                  have f4d:decide ((en:Int)<(b:Int))=true:=by simpa using f4I
                  have HS1:=HSQ
                  have HR1:Hid (Rot d d st m en):=rot_none (by omega) (by omega) (by omega)
                  have hrl:=rot_left HSA.out HSB.out HX.out hS1 hS2 hE1 hE2 HR1.out
                  rw [←HE3.out] at hrl
                  have HRL:=Hid.mk' hrl
                  clear hrl
                  have HI:=Hid.mk' (IH.out a st mid d _ (by omega) f1 f2 (by omega) HS1.out HRL.out.1 HRL.out.2.1 HRL.out.2.2.1)
                  go_wp2_with fail
                  refine HI.out.mono ?_
                  rintro e w2 ⟨rfl,d2,hs2,hm2,hss2⟩
                  have HS2:=Hid.mk' hs2
                  have HM2:=Hid.mk' hm2
                  have HSS2:=Hid.mk' hss2
                  clear hs2 hm2 hss2 HI
                  have HA2:Hid (SS key d2 mid en∧SS key d2 en b∧Hx d2 mid en b):=by
                   have e1:∀ k,mid≤k→bAt d2 k=bAt d k:=fun k hk=>HM2.out.o k (by omega)
                   refine ⟨HRL.out.2.2.2.1.same fun k h1 _=>e1 k h1,HRL.out.2.2.2.2.1.same fun k h1 _=>e1 k (by omega),fun i j h1 h2 h3 h4 => ?_⟩
                   rw [e1 i h1,e1 j (by omega)];exact HRL.out.2.2.2.2.2 i j h1 h2 h3 h4
                  have HI:=Hid.mk' (IH.out mid en b d2 _ (by omega) f3 f4 hb HS2.out HA2.out.1 HA2.out.2.1 HA2.out.2.2)
                  go_wp2_with fail
                  refine HI.out.mono ?_
                  rintro e w3 ⟨rfl,d3,hs3,hm3,hss3⟩
                  have HFI:Hid (∃ d',Sq w0 w3 blk cap n d'∧Mix d d' a b∧SS key d' a b):=⟨d3,hs3,sym_done HSA.out HSB.out hS1 hS2 hE1 hE2 HE3.out HC1'.out HC2'.out HR1.out HM2.out HSS2.out hm3 hss3⟩
                  clear hs3 hm3 hss3 HI
                  go_wp2
                  go_end0
                  exact ⟨rfl,HFI.out⟩
                · have f4I:¬ (en:Int)<(b:Int):=by omega
                  have f4d:decide ((en:Int)<(b:Int))=false:=by simpa using f4I
                  have HS1:=HSQ
                  have HR1:Hid (Rot d d st m en):=rot_none (by omega) (by omega) (by omega)
                  have hrl:=rot_left HSA.out HSB.out HX.out hS1 hS2 hE1 hE2 HR1.out
                  rw [←HE3.out] at hrl
                  have HRL:=Hid.mk' hrl
                  clear hrl
                  have HI:=Hid.mk' (IH.out a st mid d _ (by omega) f1 f2 (by omega) HS1.out HRL.out.1 HRL.out.2.1 HRL.out.2.2.1)
                  go_wp2_with fail
                  refine HI.out.mono ?_
                  rintro e w2 ⟨rfl,d2,hs2,hm2,hss2⟩
                  have HS2:=Hid.mk' hs2
                  have HM2:=Hid.mk' hm2
                  have HSS2:=Hid.mk' hss2
                  clear hs2 hm2 hss2 HI
                  have HA2:Hid (SS key d2 mid en∧SS key d2 en b∧Hx d2 mid en b):=by
                   have e1:∀ k,mid≤k→bAt d2 k=bAt d k:=fun k hk=>HM2.out.o k (by omega)
                   refine ⟨HRL.out.2.2.2.1.same fun k h1 _=>e1 k h1,HRL.out.2.2.2.2.1.same fun k h1 _=>e1 k (by omega),fun i j h1 h2 h3 h4 => ?_⟩
                   rw [e1 i h1,e1 j (by omega)];exact HRL.out.2.2.2.2.2 i j h1 h2 h3 h4
                  have HSS3:Hid (SS key d2 mid b):=by
                   by_cases hz:en=mid
                   · have:=HA2.out.2.1;rw [hz] at this;exact this
                   · have:=HA2.out.1;rw [show en=b by omega] at this;exact this
                  have HFI:=Hid.mk' (Exists.intro (p:=fun d'=>Sq w0 _ blk cap n d'∧Mix d d' a b∧SS key d' a b) d2 ⟨HS2.out,sym_done HSA.out HSB.out hS1 hS2 hE1 hE2 HE3.out HC1'.out HC2'.out HR1.out HM2.out HSS2.out (Mix.refl _ _ _) HSS3.out⟩)
                  go_wp2
                  go_end0
                  exact ⟨rfl,HFI.out⟩
              · have f3I:¬ (mid:Int)<(en:Int):=by omega
                have f3d:decide ((mid:Int)<(en:Int))=false:=by simpa using f3I
                have HS1:=HSQ
                have HR1:Hid (Rot d d st m en):=rot_none (by omega) (by omega) (by omega)
                have hrl:=rot_left HSA.out HSB.out HX.out hS1 hS2 hE1 hE2 HR1.out
                rw [←HE3.out] at hrl
                have HRL:=Hid.mk' hrl
                clear hrl
                have HI:=Hid.mk' (IH.out a st mid d _ (by omega) f1 f2 (by omega) HS1.out HRL.out.1 HRL.out.2.1 HRL.out.2.2.1)
                go_wp2_with fail
                refine HI.out.mono ?_
                rintro e w2 ⟨rfl,d2,hs2,hm2,hss2⟩
                have HS2:=Hid.mk' hs2
                have HM2:=Hid.mk' hm2
                have HSS2:=Hid.mk' hss2
                clear hs2 hm2 hss2 HI
                have HA2:Hid (SS key d2 mid en∧SS key d2 en b∧Hx d2 mid en b):=by
                 have e1:∀ k,mid≤k→bAt d2 k=bAt d k:=fun k hk=>HM2.out.o k (by omega)
                 refine ⟨HRL.out.2.2.2.1.same fun k h1 _=>e1 k h1,HRL.out.2.2.2.2.1.same fun k h1 _=>e1 k (by omega),fun i j h1 h2 h3 h4 => ?_⟩
                 rw [e1 i h1,e1 j (by omega)];exact HRL.out.2.2.2.2.2 i j h1 h2 h3 h4
                have HSS3:Hid (SS key d2 mid b):=by
                 by_cases hz:en=mid
                 · have:=HA2.out.2.1;rw [hz] at this;exact this
                 · have:=HA2.out.1;rw [show en=b by omega] at this;exact this
                have HFI:=Hid.mk' (Exists.intro (p:=fun d'=>Sq w0 _ blk cap n d'∧Mix d d' a b∧SS key d' a b) d2 ⟨HS2.out,sym_done HSA.out HSB.out hS1 hS2 hE1 hE2 HE3.out HC1'.out HC2'.out HR1.out HM2.out HSS2.out (Mix.refl _ _ _) HSS3.out⟩)
                go_wp2
                go_end0
                exact ⟨rfl,HFI.out⟩
            · have f2I:¬ (st:Int)<(mid:Int):=by omega
              have f2d:decide ((st:Int)<(mid:Int))=false:=by simpa using f2I
              by_cases f3:mid<en
              · have f3I:(mid:Int)<(en:Int):=by omega
                have f3d:decide ((mid:Int)<(en:Int))=true:=by simpa using f3I
                by_cases f4:en<b
                · have f4I:(en:Int)<(b:Int):=by omega
                  have f4d:decide ((en:Int)<(b:Int))=true:=by simpa using f4I
                  have HS1:=HSQ
                  have HR1:Hid (Rot d d st m en):=rot_none (by omega) (by omega) (by omega)
                  have hrl:=rot_left HSA.out HSB.out HX.out hS1 hS2 hE1 hE2 HR1.out
                  rw [←HE3.out] at hrl
                  have HRL:=Hid.mk' hrl
                  clear hrl
                  have HS2:=HS1
                  have HM2:=Hid.mk' (Mix.refl d a mid)
                  have HSS2:Hid (SS key d a mid):=by
                   by_cases hz:st=a
                   · have:=HRL.out.2.1;rw [hz] at this;exact this
                   · have:=HRL.out.1;rw [show st=mid by omega] at this;exact this
                  have HA2:Hid (SS key d mid en∧SS key d en b∧Hx d mid en b):=by
                   have e1:∀ k,mid≤k→bAt d k=bAt d k:=fun k hk=>HM2.out.o k (by omega)
                   refine ⟨HRL.out.2.2.2.1.same fun k h1 _=>e1 k h1,HRL.out.2.2.2.2.1.same fun k h1 _=>e1 k (by omega),fun i j h1 h2 h3 h4 => ?_⟩
                   rw [e1 i h1,e1 j (by omega)];exact HRL.out.2.2.2.2.2 i j h1 h2 h3 h4
                  have HI:=Hid.mk' (IH.out mid en b d _ (by omega) f3 f4 hb HS2.out HA2.out.1 HA2.out.2.1 HA2.out.2.2)
                  go_wp2_with fail
                  refine HI.out.mono ?_
                  rintro e w3 ⟨rfl,d3,hs3,hm3,hss3⟩
                  have HFI:Hid (∃ d',Sq w0 w3 blk cap n d'∧Mix d d' a b∧SS key d' a b):=⟨d3,hs3,sym_done HSA.out HSB.out hS1 hS2 hE1 hE2 HE3.out HC1'.out HC2'.out HR1.out HM2.out HSS2.out hm3 hss3⟩
                  clear hs3 hm3 hss3 HI
                  go_wp2
                  go_end0
                  exact ⟨rfl,HFI.out⟩
                · have f4I:¬ (en:Int)<(b:Int):=by omega
                  have f4d:decide ((en:Int)<(b:Int))=false:=by simpa using f4I
                  have HS1:=HSQ
                  have HR1:Hid (Rot d d st m en):=rot_none (by omega) (by omega) (by omega)
                  have hrl:=rot_left HSA.out HSB.out HX.out hS1 hS2 hE1 hE2 HR1.out
                  rw [←HE3.out] at hrl
                  have HRL:=Hid.mk' hrl
                  clear hrl
                  have HS2:=HS1
                  have HM2:=Hid.mk' (Mix.refl d a mid)
                  have HSS2:Hid (SS key d a mid):=by
                   by_cases hz:st=a
                   · have:=HRL.out.2.1;rw [hz] at this;exact this
                   · have:=HRL.out.1;rw [show st=mid by omega] at this;exact this
                  have HA2:Hid (SS key d mid en∧SS key d en b∧Hx d mid en b):=by
                   have e1:∀ k,mid≤k→bAt d k=bAt d k:=fun k hk=>HM2.out.o k (by omega)
                   refine ⟨HRL.out.2.2.2.1.same fun k h1 _=>e1 k h1,HRL.out.2.2.2.2.1.same fun k h1 _=>e1 k (by omega),fun i j h1 h2 h3 h4 => ?_⟩
                   rw [e1 i h1,e1 j (by omega)];exact HRL.out.2.2.2.2.2 i j h1 h2 h3 h4
                  have HSS3:Hid (SS key d mid b):=by
                   by_cases hz:en=mid
                   · have:=HA2.out.2.1;rw [hz] at this;exact this
                   · have:=HA2.out.1;rw [show en=b by omega] at this;exact this
                  have HFI:=Hid.mk' (Exists.intro (p:=fun d'=>Sq w0 _ blk cap n d'∧Mix d d' a b∧SS key d' a b) d ⟨HS2.out,sym_done HSA.out HSB.out hS1 hS2 hE1 hE2 HE3.out HC1'.out HC2'.out HR1.out HM2.out HSS2.out (Mix.refl _ _ _) HSS3.out⟩)
                  go_wp2
                  go_end0
                  exact ⟨rfl,HFI.out⟩
              · have f3I:¬ (mid:Int)<(en:Int):=by omega
                have f3d:decide ((mid:Int)<(en:Int))=false:=by simpa using f3I
                have HS1:=HSQ
                have HR1:Hid (Rot d d st m en):=rot_none (by omega) (by omega) (by omega)
                have hrl:=rot_left HSA.out HSB.out HX.out hS1 hS2 hE1 hE2 HR1.out
                rw [←HE3.out] at hrl
                have HRL:=Hid.mk' hrl
                clear hrl
                have HS2:=HS1
                have HM2:=Hid.mk' (Mix.refl d a mid)
                have HSS2:Hid (SS key d a mid):=by
                 by_cases hz:st=a
                 · have:=HRL.out.2.1;rw [hz] at this;exact this
                 · have:=HRL.out.1;rw [show st=mid by omega] at this;exact this
                have HA2:Hid (SS key d mid en∧SS key d en b∧Hx d mid en b):=by
                 have e1:∀ k,mid≤k→bAt d k=bAt d k:=fun k hk=>HM2.out.o k (by omega)
                 refine ⟨HRL.out.2.2.2.1.same fun k h1 _=>e1 k h1,HRL.out.2.2.2.2.1.same fun k h1 _=>e1 k (by omega),fun i j h1 h2 h3 h4 => ?_⟩
                 rw [e1 i h1,e1 j (by omega)];exact HRL.out.2.2.2.2.2 i j h1 h2 h3 h4
                have HSS3:Hid (SS key d mid b):=by
                 by_cases hz:en=mid
                 · have:=HA2.out.2.1;rw [hz] at this;exact this
                 · have:=HA2.out.1;rw [show en=b by omega] at this;exact this
                have HFI:=Hid.mk' (Exists.intro (p:=fun d'=>Sq w0 _ blk cap n d'∧Mix d d' a b∧SS key d' a b) d ⟨HS2.out,sym_done HSA.out HSB.out hS1 hS2 hE1 hE2 HE3.out HC1'.out HC2'.out HR1.out HM2.out HSS2.out (Mix.refl _ _ _) HSS3.out⟩)
                go_wp2
                go_end0
                exact ⟨rfl,HFI.out⟩
          · have f1I:¬ (a:Int)<(st:Int):=by omega
            have f1d:decide ((a:Int)<(st:Int))=false:=by simpa using f1I
            by_cases f3:mid<en
            · have f3I:(mid:Int)<(en:Int):=by omega
              have f3d:decide ((mid:Int)<(en:Int))=true:=by simpa using f3I
              by_cases f4:en<b
              · have f4I:(en:Int)<(b:Int):=by omega
                have f4d:decide ((en:Int)<(b:Int))=true:=by simpa using f4I
                have HS1:=HSQ
                have HR1:Hid (Rot d d st m en):=rot_none (by omega) (by omega) (by omega)
                have hrl:=rot_left HSA.out HSB.out HX.out hS1 hS2 hE1 hE2 HR1.out
                rw [←HE3.out] at hrl
                have HRL:=Hid.mk' hrl
                clear hrl
                have HS2:=HS1
                have HM2:=Hid.mk' (Mix.refl d a mid)
                have HSS2:Hid (SS key d a mid):=by
                 by_cases hz:st=a
                 · have:=HRL.out.2.1;rw [hz] at this;exact this
                 · have:=HRL.out.1;rw [show st=mid by omega] at this;exact this
                have HA2:Hid (SS key d mid en∧SS key d en b∧Hx d mid en b):=by
                 have e1:∀ k,mid≤k→bAt d k=bAt d k:=fun k hk=>HM2.out.o k (by omega)
                 refine ⟨HRL.out.2.2.2.1.same fun k h1 _=>e1 k h1,HRL.out.2.2.2.2.1.same fun k h1 _=>e1 k (by omega),fun i j h1 h2 h3 h4 => ?_⟩
                 rw [e1 i h1,e1 j (by omega)];exact HRL.out.2.2.2.2.2 i j h1 h2 h3 h4
                have HI:=Hid.mk' (IH.out mid en b d _ (by omega) f3 f4 hb HS2.out HA2.out.1 HA2.out.2.1 HA2.out.2.2)
                go_wp2_with fail
                refine HI.out.mono ?_
                rintro e w3 ⟨rfl,d3,hs3,hm3,hss3⟩
                have HFI:Hid (∃ d',Sq w0 w3 blk cap n d'∧Mix d d' a b∧SS key d' a b):=⟨d3,hs3,sym_done HSA.out HSB.out hS1 hS2 hE1 hE2 HE3.out HC1'.out HC2'.out HR1.out HM2.out HSS2.out hm3 hss3⟩
                clear hs3 hm3 hss3 HI
                go_wp2
                go_end0
                exact ⟨rfl,HFI.out⟩
              · have f4I:¬ (en:Int)<(b:Int):=by omega
                have f4d:decide ((en:Int)<(b:Int))=false:=by simpa using f4I
                have HS1:=HSQ
                have HR1:Hid (Rot d d st m en):=rot_none (by omega) (by omega) (by omega)
                have hrl:=rot_left HSA.out HSB.out HX.out hS1 hS2 hE1 hE2 HR1.out
                rw [←HE3.out] at hrl
                have HRL:=Hid.mk' hrl
                clear hrl
                have HS2:=HS1
                have HM2:=Hid.mk' (Mix.refl d a mid)
                have HSS2:Hid (SS key d a mid):=by
                 by_cases hz:st=a
                 · have:=HRL.out.2.1;rw [hz] at this;exact this
                 · have:=HRL.out.1;rw [show st=mid by omega] at this;exact this
                have HA2:Hid (SS key d mid en∧SS key d en b∧Hx d mid en b):=by
                 have e1:∀ k,mid≤k→bAt d k=bAt d k:=fun k hk=>HM2.out.o k (by omega)
                 refine ⟨HRL.out.2.2.2.1.same fun k h1 _=>e1 k h1,HRL.out.2.2.2.2.1.same fun k h1 _=>e1 k (by omega),fun i j h1 h2 h3 h4 => ?_⟩
                 rw [e1 i h1,e1 j (by omega)];exact HRL.out.2.2.2.2.2 i j h1 h2 h3 h4
                have HSS3:Hid (SS key d mid b):=by
                 by_cases hz:en=mid
                 · have:=HA2.out.2.1;rw [hz] at this;exact this
                 · have:=HA2.out.1;rw [show en=b by omega] at this;exact this
                have HFI:=Hid.mk' (Exists.intro (p:=fun d'=>Sq w0 _ blk cap n d'∧Mix d d' a b∧SS key d' a b) d ⟨HS2.out,sym_done HSA.out HSB.out hS1 hS2 hE1 hE2 HE3.out HC1'.out HC2'.out HR1.out HM2.out HSS2.out (Mix.refl _ _ _) HSS3.out⟩)
                go_wp2
                go_end0
                exact ⟨rfl,HFI.out⟩
            · have f3I:¬ (mid:Int)<(en:Int):=by omega
              have f3d:decide ((mid:Int)<(en:Int))=false:=by simpa using f3I
              have HS1:=HSQ
              have HR1:Hid (Rot d d st m en):=rot_none (by omega) (by omega) (by omega)
              have hrl:=rot_left HSA.out HSB.out HX.out hS1 hS2 hE1 hE2 HR1.out
              rw [←HE3.out] at hrl
              have HRL:=Hid.mk' hrl
              clear hrl
              have HS2:=HS1
              have HM2:=Hid.mk' (Mix.refl d a mid)
              have HSS2:Hid (SS key d a mid):=by
               by_cases hz:st=a
               · have:=HRL.out.2.1;rw [hz] at this;exact this
               · have:=HRL.out.1;rw [show st=mid by omega] at this;exact this
              have HA2:Hid (SS key d mid en∧SS key d en b∧Hx d mid en b):=by
               have e1:∀ k,mid≤k→bAt d k=bAt d k:=fun k hk=>HM2.out.o k (by omega)
               refine ⟨HRL.out.2.2.2.1.same fun k h1 _=>e1 k h1,HRL.out.2.2.2.2.1.same fun k h1 _=>e1 k (by omega),fun i j h1 h2 h3 h4 => ?_⟩
               rw [e1 i h1,e1 j (by omega)];exact HRL.out.2.2.2.2.2 i j h1 h2 h3 h4
              have HSS3:Hid (SS key d mid b):=by
               by_cases hz:en=mid
               · have:=HA2.out.2.1;rw [hz] at this;exact this
               · have:=HA2.out.1;rw [show en=b by omega] at this;exact this
              have HFI:=Hid.mk' (Exists.intro (p:=fun d'=>Sq w0 _ blk cap n d'∧Mix d d' a b∧SS key d' a b) d ⟨HS2.out,sym_done HSA.out HSB.out hS1 hS2 hE1 hE2 HE3.out HC1'.out HC2'.out HR1.out HM2.out HSS2.out (Mix.refl _ _ _) HSS3.out⟩)
              go_wp2
              go_end0
              exact ⟨rfl,HFI.out⟩
      · have g1I:¬ (st:Int)<(m:Int):=by omega
        have g1d:decide ((st:Int)<(m:Int))=false:=by simpa using g1I
        by_cases f1:a<st
        · have f1I:(a:Int)<(st:Int):=by omega
          have f1d:decide ((a:Int)<(st:Int))=true:=by simpa using f1I
          by_cases f2:st<mid
          · have f2I:(st:Int)<(mid:Int):=by omega
            have f2d:decide ((st:Int)<(mid:Int))=true:=by simpa using f2I
            by_cases f3:mid<en
            · have f3I:(mid:Int)<(en:Int):=by omega
              have f3d:decide ((mid:Int)<(en:Int))=true:=by simpa using f3I
              by_cases f4:en<b
              · have f4I:(en:Int)<(b:Int):=by omega
                have f4d:decide ((en:Int)<(b:Int))=true:=by simpa using f4I
                have HS1:=HSQ
                have HR1:Hid (Rot d d st m en):=rot_none (by omega) (by omega) (by omega)
                have hrl:=rot_left HSA.out HSB.out HX.out hS1 hS2 hE1 hE2 HR1.out
                rw [←HE3.out] at hrl
                have HRL:=Hid.mk' hrl
                clear hrl
                have HI:=Hid.mk' (IH.out a st mid d _ (by omega) f1 f2 (by omega) HS1.out HRL.out.1 HRL.out.2.1 HRL.out.2.2.1)
                go_wp2_with fail
                refine HI.out.mono ?_
                rintro e w2 ⟨rfl,d2,hs2,hm2,hss2⟩
                have HS2:=Hid.mk' hs2
                have HM2:=Hid.mk' hm2
                have HSS2:=Hid.mk' hss2
                clear hs2 hm2 hss2 HI
                have HA2:Hid (SS key d2 mid en∧SS key d2 en b∧Hx d2 mid en b):=by
                 have e1:∀ k,mid≤k→bAt d2 k=bAt d k:=fun k hk=>HM2.out.o k (by omega)
                 refine ⟨HRL.out.2.2.2.1.same fun k h1 _=>e1 k h1,HRL.out.2.2.2.2.1.same fun k h1 _=>e1 k (by omega),fun i j h1 h2 h3 h4 => ?_⟩
                 rw [e1 i h1,e1 j (by omega)];exact HRL.out.2.2.2.2.2 i j h1 h2 h3 h4
                have HI:=Hid.mk' (IH.out mid en b d2 _ (by omega) f3 f4 hb HS2.out HA2.out.1 HA2.out.2.1 HA2.out.2.2)
                go_wp2_with fail
                refine HI.out.mono ?_
                rintro e w3 ⟨rfl,d3,hs3,hm3,hss3⟩
                have HFI:Hid (∃ d',Sq w0 w3 blk cap n d'∧Mix d d' a b∧SS key d' a b):=⟨d3,hs3,sym_done HSA.out HSB.out hS1 hS2 hE1 hE2 HE3.out HC1'.out HC2'.out HR1.out HM2.out HSS2.out hm3 hss3⟩
                clear hs3 hm3 hss3 HI
                go_wp2
                go_end0
                exact ⟨rfl,HFI.out⟩
              · have f4I:¬ (en:Int)<(b:Int):=by omega
                have f4d:decide ((en:Int)<(b:Int))=false:=by simpa using f4I
                have HS1:=HSQ
                have HR1:Hid (Rot d d st m en):=rot_none (by omega) (by omega) (by omega)
                have hrl:=rot_left HSA.out HSB.out HX.out hS1 hS2 hE1 hE2 HR1.out
                rw [←HE3.out] at hrl
                have HRL:=Hid.mk' hrl
                clear hrl
                have HI:=Hid.mk' (IH.out a st mid d _ (by omega) f1 f2 (by omega) HS1.out HRL.out.1 HRL.out.2.1 HRL.out.2.2.1)
                go_wp2_with fail
                refine HI.out.mono ?_
                rintro e w2 ⟨rfl,d2,hs2,hm2,hss2⟩
                have HS2:=Hid.mk' hs2
                have HM2:=Hid.mk' hm2
                have HSS2:=Hid.mk' hss2
                clear hs2 hm2 hss2 HI
                have HA2:Hid (SS key d2 mid en∧SS key d2 en b∧Hx d2 mid en b):=by
                 have e1:∀ k,mid≤k→bAt d2 k=bAt d k:=fun k hk=>HM2.out.o k (by omega)
                 refine ⟨HRL.out.2.2.2.1.same fun k h1 _=>e1 k h1,HRL.out.2.2.2.2.1.same fun k h1 _=>e1 k (by omega),fun i j h1 h2 h3 h4 => ?_⟩
                 rw [e1 i h1,e1 j (by omega)];exact HRL.out.2.2.2.2.2 i j h1 h2 h3 h4
                have HSS3:Hid (SS key d2 mid b):=by
                 by_cases hz:en=mid
                 · have:=HA2.out.2.1;rw [hz] at this;exact this
                 · have:=HA2.out.1;rw [show en=b by omega] at this;exact this
                have HFI:=Hid.mk' (Exists.intro (p:=fun d'=>Sq w0 _ blk cap n d'∧Mix d d' a b∧SS key d' a b) d2 ⟨HS2.out,sym_done HSA.out HSB.out hS1 hS2 hE1 hE2 HE3.out HC1'.out HC2'.out HR1.out HM2.out HSS2.out (Mix.refl _ _ _) HSS3.out⟩)
                go_wp2
                go_end0
                exact ⟨rfl,HFI.out⟩
            · have f3I:¬ (mid:Int)<(en:Int):=by omega
              have f3d:decide ((mid:Int)<(en:Int))=false:=by simpa using f3I
              have HS1:=HSQ
              have HR1:Hid (Rot d d st m en):=rot_none (by omega) (by omega) (by omega)
              have hrl:=rot_left HSA.out HSB.out HX.out hS1 hS2 hE1 hE2 HR1.out
              rw [←HE3.out] at hrl
              have HRL:=Hid.mk' hrl
              clear hrl
              have HI:=Hid.mk' (IH.out a st mid d _ (by omega) f1 f2 (by omega) HS1.out HRL.out.1 HRL.out.2.1 HRL.out.2.2.1)
              go_wp2_with fail
              refine HI.out.mono ?_
              rintro e w2 ⟨rfl,d2,hs2,hm2,hss2⟩
              have HS2:=Hid.mk' hs2
              have HM2:=Hid.mk' hm2
              have HSS2:=Hid.mk' hss2
              clear hs2 hm2 hss2 HI
              have HA2:Hid (SS key d2 mid en∧SS key d2 en b∧Hx d2 mid en b):=by
               have e1:∀ k,mid≤k→bAt d2 k=bAt d k:=fun k hk=>HM2.out.o k (by omega)
               refine ⟨HRL.out.2.2.2.1.same fun k h1 _=>e1 k h1,HRL.out.2.2.2.2.1.same fun k h1 _=>e1 k (by omega),fun i j h1 h2 h3 h4 => ?_⟩
               rw [e1 i h1,e1 j (by omega)];exact HRL.out.2.2.2.2.2 i j h1 h2 h3 h4
              have HSS3:Hid (SS key d2 mid b):=by
               by_cases hz:en=mid
               · have:=HA2.out.2.1;rw [hz] at this;exact this
               · have:=HA2.out.1;rw [show en=b by omega] at this;exact this
              have HFI:=Hid.mk' (Exists.intro (p:=fun d'=>Sq w0 _ blk cap n d'∧Mix d d' a b∧SS key d' a b) d2 ⟨HS2.out,sym_done HSA.out HSB.out hS1 hS2 hE1 hE2 HE3.out HC1'.out HC2'.out HR1.out HM2.out HSS2.out (Mix.refl _ _ _) HSS3.out⟩)
              go_wp2
              go_end0
              exact ⟨rfl,HFI.out⟩
          · have f2I:¬ (st:Int)<(mid:Int):=by omega
            have f2d:decide ((st:Int)<(mid:Int))=false:=by simpa using f2I
            by_cases f3:mid<en
            · have f3I:(mid:Int)<(en:Int):=by omega
              have f3d:decide ((mid:Int)<(en:Int))=true:=by simpa using f3I
              by_cases f4:en<b
              · have f4I:(en:Int)<(b:Int):=by omega
                have f4d:decide ((en:Int)<(b:Int))=true:=by simpa using f4I
                have HS1:=HSQ
                have HR1:Hid (Rot d d st m en):=rot_none (by omega) (by omega) (by omega)
                have hrl:=rot_left HSA.out HSB.out HX.out hS1 hS2 hE1 hE2 HR1.out
                rw [←HE3.out] at hrl
                have HRL:=Hid.mk' hrl
                clear hrl
                have HS2:=HS1
                have HM2:=Hid.mk' (Mix.refl d a mid)
                have HSS2:Hid (SS key d a mid):=by
                 by_cases hz:st=a
                 · have:=HRL.out.2.1;rw [hz] at this;exact this
                 · have:=HRL.out.1;rw [show st=mid by omega] at this;exact this
                have HA2:Hid (SS key d mid en∧SS key d en b∧Hx d mid en b):=by
                 have e1:∀ k,mid≤k→bAt d k=bAt d k:=fun k hk=>HM2.out.o k (by omega)
                 refine ⟨HRL.out.2.2.2.1.same fun k h1 _=>e1 k h1,HRL.out.2.2.2.2.1.same fun k h1 _=>e1 k (by omega),fun i j h1 h2 h3 h4 => ?_⟩
                 rw [e1 i h1,e1 j (by omega)];exact HRL.out.2.2.2.2.2 i j h1 h2 h3 h4
                have HI:=Hid.mk' (IH.out mid en b d _ (by omega) f3 f4 hb HS2.out HA2.out.1 HA2.out.2.1 HA2.out.2.2)
                go_wp2_with fail
                refine HI.out.mono ?_
                rintro e w3 ⟨rfl,d3,hs3,hm3,hss3⟩
                have HFI:Hid (∃ d',Sq w0 w3 blk cap n d'∧Mix d d' a b∧SS key d' a b):=⟨d3,hs3,sym_done HSA.out HSB.out hS1 hS2 hE1 hE2 HE3.out HC1'.out HC2'.out HR1.out HM2.out HSS2.out hm3 hss3⟩
                clear hs3 hm3 hss3 HI
                go_wp2
                go_end0
                exact ⟨rfl,HFI.out⟩
              · have f4I:¬ (en:Int)<(b:Int):=by omega
                have f4d:decide ((en:Int)<(b:Int))=false:=by simpa using f4I
                have HS1:=HSQ
                have HR1:Hid (Rot d d st m en):=rot_none (by omega) (by omega) (by omega)
                have hrl:=rot_left HSA.out HSB.out HX.out hS1 hS2 hE1 hE2 HR1.out
                rw [←HE3.out] at hrl
                have HRL:=Hid.mk' hrl
                clear hrl
                have HS2:=HS1
                have HM2:=Hid.mk' (Mix.refl d a mid)
                have HSS2:Hid (SS key d a mid):=by
                 by_cases hz:st=a
                 · have:=HRL.out.2.1;rw [hz] at this;exact this
                 · have:=HRL.out.1;rw [show st=mid by omega] at this;exact this
                have HA2:Hid (SS key d mid en∧SS key d en b∧Hx d mid en b):=by
                 have e1:∀ k,mid≤k→bAt d k=bAt d k:=fun k hk=>HM2.out.o k (by omega)
                 refine ⟨HRL.out.2.2.2.1.same fun k h1 _=>e1 k h1,HRL.out.2.2.2.2.1.same fun k h1 _=>e1 k (by omega),fun i j h1 h2 h3 h4 => ?_⟩
                 rw [e1 i h1,e1 j (by omega)];exact HRL.out.2.2.2.2.2 i j h1 h2 h3 h4
                have HSS3:Hid (SS key d mid b):=by
                 by_cases hz:en=mid
                 · have:=HA2.out.2.1;rw [hz] at this;exact this
                 · have:=HA2.out.1;rw [show en=b by omega] at this;exact this
                have HFI:=Hid.mk' (Exists.intro (p:=fun d'=>Sq w0 _ blk cap n d'∧Mix d d' a b∧SS key d' a b) d ⟨HS2.out,sym_done HSA.out HSB.out hS1 hS2 hE1 hE2 HE3.out HC1'.out HC2'.out HR1.out HM2.out HSS2.out (Mix.refl _ _ _) HSS3.out⟩)
                go_wp2
                go_end0
                exact ⟨rfl,HFI.out⟩
            · have f3I:¬ (mid:Int)<(en:Int):=by omega
              have f3d:decide ((mid:Int)<(en:Int))=false:=by simpa using f3I
              have HS1:=HSQ
              have HR1:Hid (Rot d d st m en):=rot_none (by omega) (by omega) (by omega)
              have hrl:=rot_left HSA.out HSB.out HX.out hS1 hS2 hE1 hE2 HR1.out
              rw [←HE3.out] at hrl
              have HRL:=Hid.mk' hrl
              clear hrl
              have HS2:=HS1
              have HM2:=Hid.mk' (Mix.refl d a mid)
              have HSS2:Hid (SS key d a mid):=by
               by_cases hz:st=a
               · have:=HRL.out.2.1;rw [hz] at this;exact this
               · have:=HRL.out.1;rw [show st=mid by omega] at this;exact this
              have HA2:Hid (SS key d mid en∧SS key d en b∧Hx d mid en b):=by
               have e1:∀ k,mid≤k→bAt d k=bAt d k:=fun k hk=>HM2.out.o k (by omega)
               refine ⟨HRL.out.2.2.2.1.same fun k h1 _=>e1 k h1,HRL.out.2.2.2.2.1.same fun k h1 _=>e1 k (by omega),fun i j h1 h2 h3 h4 => ?_⟩
               rw [e1 i h1,e1 j (by omega)];exact HRL.out.2.2.2.2.2 i j h1 h2 h3 h4
              have HSS3:Hid (SS key d mid b):=by
               by_cases hz:en=mid
               · have:=HA2.out.2.1;rw [hz] at this;exact this
               · have:=HA2.out.1;rw [show en=b by omega] at this;exact this
              have HFI:=Hid.mk' (Exists.intro (p:=fun d'=>Sq w0 _ blk cap n d'∧Mix d d' a b∧SS key d' a b) d ⟨HS2.out,sym_done HSA.out HSB.out hS1 hS2 hE1 hE2 HE3.out HC1'.out HC2'.out HR1.out HM2.out HSS2.out (Mix.refl _ _ _) HSS3.out⟩)
              go_wp2
              go_end0
              exact ⟨rfl,HFI.out⟩
        · have f1I:¬ (a:Int)<(st:Int):=by omega
          have f1d:decide ((a:Int)<(st:Int))=false:=by simpa using f1I
          by_cases f3:mid<en
          · have f3I:(mid:Int)<(en:Int):=by omega
            have f3d:decide ((mid:Int)<(en:Int))=true:=by simpa using f3I
            by_cases f4:en<b
            · have f4I:(en:Int)<(b:Int):=by omega
              have f4d:decide ((en:Int)<(b:Int))=true:=by simpa using f4I
              have HS1:=HSQ
              have HR1:Hid (Rot d d st m en):=rot_none (by omega) (by omega) (by omega)
              have hrl:=rot_left HSA.out HSB.out HX.out hS1 hS2 hE1 hE2 HR1.out
              rw [←HE3.out] at hrl
              have HRL:=Hid.mk' hrl
              clear hrl
              have HS2:=HS1
              have HM2:=Hid.mk' (Mix.refl d a mid)
              have HSS2:Hid (SS key d a mid):=by
               by_cases hz:st=a
               · have:=HRL.out.2.1;rw [hz] at this;exact this
               · have:=HRL.out.1;rw [show st=mid by omega] at this;exact this
              have HA2:Hid (SS key d mid en∧SS key d en b∧Hx d mid en b):=by
               have e1:∀ k,mid≤k→bAt d k=bAt d k:=fun k hk=>HM2.out.o k (by omega)
               refine ⟨HRL.out.2.2.2.1.same fun k h1 _=>e1 k h1,HRL.out.2.2.2.2.1.same fun k h1 _=>e1 k (by omega),fun i j h1 h2 h3 h4 => ?_⟩
               rw [e1 i h1,e1 j (by omega)];exact HRL.out.2.2.2.2.2 i j h1 h2 h3 h4
              have HI:=Hid.mk' (IH.out mid en b d _ (by omega) f3 f4 hb HS2.out HA2.out.1 HA2.out.2.1 HA2.out.2.2)
              go_wp2_with fail
              refine HI.out.mono ?_
              rintro e w3 ⟨rfl,d3,hs3,hm3,hss3⟩
              have HFI:Hid (∃ d',Sq w0 w3 blk cap n d'∧Mix d d' a b∧SS key d' a b):=⟨d3,hs3,sym_done HSA.out HSB.out hS1 hS2 hE1 hE2 HE3.out HC1'.out HC2'.out HR1.out HM2.out HSS2.out hm3 hss3⟩
              clear hs3 hm3 hss3 HI
              go_wp2
              go_end0
              exact ⟨rfl,HFI.out⟩
            · have f4I:¬ (en:Int)<(b:Int):=by omega
              have f4d:decide ((en:Int)<(b:Int))=false:=by simpa using f4I
              have HS1:=HSQ
              have HR1:Hid (Rot d d st m en):=rot_none (by omega) (by omega) (by omega)
              have hrl:=rot_left HSA.out HSB.out HX.out hS1 hS2 hE1 hE2 HR1.out
              rw [←HE3.out] at hrl
              have HRL:=Hid.mk' hrl
              clear hrl
              have HS2:=HS1
              have HM2:=Hid.mk' (Mix.refl d a mid)
              have HSS2:Hid (SS key d a mid):=by
               by_cases hz:st=a
               · have:=HRL.out.2.1;rw [hz] at this;exact this
               · have:=HRL.out.1;rw [show st=mid by omega] at this;exact this
              have HA2:Hid (SS key d mid en∧SS key d en b∧Hx d mid en b):=by
               have e1:∀ k,mid≤k→bAt d k=bAt d k:=fun k hk=>HM2.out.o k (by omega)
               refine ⟨HRL.out.2.2.2.1.same fun k h1 _=>e1 k h1,HRL.out.2.2.2.2.1.same fun k h1 _=>e1 k (by omega),fun i j h1 h2 h3 h4 => ?_⟩
               rw [e1 i h1,e1 j (by omega)];exact HRL.out.2.2.2.2.2 i j h1 h2 h3 h4
              have HSS3:Hid (SS key d mid b):=by
               by_cases hz:en=mid
               · have:=HA2.out.2.1;rw [hz] at this;exact this
               · have:=HA2.out.1;rw [show en=b by omega] at this;exact this
              have HFI:=Hid.mk' (Exists.intro (p:=fun d'=>Sq w0 _ blk cap n d'∧Mix d d' a b∧SS key d' a b) d ⟨HS2.out,sym_done HSA.out HSB.out hS1 hS2 hE1 hE2 HE3.out HC1'.out HC2'.out HR1.out HM2.out HSS2.out (Mix.refl _ _ _) HSS3.out⟩)
              go_wp2
              go_end0
              exact ⟨rfl,HFI.out⟩
          · have f3I:¬ (mid:Int)<(en:Int):=by omega
            have f3d:decide ((mid:Int)<(en:Int))=false:=by simpa using f3I
            have HS1:=HSQ
            have HR1:Hid (Rot d d st m en):=rot_none (by omega) (by omega) (by omega)
            have hrl:=rot_left HSA.out HSB.out HX.out hS1 hS2 hE1 hE2 HR1.out
            rw [←HE3.out] at hrl
            have HRL:=Hid.mk' hrl
            clear hrl
            have HS2:=HS1
            have HM2:=Hid.mk' (Mix.refl d a mid)
            have HSS2:Hid (SS key d a mid):=by
             by_cases hz:st=a
             · have:=HRL.out.2.1;rw [hz] at this;exact this
             · have:=HRL.out.1;rw [show st=mid by omega] at this;exact this
            have HA2:Hid (SS key d mid en∧SS key d en b∧Hx d mid en b):=by
             have e1:∀ k,mid≤k→bAt d k=bAt d k:=fun k hk=>HM2.out.o k (by omega)
             refine ⟨HRL.out.2.2.2.1.same fun k h1 _=>e1 k h1,HRL.out.2.2.2.2.1.same fun k h1 _=>e1 k (by omega),fun i j h1 h2 h3 h4 => ?_⟩
             rw [e1 i h1,e1 j (by omega)];exact HRL.out.2.2.2.2.2 i j h1 h2 h3 h4
            have HSS3:Hid (SS key d mid b):=by
             by_cases hz:en=mid
             · have:=HA2.out.2.1;rw [hz] at this;exact this
             · have:=HA2.out.1;rw [show en=b by omega] at this;exact this
            have HFI:=Hid.mk' (Exists.intro (p:=fun d'=>Sq w0 _ blk cap n d'∧Mix d d' a b∧SS key d' a b) d ⟨HS2.out,sym_done HSA.out HSB.out hS1 hS2 hE1 hE2 HE3.out HC1'.out HC2'.out HR1.out HM2.out HSS2.out (Mix.refl _ _ _) HSS3.out⟩)
            go_wp2
            go_end0
            exact ⟨rfl,HFI.out⟩
 · have hgtI:¬ (mid:Int)<(m:Int):=by omega
   have HS0:Hid (a≤m∧m≤mid):=⟨by omega,by omega⟩
   go_enter Tryz.func112,Tryz.ntmps112
   go_wp2_with fail
   clear hq
   go_loopw [20,21] (fun v20 v21 wr=>∃ st r:Nat,v20 = .int .i64 st∧v21 = .int .i64 r∧a≤st∧st≤r∧r≤m∧Hid (Sq w0 wr blk cap n d∧(st=a∨lt key (bAt d (st - 1)) (bAt d (mid+m - st)))∧(r=m∨lt key (bAt d (mid+m - 1 - r)) (bAt d r)))) (fun v20 v21 _=>(intOf v21).toNat - (intOf v20).toNat)
   case atStart=>exact ⟨a,m,rfl,rfl,Nat.le_refl _,by have:=HS0.out;omega,Nat.le_refl _,HS.out,.inl rfl,.inl rfl⟩
   case round=>
    obtain ⟨st,r,rfl,rfl,hs0,hsr,hr0,HF⟩:=hrel
    have i0:(0:Int)≤(st:Int):=by omega
    have j0:(0:Int)≤(r:Int):=by omega
    have iI:(st:Int)≤1000000:=by omega
    have jI:(r:Int)≤1000000:=by omega
    by_cases hlt:st<r
    · have hltI:(st:Int)<(r:Int):=by omega
      go_wp2_with fail
      have hq:((st:Int)+(r:Int)) / 2=(((st+r) / 2:Nat):Int):=by omega
      rw [hq]
      obtain ⟨h,hh⟩:∃ h,(st+r) / 2=h:=⟨_,rfl⟩
      have hih:st≤h:=by omega
      have hhj:h<r:=by omega
      rw [hh]
      clear hq hh
      have h0:(0:Int)≤(h:Int):=by omega
      have hhm:h<m:=by have:=HS0.out;omega
      obtain ⟨p,hp⟩:∃ p,mid+m - 1 - h=p:=⟨_,rfl⟩
      have hpm:m≤p:=by have:=HS0.out;omega
      have hpb:p<b:=by have:=HS0.out;omega
      have hI:(h:Int)<(n:Int):=by omega
      have pq:((mid:Int)+(m:Int) - 1 - (h:Int)).toNat=p:=by omega
      have pq0:(0:Int)≤(mid:Int)+(m:Int) - 1 - (h:Int):=by omega
      have pqI:(mid:Int)+(m:Int) - 1 - (h:Int)<(n:Int):=by omega
      obtain ⟨hsq,hc1,hc2⟩:=HF.out
      have c1:=hsq.cell (j:=h) (by omega)
      have c2:=hsq.cell (j:=p) (by omega)
      have r1:=hsq.r h (by omega)
      have r2:=hsq.r p (by omega)
      have HC1:Hid (∀ q os,Calls Tryz.prog 71 #[.int .i64 (bAt d p),.int .i64 (bAt d h),.pointer (some ⟨bx,0,none⟩)] (Go.Sort.grow (wr.drewN q) os) fun e w'=>e = .returned (.int .i64 (key (bAt d h) - key (bAt d p)))∧Grown (Go.Sort.grow (wr.drewN q) os) w'):=fun q os=>HC.out _ ((hsq.grown ((Grown.refl wr).quiet q os)).f) _ _ r2.1 r2.2 r1.1 r1.2
      have k1:=fun q os=>((Grown.refl wr).quiet q os).cellv c1
      have k2:=fun q os=>((Grown.refl wr).quiet q os).cellv c2
      have hK1:=HK.out (bAt d h)
      have hK2:=HK.out (bAt d p)
      have HSG:=Hid.mk' (fun q os=>hsq.grown ((Grown.refl wr).quiet q os))
      obtain ⟨D,hD⟩:∃ D,key (bAt d h) - key (bAt d p)=D:=⟨_,rfl⟩
      rw [hD] at HC1
      have HY:Hid (D<0→lt key (bAt d (mid+m - 1 - h)) (bAt d h)):=fun hl=>by rw [hp];exact lt_clt (by omega)
      have HN:Hid (¬ D<0→lt key (bAt d (h+1 - 1)) (bAt d (mid+m - (h+1)))):=fun hl=>by
       rw [show mid+m - (h+1)=p by omega,Nat.add_sub_cancel]
       exact lt_not (HX.out h p (by have:=HS0.out;omega) hhm hpm hpb) (by omega)
      have H1:=Hid.mk' hc1
      have H2:=Hid.mk' hc2
      generalize bAt d h=x at c1 HC1 k1
      generalize bAt d p=y at c2 HC1 k2
      clear hsq HF hc1 hc2 hD r1 r2 hK1 hK2 hp
      by_cases hDl:D<0
      · have hDd:decide (D<0)=true:=by simpa using hDl
        have HY2:=Hid.mk' (HY.out hDl)
        clear HY HN
        refine wp_region_quiet_grown mixed (by kernel_rfl) ?_
        repeat (go_big_quiet_step ((go_at_call 71;exact grown_of (HC1.out _ _))))
        refine wpQuiet_nil ?_
        intro _ hw'
        obtain ⟨⟨nq,osq⟩,hw''⟩:=hw'
        subst hw''
        go_wp2
        exact ⟨⟨st,h,rfl,rfl,hs0,hih,by omega,HSG.out _ _,H1.out,.inr HY2.out⟩,by simp [intOf];omega⟩
      · have hDd:decide (D<0)=false:=by simpa using hDl
        have HN2:=Hid.mk' (HN.out hDl)
        clear HY HN
        refine wp_region_quiet_grown mixed (by kernel_rfl) ?_
        repeat (go_big_quiet_step ((go_at_call 71;exact grown_of (HC1.out _ _))))
        refine wpQuiet_nil ?_
        intro _ hw'
        obtain ⟨⟨nq,osq⟩,hw''⟩:=hw'
        subst hw''
        go_wp2
        exact ⟨⟨h+1,r,by go_num,rfl,by omega,by omega,hr0,HSG.out _ _,.inr HN2.out,H2.out⟩,by simp [intOf];omega⟩
    · have hge:¬ (st:Int)<(r:Int):=by omega
      have hjx:st=r:=by omega
      subst hjx
      obtain ⟨hsq,hc1,hc2⟩:=HF.out
      obtain ⟨en,hen⟩:∃ en,mid+m - st=en:=⟨_,rfl⟩
      have hE0:=HS0.out
      have hE1:m≤en:=by omega
      have hE2:en≤b:=by omega
      have hE3:mid=st+(en - m):=by omega
      have hS1:a≤st:=by omega
      have hS2:st≤m:=by omega
      have HC1':Hid (a<st→en<b→lt key (bAt d (st - 1)) (bAt d en)):=fun h1 h2=>by
       rcases hc1 with h | h
       · exfalso;omega
       · rw [hen] at h;exact h
      have HC2':Hid (st<m→m<en→lt key (bAt d (en - 1)) (bAt d st)):=fun h1 h2=>by
       rcases hc2 with h | h
       · exfalso;omega
       · rw [show mid+m - 1 - st=en - 1 by omega] at h;exact h
      have hq2:(mid:Int)+(m:Int) - (st:Int)=(en:Int):=by omega
      have HSQ:=Hid.mk' hsq
      have en0I:(0:Int)≤(en:Int):=by omega
      have enI:(en:Int)≤1000000:=by omega
      have HE3:=Hid.mk' hE3
      clear hE3 HF hsq hc1 hc2 hen hE0
      by_cases g1:st<m
      · have g1I:(st:Int)<(m:Int):=by omega
        have g1d:decide ((st:Int)<(m:Int))=true:=by simpa using g1I
        by_cases g2:m<en
        · have g2I:(m:Int)<(en:Int):=by omega
          have g2d:decide ((m:Int)<(en:Int))=true:=by simpa using g2I
          by_cases f1:a<st
          · have f1I:(a:Int)<(st:Int):=by omega
            have f1d:decide ((a:Int)<(st:Int))=true:=by simpa using f1I
            by_cases f2:st<mid
            · have f2I:(st:Int)<(mid:Int):=by omega
              have f2d:decide ((st:Int)<(mid:Int))=true:=by simpa using f2I
              by_cases f3:mid<en
              · have f3I:(mid:Int)<(en:Int):=by omega
                have f3d:decide ((mid:Int)<(en:Int))=true:=by simpa using f3I
                by_cases f4:en<b
                · have f4I:(en:Int)<(b:Int):=by omega
                  have f4d:decide ((en:Int)<(b:Int))=true:=by simpa using f4I
                  have HR:=Hid.mk' (rotate_any HSQ.out st m en (.func (.func 71) #[] #[.pointer (some ⟨bx,0,none⟩)]) g1 g2 (by omega) hn)
                  go_wp2_with fail
                  refine HR.out.mono ?_
                  rintro e w1 ⟨rfl,d1,hs1,hr1⟩
                  have HS1:=Hid.mk' hs1
                  have HR1:=Hid.mk' hr1
                  clear hs1 hr1 HR
                  have hrl:=rot_left HSA.out HSB.out HX.out hS1 hS2 hE1 hE2 HR1.out
                  rw [←HE3.out] at hrl
                  have HRL:=Hid.mk' hrl
                  clear hrl
                  have HI:=Hid.mk' (IH.out a st mid d1 _ (by omega) f1 f2 (by omega) HS1.out HRL.out.1 HRL.out.2.1 HRL.out.2.2.1)
                  go_wp2_with fail
                  refine HI.out.mono ?_
                  rintro e w2 ⟨rfl,d2,hs2,hm2,hss2⟩
                  have HS2:=Hid.mk' hs2
                  have HM2:=Hid.mk' hm2
                  have HSS2:=Hid.mk' hss2
                  clear hs2 hm2 hss2 HI
                  have HA2:Hid (SS key d2 mid en∧SS key d2 en b∧Hx d2 mid en b):=by
                   have e1:∀ k,mid≤k→bAt d2 k=bAt d1 k:=fun k hk=>HM2.out.o k (by omega)
                   refine ⟨HRL.out.2.2.2.1.same fun k h1 _=>e1 k h1,HRL.out.2.2.2.2.1.same fun k h1 _=>e1 k (by omega),fun i j h1 h2 h3 h4 => ?_⟩
                   rw [e1 i h1,e1 j (by omega)];exact HRL.out.2.2.2.2.2 i j h1 h2 h3 h4
                  have HI:=Hid.mk' (IH.out mid en b d2 _ (by omega) f3 f4 hb HS2.out HA2.out.1 HA2.out.2.1 HA2.out.2.2)
                  go_wp2_with fail
                  refine HI.out.mono ?_
                  rintro e w3 ⟨rfl,d3,hs3,hm3,hss3⟩
                  have HFI:Hid (∃ d',Sq w0 w3 blk cap n d'∧Mix d d' a b∧SS key d' a b):=⟨d3,hs3,sym_done HSA.out HSB.out hS1 hS2 hE1 hE2 HE3.out HC1'.out HC2'.out HR1.out HM2.out HSS2.out hm3 hss3⟩
                  clear hs3 hm3 hss3 HI
                  go_wp2
                  go_end0
                  exact ⟨rfl,HFI.out⟩
                · have f4I:¬ (en:Int)<(b:Int):=by omega
                  have f4d:decide ((en:Int)<(b:Int))=false:=by simpa using f4I
                  have HR:=Hid.mk' (rotate_any HSQ.out st m en (.func (.func 71) #[] #[.pointer (some ⟨bx,0,none⟩)]) g1 g2 (by omega) hn)
                  go_wp2_with fail
                  refine HR.out.mono ?_
                  rintro e w1 ⟨rfl,d1,hs1,hr1⟩
                  have HS1:=Hid.mk' hs1
                  have HR1:=Hid.mk' hr1
                  clear hs1 hr1 HR
                  have hrl:=rot_left HSA.out HSB.out HX.out hS1 hS2 hE1 hE2 HR1.out
                  rw [←HE3.out] at hrl
                  have HRL:=Hid.mk' hrl
                  clear hrl
                  have HI:=Hid.mk' (IH.out a st mid d1 _ (by omega) f1 f2 (by omega) HS1.out HRL.out.1 HRL.out.2.1 HRL.out.2.2.1)
                  go_wp2_with fail
                  refine HI.out.mono ?_
                  rintro e w2 ⟨rfl,d2,hs2,hm2,hss2⟩
                  have HS2:=Hid.mk' hs2
                  have HM2:=Hid.mk' hm2
                  have HSS2:=Hid.mk' hss2
                  clear hs2 hm2 hss2 HI
                  have HA2:Hid (SS key d2 mid en∧SS key d2 en b∧Hx d2 mid en b):=by
                   have e1:∀ k,mid≤k→bAt d2 k=bAt d1 k:=fun k hk=>HM2.out.o k (by omega)
                   refine ⟨HRL.out.2.2.2.1.same fun k h1 _=>e1 k h1,HRL.out.2.2.2.2.1.same fun k h1 _=>e1 k (by omega),fun i j h1 h2 h3 h4 => ?_⟩
                   rw [e1 i h1,e1 j (by omega)];exact HRL.out.2.2.2.2.2 i j h1 h2 h3 h4
                  have HSS3:Hid (SS key d2 mid b):=by
                   by_cases hz:en=mid
                   · have:=HA2.out.2.1;rw [hz] at this;exact this
                   · have:=HA2.out.1;rw [show en=b by omega] at this;exact this
                  have HFI:=Hid.mk' (Exists.intro (p:=fun d'=>Sq w0 _ blk cap n d'∧Mix d d' a b∧SS key d' a b) d2 ⟨HS2.out,sym_done HSA.out HSB.out hS1 hS2 hE1 hE2 HE3.out HC1'.out HC2'.out HR1.out HM2.out HSS2.out (Mix.refl _ _ _) HSS3.out⟩)
                  go_wp2
                  go_end0
                  exact ⟨rfl,HFI.out⟩
              · have f3I:¬ (mid:Int)<(en:Int):=by omega
                have f3d:decide ((mid:Int)<(en:Int))=false:=by simpa using f3I
                have HR:=Hid.mk' (rotate_any HSQ.out st m en (.func (.func 71) #[] #[.pointer (some ⟨bx,0,none⟩)]) g1 g2 (by omega) hn)
                go_wp2_with fail
                refine HR.out.mono ?_
                rintro e w1 ⟨rfl,d1,hs1,hr1⟩
                have HS1:=Hid.mk' hs1
                have HR1:=Hid.mk' hr1
                clear hs1 hr1 HR
                have hrl:=rot_left HSA.out HSB.out HX.out hS1 hS2 hE1 hE2 HR1.out
                rw [←HE3.out] at hrl
                have HRL:=Hid.mk' hrl
                clear hrl
                have HI:=Hid.mk' (IH.out a st mid d1 _ (by omega) f1 f2 (by omega) HS1.out HRL.out.1 HRL.out.2.1 HRL.out.2.2.1)
                go_wp2_with fail
                refine HI.out.mono ?_
                rintro e w2 ⟨rfl,d2,hs2,hm2,hss2⟩
                have HS2:=Hid.mk' hs2
                have HM2:=Hid.mk' hm2
                have HSS2:=Hid.mk' hss2
                clear hs2 hm2 hss2 HI
                have HA2:Hid (SS key d2 mid en∧SS key d2 en b∧Hx d2 mid en b):=by
                 have e1:∀ k,mid≤k→bAt d2 k=bAt d1 k:=fun k hk=>HM2.out.o k (by omega)
                 refine ⟨HRL.out.2.2.2.1.same fun k h1 _=>e1 k h1,HRL.out.2.2.2.2.1.same fun k h1 _=>e1 k (by omega),fun i j h1 h2 h3 h4 => ?_⟩
                 rw [e1 i h1,e1 j (by omega)];exact HRL.out.2.2.2.2.2 i j h1 h2 h3 h4
                have HSS3:Hid (SS key d2 mid b):=by
                 by_cases hz:en=mid
                 · have:=HA2.out.2.1;rw [hz] at this;exact this
                 · have:=HA2.out.1;rw [show en=b by omega] at this;exact this
                have HFI:=Hid.mk' (Exists.intro (p:=fun d'=>Sq w0 _ blk cap n d'∧Mix d d' a b∧SS key d' a b) d2 ⟨HS2.out,sym_done HSA.out HSB.out hS1 hS2 hE1 hE2 HE3.out HC1'.out HC2'.out HR1.out HM2.out HSS2.out (Mix.refl _ _ _) HSS3.out⟩)
                go_wp2
                go_end0
                exact ⟨rfl,HFI.out⟩
            · have f2I:¬ (st:Int)<(mid:Int):=by omega
              have f2d:decide ((st:Int)<(mid:Int))=false:=by simpa using f2I
              by_cases f3:mid<en
              · have f3I:(mid:Int)<(en:Int):=by omega
                have f3d:decide ((mid:Int)<(en:Int))=true:=by simpa using f3I
                by_cases f4:en<b
                · have f4I:(en:Int)<(b:Int):=by omega
                  have f4d:decide ((en:Int)<(b:Int))=true:=by simpa using f4I
                  have HR:=Hid.mk' (rotate_any HSQ.out st m en (.func (.func 71) #[] #[.pointer (some ⟨bx,0,none⟩)]) g1 g2 (by omega) hn)
                  go_wp2_with fail
                  refine HR.out.mono ?_
                  rintro e w1 ⟨rfl,d1,hs1,hr1⟩
                  have HS1:=Hid.mk' hs1
                  have HR1:=Hid.mk' hr1
                  clear hs1 hr1 HR
                  have hrl:=rot_left HSA.out HSB.out HX.out hS1 hS2 hE1 hE2 HR1.out
                  rw [←HE3.out] at hrl
                  have HRL:=Hid.mk' hrl
                  clear hrl
                  have HS2:=HS1
                  have HM2:=Hid.mk' (Mix.refl d1 a mid)
                  have HSS2:Hid (SS key d1 a mid):=by
                   by_cases hz:st=a
                   · have:=HRL.out.2.1;rw [hz] at this;exact this
                   · have:=HRL.out.1;rw [show st=mid by omega] at this;exact this
                  have HA2:Hid (SS key d1 mid en∧SS key d1 en b∧Hx d1 mid en b):=by
                   have e1:∀ k,mid≤k→bAt d1 k=bAt d1 k:=fun k hk=>HM2.out.o k (by omega)
                   refine ⟨HRL.out.2.2.2.1.same fun k h1 _=>e1 k h1,HRL.out.2.2.2.2.1.same fun k h1 _=>e1 k (by omega),fun i j h1 h2 h3 h4 => ?_⟩
                   rw [e1 i h1,e1 j (by omega)];exact HRL.out.2.2.2.2.2 i j h1 h2 h3 h4
                  have HI:=Hid.mk' (IH.out mid en b d1 _ (by omega) f3 f4 hb HS2.out HA2.out.1 HA2.out.2.1 HA2.out.2.2)
                  go_wp2_with fail
                  refine HI.out.mono ?_
                  rintro e w3 ⟨rfl,d3,hs3,hm3,hss3⟩
                  have HFI:Hid (∃ d',Sq w0 w3 blk cap n d'∧Mix d d' a b∧SS key d' a b):=⟨d3,hs3,sym_done HSA.out HSB.out hS1 hS2 hE1 hE2 HE3.out HC1'.out HC2'.out HR1.out HM2.out HSS2.out hm3 hss3⟩
                  clear hs3 hm3 hss3 HI
                  go_wp2
                  go_end0
                  exact ⟨rfl,HFI.out⟩
                · have f4I:¬ (en:Int)<(b:Int):=by omega
                  have f4d:decide ((en:Int)<(b:Int))=false:=by simpa using f4I
                  have HR:=Hid.mk' (rotate_any HSQ.out st m en (.func (.func 71) #[] #[.pointer (some ⟨bx,0,none⟩)]) g1 g2 (by omega) hn)
                  go_wp2_with fail
                  refine HR.out.mono ?_
                  rintro e w1 ⟨rfl,d1,hs1,hr1⟩
                  have HS1:=Hid.mk' hs1
                  have HR1:=Hid.mk' hr1
                  clear hs1 hr1 HR
                  have hrl:=rot_left HSA.out HSB.out HX.out hS1 hS2 hE1 hE2 HR1.out
                  rw [←HE3.out] at hrl
                  have HRL:=Hid.mk' hrl
                  clear hrl
                  have HS2:=HS1
                  have HM2:=Hid.mk' (Mix.refl d1 a mid)
                  have HSS2:Hid (SS key d1 a mid):=by
                   by_cases hz:st=a
                   · have:=HRL.out.2.1;rw [hz] at this;exact this
                   · have:=HRL.out.1;rw [show st=mid by omega] at this;exact this
                  have HA2:Hid (SS key d1 mid en∧SS key d1 en b∧Hx d1 mid en b):=by
                   have e1:∀ k,mid≤k→bAt d1 k=bAt d1 k:=fun k hk=>HM2.out.o k (by omega)
                   refine ⟨HRL.out.2.2.2.1.same fun k h1 _=>e1 k h1,HRL.out.2.2.2.2.1.same fun k h1 _=>e1 k (by omega),fun i j h1 h2 h3 h4 => ?_⟩
                   rw [e1 i h1,e1 j (by omega)];exact HRL.out.2.2.2.2.2 i j h1 h2 h3 h4
                  have HSS3:Hid (SS key d1 mid b):=by
                   by_cases hz:en=mid
                   · have:=HA2.out.2.1;rw [hz] at this;exact this
                   · have:=HA2.out.1;rw [show en=b by omega] at this;exact this
                  have HFI:=Hid.mk' (Exists.intro (p:=fun d'=>Sq w0 _ blk cap n d'∧Mix d d' a b∧SS key d' a b) d1 ⟨HS2.out,sym_done HSA.out HSB.out hS1 hS2 hE1 hE2 HE3.out HC1'.out HC2'.out HR1.out HM2.out HSS2.out (Mix.refl _ _ _) HSS3.out⟩)
                  go_wp2
                  go_end0
                  exact ⟨rfl,HFI.out⟩
              · have f3I:¬ (mid:Int)<(en:Int):=by omega
                have f3d:decide ((mid:Int)<(en:Int))=false:=by simpa using f3I
                have HR:=Hid.mk' (rotate_any HSQ.out st m en (.func (.func 71) #[] #[.pointer (some ⟨bx,0,none⟩)]) g1 g2 (by omega) hn)
                go_wp2_with fail
                refine HR.out.mono ?_
                rintro e w1 ⟨rfl,d1,hs1,hr1⟩
                have HS1:=Hid.mk' hs1
                have HR1:=Hid.mk' hr1
                clear hs1 hr1 HR
                have hrl:=rot_left HSA.out HSB.out HX.out hS1 hS2 hE1 hE2 HR1.out
                rw [←HE3.out] at hrl
                have HRL:=Hid.mk' hrl
                clear hrl
                have HS2:=HS1
                have HM2:=Hid.mk' (Mix.refl d1 a mid)
                have HSS2:Hid (SS key d1 a mid):=by
                 by_cases hz:st=a
                 · have:=HRL.out.2.1;rw [hz] at this;exact this
                 · have:=HRL.out.1;rw [show st=mid by omega] at this;exact this
                have HA2:Hid (SS key d1 mid en∧SS key d1 en b∧Hx d1 mid en b):=by
                 have e1:∀ k,mid≤k→bAt d1 k=bAt d1 k:=fun k hk=>HM2.out.o k (by omega)
                 refine ⟨HRL.out.2.2.2.1.same fun k h1 _=>e1 k h1,HRL.out.2.2.2.2.1.same fun k h1 _=>e1 k (by omega),fun i j h1 h2 h3 h4 => ?_⟩
                 rw [e1 i h1,e1 j (by omega)];exact HRL.out.2.2.2.2.2 i j h1 h2 h3 h4
                have HSS3:Hid (SS key d1 mid b):=by
                 by_cases hz:en=mid
                 · have:=HA2.out.2.1;rw [hz] at this;exact this
                 · have:=HA2.out.1;rw [show en=b by omega] at this;exact this
                have HFI:=Hid.mk' (Exists.intro (p:=fun d'=>Sq w0 _ blk cap n d'∧Mix d d' a b∧SS key d' a b) d1 ⟨HS2.out,sym_done HSA.out HSB.out hS1 hS2 hE1 hE2 HE3.out HC1'.out HC2'.out HR1.out HM2.out HSS2.out (Mix.refl _ _ _) HSS3.out⟩)
                go_wp2
                go_end0
                exact ⟨rfl,HFI.out⟩
          · have f1I:¬ (a:Int)<(st:Int):=by omega
            have f1d:decide ((a:Int)<(st:Int))=false:=by simpa using f1I
            by_cases f3:mid<en
            · have f3I:(mid:Int)<(en:Int):=by omega
              have f3d:decide ((mid:Int)<(en:Int))=true:=by simpa using f3I
              by_cases f4:en<b
              · have f4I:(en:Int)<(b:Int):=by omega
                have f4d:decide ((en:Int)<(b:Int))=true:=by simpa using f4I
                have HR:=Hid.mk' (rotate_any HSQ.out st m en (.func (.func 71) #[] #[.pointer (some ⟨bx,0,none⟩)]) g1 g2 (by omega) hn)
                go_wp2_with fail
                refine HR.out.mono ?_
                rintro e w1 ⟨rfl,d1,hs1,hr1⟩
                have HS1:=Hid.mk' hs1
                have HR1:=Hid.mk' hr1
                clear hs1 hr1 HR
                have hrl:=rot_left HSA.out HSB.out HX.out hS1 hS2 hE1 hE2 HR1.out
                rw [←HE3.out] at hrl
                have HRL:=Hid.mk' hrl
                clear hrl
                have HS2:=HS1
                have HM2:=Hid.mk' (Mix.refl d1 a mid)
                have HSS2:Hid (SS key d1 a mid):=by
                 by_cases hz:st=a
                 · have:=HRL.out.2.1;rw [hz] at this;exact this
                 · have:=HRL.out.1;rw [show st=mid by omega] at this;exact this
                have HA2:Hid (SS key d1 mid en∧SS key d1 en b∧Hx d1 mid en b):=by
                 have e1:∀ k,mid≤k→bAt d1 k=bAt d1 k:=fun k hk=>HM2.out.o k (by omega)
                 refine ⟨HRL.out.2.2.2.1.same fun k h1 _=>e1 k h1,HRL.out.2.2.2.2.1.same fun k h1 _=>e1 k (by omega),fun i j h1 h2 h3 h4 => ?_⟩
                 rw [e1 i h1,e1 j (by omega)];exact HRL.out.2.2.2.2.2 i j h1 h2 h3 h4
                have HI:=Hid.mk' (IH.out mid en b d1 _ (by omega) f3 f4 hb HS2.out HA2.out.1 HA2.out.2.1 HA2.out.2.2)
                go_wp2_with fail
                refine HI.out.mono ?_
                rintro e w3 ⟨rfl,d3,hs3,hm3,hss3⟩
                have HFI:Hid (∃ d',Sq w0 w3 blk cap n d'∧Mix d d' a b∧SS key d' a b):=⟨d3,hs3,sym_done HSA.out HSB.out hS1 hS2 hE1 hE2 HE3.out HC1'.out HC2'.out HR1.out HM2.out HSS2.out hm3 hss3⟩
                clear hs3 hm3 hss3 HI
                go_wp2
                go_end0
                exact ⟨rfl,HFI.out⟩
              · have f4I:¬ (en:Int)<(b:Int):=by omega
                have f4d:decide ((en:Int)<(b:Int))=false:=by simpa using f4I
                have HR:=Hid.mk' (rotate_any HSQ.out st m en (.func (.func 71) #[] #[.pointer (some ⟨bx,0,none⟩)]) g1 g2 (by omega) hn)
                go_wp2_with fail
                refine HR.out.mono ?_
                rintro e w1 ⟨rfl,d1,hs1,hr1⟩
                have HS1:=Hid.mk' hs1
                have HR1:=Hid.mk' hr1
                clear hs1 hr1 HR
                have hrl:=rot_left HSA.out HSB.out HX.out hS1 hS2 hE1 hE2 HR1.out
                rw [←HE3.out] at hrl
                have HRL:=Hid.mk' hrl
                clear hrl
                have HS2:=HS1
                have HM2:=Hid.mk' (Mix.refl d1 a mid)
                have HSS2:Hid (SS key d1 a mid):=by
                 by_cases hz:st=a
                 · have:=HRL.out.2.1;rw [hz] at this;exact this
                 · have:=HRL.out.1;rw [show st=mid by omega] at this;exact this
                have HA2:Hid (SS key d1 mid en∧SS key d1 en b∧Hx d1 mid en b):=by
                 have e1:∀ k,mid≤k→bAt d1 k=bAt d1 k:=fun k hk=>HM2.out.o k (by omega)
                 refine ⟨HRL.out.2.2.2.1.same fun k h1 _=>e1 k h1,HRL.out.2.2.2.2.1.same fun k h1 _=>e1 k (by omega),fun i j h1 h2 h3 h4 => ?_⟩
                 rw [e1 i h1,e1 j (by omega)];exact HRL.out.2.2.2.2.2 i j h1 h2 h3 h4
                have HSS3:Hid (SS key d1 mid b):=by
                 by_cases hz:en=mid
                 · have:=HA2.out.2.1;rw [hz] at this;exact this
                 · have:=HA2.out.1;rw [show en=b by omega] at this;exact this
                have HFI:=Hid.mk' (Exists.intro (p:=fun d'=>Sq w0 _ blk cap n d'∧Mix d d' a b∧SS key d' a b) d1 ⟨HS2.out,sym_done HSA.out HSB.out hS1 hS2 hE1 hE2 HE3.out HC1'.out HC2'.out HR1.out HM2.out HSS2.out (Mix.refl _ _ _) HSS3.out⟩)
                go_wp2
                go_end0
                exact ⟨rfl,HFI.out⟩
            · have f3I:¬ (mid:Int)<(en:Int):=by omega
              have f3d:decide ((mid:Int)<(en:Int))=false:=by simpa using f3I
              have HR:=Hid.mk' (rotate_any HSQ.out st m en (.func (.func 71) #[] #[.pointer (some ⟨bx,0,none⟩)]) g1 g2 (by omega) hn)
              go_wp2_with fail
              refine HR.out.mono ?_
              rintro e w1 ⟨rfl,d1,hs1,hr1⟩
              have HS1:=Hid.mk' hs1
              have HR1:=Hid.mk' hr1
              clear hs1 hr1 HR
              have hrl:=rot_left HSA.out HSB.out HX.out hS1 hS2 hE1 hE2 HR1.out
              rw [←HE3.out] at hrl
              have HRL:=Hid.mk' hrl
              clear hrl
              have HS2:=HS1
              have HM2:=Hid.mk' (Mix.refl d1 a mid)
              have HSS2:Hid (SS key d1 a mid):=by
               by_cases hz:st=a
               · have:=HRL.out.2.1;rw [hz] at this;exact this
               · have:=HRL.out.1;rw [show st=mid by omega] at this;exact this
              have HA2:Hid (SS key d1 mid en∧SS key d1 en b∧Hx d1 mid en b):=by
               have e1:∀ k,mid≤k→bAt d1 k=bAt d1 k:=fun k hk=>HM2.out.o k (by omega)
               refine ⟨HRL.out.2.2.2.1.same fun k h1 _=>e1 k h1,HRL.out.2.2.2.2.1.same fun k h1 _=>e1 k (by omega),fun i j h1 h2 h3 h4 => ?_⟩
               rw [e1 i h1,e1 j (by omega)];exact HRL.out.2.2.2.2.2 i j h1 h2 h3 h4
              have HSS3:Hid (SS key d1 mid b):=by
               by_cases hz:en=mid
               · have:=HA2.out.2.1;rw [hz] at this;exact this
               · have:=HA2.out.1;rw [show en=b by omega] at this;exact this
              have HFI:=Hid.mk' (Exists.intro (p:=fun d'=>Sq w0 _ blk cap n d'∧Mix d d' a b∧SS key d' a b) d1 ⟨HS2.out,sym_done HSA.out HSB.out hS1 hS2 hE1 hE2 HE3.out HC1'.out HC2'.out HR1.out HM2.out HSS2.out (Mix.refl _ _ _) HSS3.out⟩)
              go_wp2
              go_end0
              exact ⟨rfl,HFI.out⟩
        · have g2I:¬ (m:Int)<(en:Int):=by omega
          have g2d:decide ((m:Int)<(en:Int))=false:=by simpa using g2I
          by_cases f1:a<st
          · have f1I:(a:Int)<(st:Int):=by omega
            have f1d:decide ((a:Int)<(st:Int))=true:=by simpa using f1I
            by_cases f2:st<mid
            · have f2I:(st:Int)<(mid:Int):=by omega
              have f2d:decide ((st:Int)<(mid:Int))=true:=by simpa using f2I
              by_cases f3:mid<en
              · have f3I:(mid:Int)<(en:Int):=by omega
                have f3d:decide ((mid:Int)<(en:Int))=true:=by simpa using f3I
                by_cases f4:en<b
                · have f4I:(en:Int)<(b:Int):=by omega
                  have f4d:decide ((en:Int)<(b:Int))=true:=by simpa using f4I
                  have HS1:=HSQ
                  have HR1:Hid (Rot d d st m en):=rot_none (by omega) (by omega) (by omega)
                  have hrl:=rot_left HSA.out HSB.out HX.out hS1 hS2 hE1 hE2 HR1.out
                  rw [←HE3.out] at hrl
                  have HRL:=Hid.mk' hrl
                  clear hrl
                  have HI:=Hid.mk' (IH.out a st mid d _ (by omega) f1 f2 (by omega) HS1.out HRL.out.1 HRL.out.2.1 HRL.out.2.2.1)
                  go_wp2_with fail
                  refine HI.out.mono ?_
                  rintro e w2 ⟨rfl,d2,hs2,hm2,hss2⟩
                  have HS2:=Hid.mk' hs2
                  have HM2:=Hid.mk' hm2
                  have HSS2:=Hid.mk' hss2
                  clear hs2 hm2 hss2 HI
                  have HA2:Hid (SS key d2 mid en∧SS key d2 en b∧Hx d2 mid en b):=by
                   have e1:∀ k,mid≤k→bAt d2 k=bAt d k:=fun k hk=>HM2.out.o k (by omega)
                   refine ⟨HRL.out.2.2.2.1.same fun k h1 _=>e1 k h1,HRL.out.2.2.2.2.1.same fun k h1 _=>e1 k (by omega),fun i j h1 h2 h3 h4 => ?_⟩
                   rw [e1 i h1,e1 j (by omega)];exact HRL.out.2.2.2.2.2 i j h1 h2 h3 h4
                  have HI:=Hid.mk' (IH.out mid en b d2 _ (by omega) f3 f4 hb HS2.out HA2.out.1 HA2.out.2.1 HA2.out.2.2)
                  go_wp2_with fail
                  refine HI.out.mono ?_
                  rintro e w3 ⟨rfl,d3,hs3,hm3,hss3⟩
                  have HFI:Hid (∃ d',Sq w0 w3 blk cap n d'∧Mix d d' a b∧SS key d' a b):=⟨d3,hs3,sym_done HSA.out HSB.out hS1 hS2 hE1 hE2 HE3.out HC1'.out HC2'.out HR1.out HM2.out HSS2.out hm3 hss3⟩
                  clear hs3 hm3 hss3 HI
                  go_wp2
                  go_end0
                  exact ⟨rfl,HFI.out⟩
                · have f4I:¬ (en:Int)<(b:Int):=by omega
                  have f4d:decide ((en:Int)<(b:Int))=false:=by simpa using f4I
                  have HS1:=HSQ
                  have HR1:Hid (Rot d d st m en):=rot_none (by omega) (by omega) (by omega)
                  have hrl:=rot_left HSA.out HSB.out HX.out hS1 hS2 hE1 hE2 HR1.out
                  rw [←HE3.out] at hrl
                  have HRL:=Hid.mk' hrl
                  clear hrl
                  have HI:=Hid.mk' (IH.out a st mid d _ (by omega) f1 f2 (by omega) HS1.out HRL.out.1 HRL.out.2.1 HRL.out.2.2.1)
                  go_wp2_with fail
                  refine HI.out.mono ?_
                  rintro e w2 ⟨rfl,d2,hs2,hm2,hss2⟩
                  have HS2:=Hid.mk' hs2
                  have HM2:=Hid.mk' hm2
                  have HSS2:=Hid.mk' hss2
                  clear hs2 hm2 hss2 HI
                  have HA2:Hid (SS key d2 mid en∧SS key d2 en b∧Hx d2 mid en b):=by
                   have e1:∀ k,mid≤k→bAt d2 k=bAt d k:=fun k hk=>HM2.out.o k (by omega)
                   refine ⟨HRL.out.2.2.2.1.same fun k h1 _=>e1 k h1,HRL.out.2.2.2.2.1.same fun k h1 _=>e1 k (by omega),fun i j h1 h2 h3 h4 => ?_⟩
                   rw [e1 i h1,e1 j (by omega)];exact HRL.out.2.2.2.2.2 i j h1 h2 h3 h4
                  have HSS3:Hid (SS key d2 mid b):=by
                   by_cases hz:en=mid
                   · have:=HA2.out.2.1;rw [hz] at this;exact this
                   · have:=HA2.out.1;rw [show en=b by omega] at this;exact this
                  have HFI:=Hid.mk' (Exists.intro (p:=fun d'=>Sq w0 _ blk cap n d'∧Mix d d' a b∧SS key d' a b) d2 ⟨HS2.out,sym_done HSA.out HSB.out hS1 hS2 hE1 hE2 HE3.out HC1'.out HC2'.out HR1.out HM2.out HSS2.out (Mix.refl _ _ _) HSS3.out⟩)
                  go_wp2
                  go_end0
                  exact ⟨rfl,HFI.out⟩
              · have f3I:¬ (mid:Int)<(en:Int):=by omega
                have f3d:decide ((mid:Int)<(en:Int))=false:=by simpa using f3I
                have HS1:=HSQ
                have HR1:Hid (Rot d d st m en):=rot_none (by omega) (by omega) (by omega)
                have hrl:=rot_left HSA.out HSB.out HX.out hS1 hS2 hE1 hE2 HR1.out
                rw [←HE3.out] at hrl
                have HRL:=Hid.mk' hrl
                clear hrl
                have HI:=Hid.mk' (IH.out a st mid d _ (by omega) f1 f2 (by omega) HS1.out HRL.out.1 HRL.out.2.1 HRL.out.2.2.1)
                go_wp2_with fail
                refine HI.out.mono ?_
                rintro e w2 ⟨rfl,d2,hs2,hm2,hss2⟩
                have HS2:=Hid.mk' hs2
                have HM2:=Hid.mk' hm2
                have HSS2:=Hid.mk' hss2
                clear hs2 hm2 hss2 HI
                have HA2:Hid (SS key d2 mid en∧SS key d2 en b∧Hx d2 mid en b):=by
                 have e1:∀ k,mid≤k→bAt d2 k=bAt d k:=fun k hk=>HM2.out.o k (by omega)
                 refine ⟨HRL.out.2.2.2.1.same fun k h1 _=>e1 k h1,HRL.out.2.2.2.2.1.same fun k h1 _=>e1 k (by omega),fun i j h1 h2 h3 h4 => ?_⟩
                 rw [e1 i h1,e1 j (by omega)];exact HRL.out.2.2.2.2.2 i j h1 h2 h3 h4
                have HSS3:Hid (SS key d2 mid b):=by
                 by_cases hz:en=mid
                 · have:=HA2.out.2.1;rw [hz] at this;exact this
                 · have:=HA2.out.1;rw [show en=b by omega] at this;exact this
                have HFI:=Hid.mk' (Exists.intro (p:=fun d'=>Sq w0 _ blk cap n d'∧Mix d d' a b∧SS key d' a b) d2 ⟨HS2.out,sym_done HSA.out HSB.out hS1 hS2 hE1 hE2 HE3.out HC1'.out HC2'.out HR1.out HM2.out HSS2.out (Mix.refl _ _ _) HSS3.out⟩)
                go_wp2
                go_end0
                exact ⟨rfl,HFI.out⟩
            · have f2I:¬ (st:Int)<(mid:Int):=by omega
              have f2d:decide ((st:Int)<(mid:Int))=false:=by simpa using f2I
              by_cases f3:mid<en
              · have f3I:(mid:Int)<(en:Int):=by omega
                have f3d:decide ((mid:Int)<(en:Int))=true:=by simpa using f3I
                by_cases f4:en<b
                · have f4I:(en:Int)<(b:Int):=by omega
                  have f4d:decide ((en:Int)<(b:Int))=true:=by simpa using f4I
                  have HS1:=HSQ
                  have HR1:Hid (Rot d d st m en):=rot_none (by omega) (by omega) (by omega)
                  have hrl:=rot_left HSA.out HSB.out HX.out hS1 hS2 hE1 hE2 HR1.out
                  rw [←HE3.out] at hrl
                  have HRL:=Hid.mk' hrl
                  clear hrl
                  have HS2:=HS1
                  have HM2:=Hid.mk' (Mix.refl d a mid)
                  have HSS2:Hid (SS key d a mid):=by
                   by_cases hz:st=a
                   · have:=HRL.out.2.1;rw [hz] at this;exact this
                   · have:=HRL.out.1;rw [show st=mid by omega] at this;exact this
                  have HA2:Hid (SS key d mid en∧SS key d en b∧Hx d mid en b):=by
                   have e1:∀ k,mid≤k→bAt d k=bAt d k:=fun k hk=>HM2.out.o k (by omega)
                   refine ⟨HRL.out.2.2.2.1.same fun k h1 _=>e1 k h1,HRL.out.2.2.2.2.1.same fun k h1 _=>e1 k (by omega),fun i j h1 h2 h3 h4 => ?_⟩
                   rw [e1 i h1,e1 j (by omega)];exact HRL.out.2.2.2.2.2 i j h1 h2 h3 h4
                  have HI:=Hid.mk' (IH.out mid en b d _ (by omega) f3 f4 hb HS2.out HA2.out.1 HA2.out.2.1 HA2.out.2.2)
                  go_wp2_with fail
                  refine HI.out.mono ?_
                  rintro e w3 ⟨rfl,d3,hs3,hm3,hss3⟩
                  have HFI:Hid (∃ d',Sq w0 w3 blk cap n d'∧Mix d d' a b∧SS key d' a b):=⟨d3,hs3,sym_done HSA.out HSB.out hS1 hS2 hE1 hE2 HE3.out HC1'.out HC2'.out HR1.out HM2.out HSS2.out hm3 hss3⟩
                  clear hs3 hm3 hss3 HI
                  go_wp2
                  go_end0
                  exact ⟨rfl,HFI.out⟩
                · have f4I:¬ (en:Int)<(b:Int):=by omega
                  have f4d:decide ((en:Int)<(b:Int))=false:=by simpa using f4I
                  have HS1:=HSQ
                  have HR1:Hid (Rot d d st m en):=rot_none (by omega) (by omega) (by omega)
                  have hrl:=rot_left HSA.out HSB.out HX.out hS1 hS2 hE1 hE2 HR1.out
                  rw [←HE3.out] at hrl
                  have HRL:=Hid.mk' hrl
                  clear hrl
                  have HS2:=HS1
                  have HM2:=Hid.mk' (Mix.refl d a mid)
                  have HSS2:Hid (SS key d a mid):=by
                   by_cases hz:st=a
                   · have:=HRL.out.2.1;rw [hz] at this;exact this
                   · have:=HRL.out.1;rw [show st=mid by omega] at this;exact this
                  have HA2:Hid (SS key d mid en∧SS key d en b∧Hx d mid en b):=by
                   have e1:∀ k,mid≤k→bAt d k=bAt d k:=fun k hk=>HM2.out.o k (by omega)
                   refine ⟨HRL.out.2.2.2.1.same fun k h1 _=>e1 k h1,HRL.out.2.2.2.2.1.same fun k h1 _=>e1 k (by omega),fun i j h1 h2 h3 h4 => ?_⟩
                   rw [e1 i h1,e1 j (by omega)];exact HRL.out.2.2.2.2.2 i j h1 h2 h3 h4
                  have HSS3:Hid (SS key d mid b):=by
                   by_cases hz:en=mid
                   · have:=HA2.out.2.1;rw [hz] at this;exact this
                   · have:=HA2.out.1;rw [show en=b by omega] at this;exact this
                  have HFI:=Hid.mk' (Exists.intro (p:=fun d'=>Sq w0 _ blk cap n d'∧Mix d d' a b∧SS key d' a b) d ⟨HS2.out,sym_done HSA.out HSB.out hS1 hS2 hE1 hE2 HE3.out HC1'.out HC2'.out HR1.out HM2.out HSS2.out (Mix.refl _ _ _) HSS3.out⟩)
                  go_wp2
                  go_end0
                  exact ⟨rfl,HFI.out⟩
              · have f3I:¬ (mid:Int)<(en:Int):=by omega
                have f3d:decide ((mid:Int)<(en:Int))=false:=by simpa using f3I
                have HS1:=HSQ
                have HR1:Hid (Rot d d st m en):=rot_none (by omega) (by omega) (by omega)
                have hrl:=rot_left HSA.out HSB.out HX.out hS1 hS2 hE1 hE2 HR1.out
                rw [←HE3.out] at hrl
                have HRL:=Hid.mk' hrl
                clear hrl
                have HS2:=HS1
                have HM2:=Hid.mk' (Mix.refl d a mid)
                have HSS2:Hid (SS key d a mid):=by
                 by_cases hz:st=a
                 · have:=HRL.out.2.1;rw [hz] at this;exact this
                 · have:=HRL.out.1;rw [show st=mid by omega] at this;exact this
                have HA2:Hid (SS key d mid en∧SS key d en b∧Hx d mid en b):=by
                 have e1:∀ k,mid≤k→bAt d k=bAt d k:=fun k hk=>HM2.out.o k (by omega)
                 refine ⟨HRL.out.2.2.2.1.same fun k h1 _=>e1 k h1,HRL.out.2.2.2.2.1.same fun k h1 _=>e1 k (by omega),fun i j h1 h2 h3 h4 => ?_⟩
                 rw [e1 i h1,e1 j (by omega)];exact HRL.out.2.2.2.2.2 i j h1 h2 h3 h4
                have HSS3:Hid (SS key d mid b):=by
                 by_cases hz:en=mid
                 · have:=HA2.out.2.1;rw [hz] at this;exact this
                 · have:=HA2.out.1;rw [show en=b by omega] at this;exact this
                have HFI:=Hid.mk' (Exists.intro (p:=fun d'=>Sq w0 _ blk cap n d'∧Mix d d' a b∧SS key d' a b) d ⟨HS2.out,sym_done HSA.out HSB.out hS1 hS2 hE1 hE2 HE3.out HC1'.out HC2'.out HR1.out HM2.out HSS2.out (Mix.refl _ _ _) HSS3.out⟩)
                go_wp2
                go_end0
                exact ⟨rfl,HFI.out⟩
          · have f1I:¬ (a:Int)<(st:Int):=by omega
            have f1d:decide ((a:Int)<(st:Int))=false:=by simpa using f1I
            by_cases f3:mid<en
            · have f3I:(mid:Int)<(en:Int):=by omega
              have f3d:decide ((mid:Int)<(en:Int))=true:=by simpa using f3I
              by_cases f4:en<b
              · have f4I:(en:Int)<(b:Int):=by omega
                have f4d:decide ((en:Int)<(b:Int))=true:=by simpa using f4I
                have HS1:=HSQ
                have HR1:Hid (Rot d d st m en):=rot_none (by omega) (by omega) (by omega)
                have hrl:=rot_left HSA.out HSB.out HX.out hS1 hS2 hE1 hE2 HR1.out
                rw [←HE3.out] at hrl
                have HRL:=Hid.mk' hrl
                clear hrl
                have HS2:=HS1
                have HM2:=Hid.mk' (Mix.refl d a mid)
                have HSS2:Hid (SS key d a mid):=by
                 by_cases hz:st=a
                 · have:=HRL.out.2.1;rw [hz] at this;exact this
                 · have:=HRL.out.1;rw [show st=mid by omega] at this;exact this
                have HA2:Hid (SS key d mid en∧SS key d en b∧Hx d mid en b):=by
                 have e1:∀ k,mid≤k→bAt d k=bAt d k:=fun k hk=>HM2.out.o k (by omega)
                 refine ⟨HRL.out.2.2.2.1.same fun k h1 _=>e1 k h1,HRL.out.2.2.2.2.1.same fun k h1 _=>e1 k (by omega),fun i j h1 h2 h3 h4 => ?_⟩
                 rw [e1 i h1,e1 j (by omega)];exact HRL.out.2.2.2.2.2 i j h1 h2 h3 h4
                have HI:=Hid.mk' (IH.out mid en b d _ (by omega) f3 f4 hb HS2.out HA2.out.1 HA2.out.2.1 HA2.out.2.2)
                go_wp2_with fail
                refine HI.out.mono ?_
                rintro e w3 ⟨rfl,d3,hs3,hm3,hss3⟩
                have HFI:Hid (∃ d',Sq w0 w3 blk cap n d'∧Mix d d' a b∧SS key d' a b):=⟨d3,hs3,sym_done HSA.out HSB.out hS1 hS2 hE1 hE2 HE3.out HC1'.out HC2'.out HR1.out HM2.out HSS2.out hm3 hss3⟩
                clear hs3 hm3 hss3 HI
                go_wp2
                go_end0
                exact ⟨rfl,HFI.out⟩
              · have f4I:¬ (en:Int)<(b:Int):=by omega
                have f4d:decide ((en:Int)<(b:Int))=false:=by simpa using f4I
                have HS1:=HSQ
                have HR1:Hid (Rot d d st m en):=rot_none (by omega) (by omega) (by omega)
                have hrl:=rot_left HSA.out HSB.out HX.out hS1 hS2 hE1 hE2 HR1.out
                rw [←HE3.out] at hrl
                have HRL:=Hid.mk' hrl
                clear hrl
                have HS2:=HS1
                have HM2:=Hid.mk' (Mix.refl d a mid)
                have HSS2:Hid (SS key d a mid):=by
                 by_cases hz:st=a
                 · have:=HRL.out.2.1;rw [hz] at this;exact this
                 · have:=HRL.out.1;rw [show st=mid by omega] at this;exact this
                have HA2:Hid (SS key d mid en∧SS key d en b∧Hx d mid en b):=by
                 have e1:∀ k,mid≤k→bAt d k=bAt d k:=fun k hk=>HM2.out.o k (by omega)
                 refine ⟨HRL.out.2.2.2.1.same fun k h1 _=>e1 k h1,HRL.out.2.2.2.2.1.same fun k h1 _=>e1 k (by omega),fun i j h1 h2 h3 h4 => ?_⟩
                 rw [e1 i h1,e1 j (by omega)];exact HRL.out.2.2.2.2.2 i j h1 h2 h3 h4
                have HSS3:Hid (SS key d mid b):=by
                 by_cases hz:en=mid
                 · have:=HA2.out.2.1;rw [hz] at this;exact this
                 · have:=HA2.out.1;rw [show en=b by omega] at this;exact this
                have HFI:=Hid.mk' (Exists.intro (p:=fun d'=>Sq w0 _ blk cap n d'∧Mix d d' a b∧SS key d' a b) d ⟨HS2.out,sym_done HSA.out HSB.out hS1 hS2 hE1 hE2 HE3.out HC1'.out HC2'.out HR1.out HM2.out HSS2.out (Mix.refl _ _ _) HSS3.out⟩)
                go_wp2
                go_end0
                exact ⟨rfl,HFI.out⟩
            · have f3I:¬ (mid:Int)<(en:Int):=by omega
              have f3d:decide ((mid:Int)<(en:Int))=false:=by simpa using f3I
              have HS1:=HSQ
              have HR1:Hid (Rot d d st m en):=rot_none (by omega) (by omega) (by omega)
              have hrl:=rot_left HSA.out HSB.out HX.out hS1 hS2 hE1 hE2 HR1.out
              rw [←HE3.out] at hrl
              have HRL:=Hid.mk' hrl
              clear hrl
              have HS2:=HS1
              have HM2:=Hid.mk' (Mix.refl d a mid)
              have HSS2:Hid (SS key d a mid):=by
               by_cases hz:st=a
               · have:=HRL.out.2.1;rw [hz] at this;exact this
               · have:=HRL.out.1;rw [show st=mid by omega] at this;exact this
              have HA2:Hid (SS key d mid en∧SS key d en b∧Hx d mid en b):=by
               have e1:∀ k,mid≤k→bAt d k=bAt d k:=fun k hk=>HM2.out.o k (by omega)
               refine ⟨HRL.out.2.2.2.1.same fun k h1 _=>e1 k h1,HRL.out.2.2.2.2.1.same fun k h1 _=>e1 k (by omega),fun i j h1 h2 h3 h4 => ?_⟩
               rw [e1 i h1,e1 j (by omega)];exact HRL.out.2.2.2.2.2 i j h1 h2 h3 h4
              have HSS3:Hid (SS key d mid b):=by
               by_cases hz:en=mid
               · have:=HA2.out.2.1;rw [hz] at this;exact this
               · have:=HA2.out.1;rw [show en=b by omega] at this;exact this
              have HFI:=Hid.mk' (Exists.intro (p:=fun d'=>Sq w0 _ blk cap n d'∧Mix d d' a b∧SS key d' a b) d ⟨HS2.out,sym_done HSA.out HSB.out hS1 hS2 hE1 hE2 HE3.out HC1'.out HC2'.out HR1.out HM2.out HSS2.out (Mix.refl _ _ _) HSS3.out⟩)
              go_wp2
              go_end0
              exact ⟨rfl,HFI.out⟩
      · have g1I:¬ (st:Int)<(m:Int):=by omega
        have g1d:decide ((st:Int)<(m:Int))=false:=by simpa using g1I
        by_cases f1:a<st
        · have f1I:(a:Int)<(st:Int):=by omega
          have f1d:decide ((a:Int)<(st:Int))=true:=by simpa using f1I
          by_cases f2:st<mid
          · have f2I:(st:Int)<(mid:Int):=by omega
            have f2d:decide ((st:Int)<(mid:Int))=true:=by simpa using f2I
            by_cases f3:mid<en
            · have f3I:(mid:Int)<(en:Int):=by omega
              have f3d:decide ((mid:Int)<(en:Int))=true:=by simpa using f3I
              by_cases f4:en<b
              · have f4I:(en:Int)<(b:Int):=by omega
                have f4d:decide ((en:Int)<(b:Int))=true:=by simpa using f4I
                have HS1:=HSQ
                have HR1:Hid (Rot d d st m en):=rot_none (by omega) (by omega) (by omega)
                have hrl:=rot_left HSA.out HSB.out HX.out hS1 hS2 hE1 hE2 HR1.out
                rw [←HE3.out] at hrl
                have HRL:=Hid.mk' hrl
                clear hrl
                have HI:=Hid.mk' (IH.out a st mid d _ (by omega) f1 f2 (by omega) HS1.out HRL.out.1 HRL.out.2.1 HRL.out.2.2.1)
                go_wp2_with fail
                refine HI.out.mono ?_
                rintro e w2 ⟨rfl,d2,hs2,hm2,hss2⟩
                have HS2:=Hid.mk' hs2
                have HM2:=Hid.mk' hm2
                have HSS2:=Hid.mk' hss2
                clear hs2 hm2 hss2 HI
                have HA2:Hid (SS key d2 mid en∧SS key d2 en b∧Hx d2 mid en b):=by
                 have e1:∀ k,mid≤k→bAt d2 k=bAt d k:=fun k hk=>HM2.out.o k (by omega)
                 refine ⟨HRL.out.2.2.2.1.same fun k h1 _=>e1 k h1,HRL.out.2.2.2.2.1.same fun k h1 _=>e1 k (by omega),fun i j h1 h2 h3 h4 => ?_⟩
                 rw [e1 i h1,e1 j (by omega)];exact HRL.out.2.2.2.2.2 i j h1 h2 h3 h4
                have HI:=Hid.mk' (IH.out mid en b d2 _ (by omega) f3 f4 hb HS2.out HA2.out.1 HA2.out.2.1 HA2.out.2.2)
                go_wp2_with fail
                refine HI.out.mono ?_
                rintro e w3 ⟨rfl,d3,hs3,hm3,hss3⟩
                have HFI:Hid (∃ d',Sq w0 w3 blk cap n d'∧Mix d d' a b∧SS key d' a b):=⟨d3,hs3,sym_done HSA.out HSB.out hS1 hS2 hE1 hE2 HE3.out HC1'.out HC2'.out HR1.out HM2.out HSS2.out hm3 hss3⟩
                clear hs3 hm3 hss3 HI
                go_wp2
                go_end0
                exact ⟨rfl,HFI.out⟩
              · have f4I:¬ (en:Int)<(b:Int):=by omega
                have f4d:decide ((en:Int)<(b:Int))=false:=by simpa using f4I
                have HS1:=HSQ
                have HR1:Hid (Rot d d st m en):=rot_none (by omega) (by omega) (by omega)
                have hrl:=rot_left HSA.out HSB.out HX.out hS1 hS2 hE1 hE2 HR1.out
                rw [←HE3.out] at hrl
                have HRL:=Hid.mk' hrl
                clear hrl
                have HI:=Hid.mk' (IH.out a st mid d _ (by omega) f1 f2 (by omega) HS1.out HRL.out.1 HRL.out.2.1 HRL.out.2.2.1)
                go_wp2_with fail
                refine HI.out.mono ?_
                rintro e w2 ⟨rfl,d2,hs2,hm2,hss2⟩
                have HS2:=Hid.mk' hs2
                have HM2:=Hid.mk' hm2
                have HSS2:=Hid.mk' hss2
                clear hs2 hm2 hss2 HI
                have HA2:Hid (SS key d2 mid en∧SS key d2 en b∧Hx d2 mid en b):=by
                 have e1:∀ k,mid≤k→bAt d2 k=bAt d k:=fun k hk=>HM2.out.o k (by omega)
                 refine ⟨HRL.out.2.2.2.1.same fun k h1 _=>e1 k h1,HRL.out.2.2.2.2.1.same fun k h1 _=>e1 k (by omega),fun i j h1 h2 h3 h4 => ?_⟩
                 rw [e1 i h1,e1 j (by omega)];exact HRL.out.2.2.2.2.2 i j h1 h2 h3 h4
                have HSS3:Hid (SS key d2 mid b):=by
                 by_cases hz:en=mid
                 · have:=HA2.out.2.1;rw [hz] at this;exact this
                 · have:=HA2.out.1;rw [show en=b by omega] at this;exact this
                have HFI:=Hid.mk' (Exists.intro (p:=fun d'=>Sq w0 _ blk cap n d'∧Mix d d' a b∧SS key d' a b) d2 ⟨HS2.out,sym_done HSA.out HSB.out hS1 hS2 hE1 hE2 HE3.out HC1'.out HC2'.out HR1.out HM2.out HSS2.out (Mix.refl _ _ _) HSS3.out⟩)
                go_wp2
                go_end0
                exact ⟨rfl,HFI.out⟩
            · have f3I:¬ (mid:Int)<(en:Int):=by omega
              have f3d:decide ((mid:Int)<(en:Int))=false:=by simpa using f3I
              have HS1:=HSQ
              have HR1:Hid (Rot d d st m en):=rot_none (by omega) (by omega) (by omega)
              have hrl:=rot_left HSA.out HSB.out HX.out hS1 hS2 hE1 hE2 HR1.out
              rw [←HE3.out] at hrl
              have HRL:=Hid.mk' hrl
              clear hrl
              have HI:=Hid.mk' (IH.out a st mid d _ (by omega) f1 f2 (by omega) HS1.out HRL.out.1 HRL.out.2.1 HRL.out.2.2.1)
              go_wp2_with fail
              refine HI.out.mono ?_
              rintro e w2 ⟨rfl,d2,hs2,hm2,hss2⟩
              have HS2:=Hid.mk' hs2
              have HM2:=Hid.mk' hm2
              have HSS2:=Hid.mk' hss2
              clear hs2 hm2 hss2 HI
              have HA2:Hid (SS key d2 mid en∧SS key d2 en b∧Hx d2 mid en b):=by
               have e1:∀ k,mid≤k→bAt d2 k=bAt d k:=fun k hk=>HM2.out.o k (by omega)
               refine ⟨HRL.out.2.2.2.1.same fun k h1 _=>e1 k h1,HRL.out.2.2.2.2.1.same fun k h1 _=>e1 k (by omega),fun i j h1 h2 h3 h4 => ?_⟩
               rw [e1 i h1,e1 j (by omega)];exact HRL.out.2.2.2.2.2 i j h1 h2 h3 h4
              have HSS3:Hid (SS key d2 mid b):=by
               by_cases hz:en=mid
               · have:=HA2.out.2.1;rw [hz] at this;exact this
               · have:=HA2.out.1;rw [show en=b by omega] at this;exact this
              have HFI:=Hid.mk' (Exists.intro (p:=fun d'=>Sq w0 _ blk cap n d'∧Mix d d' a b∧SS key d' a b) d2 ⟨HS2.out,sym_done HSA.out HSB.out hS1 hS2 hE1 hE2 HE3.out HC1'.out HC2'.out HR1.out HM2.out HSS2.out (Mix.refl _ _ _) HSS3.out⟩)
              go_wp2
              go_end0
              exact ⟨rfl,HFI.out⟩
          · have f2I:¬ (st:Int)<(mid:Int):=by omega
            have f2d:decide ((st:Int)<(mid:Int))=false:=by simpa using f2I
            by_cases f3:mid<en
            · have f3I:(mid:Int)<(en:Int):=by omega
              have f3d:decide ((mid:Int)<(en:Int))=true:=by simpa using f3I
              by_cases f4:en<b
              · have f4I:(en:Int)<(b:Int):=by omega
                have f4d:decide ((en:Int)<(b:Int))=true:=by simpa using f4I
                have HS1:=HSQ
                have HR1:Hid (Rot d d st m en):=rot_none (by omega) (by omega) (by omega)
                have hrl:=rot_left HSA.out HSB.out HX.out hS1 hS2 hE1 hE2 HR1.out
                rw [←HE3.out] at hrl
                have HRL:=Hid.mk' hrl
                clear hrl
                have HS2:=HS1
                have HM2:=Hid.mk' (Mix.refl d a mid)
                have HSS2:Hid (SS key d a mid):=by
                 by_cases hz:st=a
                 · have:=HRL.out.2.1;rw [hz] at this;exact this
                 · have:=HRL.out.1;rw [show st=mid by omega] at this;exact this
                have HA2:Hid (SS key d mid en∧SS key d en b∧Hx d mid en b):=by
                 have e1:∀ k,mid≤k→bAt d k=bAt d k:=fun k hk=>HM2.out.o k (by omega)
                 refine ⟨HRL.out.2.2.2.1.same fun k h1 _=>e1 k h1,HRL.out.2.2.2.2.1.same fun k h1 _=>e1 k (by omega),fun i j h1 h2 h3 h4 => ?_⟩
                 rw [e1 i h1,e1 j (by omega)];exact HRL.out.2.2.2.2.2 i j h1 h2 h3 h4
                have HI:=Hid.mk' (IH.out mid en b d _ (by omega) f3 f4 hb HS2.out HA2.out.1 HA2.out.2.1 HA2.out.2.2)
                go_wp2_with fail
                refine HI.out.mono ?_
                rintro e w3 ⟨rfl,d3,hs3,hm3,hss3⟩
                have HFI:Hid (∃ d',Sq w0 w3 blk cap n d'∧Mix d d' a b∧SS key d' a b):=⟨d3,hs3,sym_done HSA.out HSB.out hS1 hS2 hE1 hE2 HE3.out HC1'.out HC2'.out HR1.out HM2.out HSS2.out hm3 hss3⟩
                clear hs3 hm3 hss3 HI
                go_wp2
                go_end0
                exact ⟨rfl,HFI.out⟩
              · have f4I:¬ (en:Int)<(b:Int):=by omega
                have f4d:decide ((en:Int)<(b:Int))=false:=by simpa using f4I
                have HS1:=HSQ
                have HR1:Hid (Rot d d st m en):=rot_none (by omega) (by omega) (by omega)
                have hrl:=rot_left HSA.out HSB.out HX.out hS1 hS2 hE1 hE2 HR1.out
                rw [←HE3.out] at hrl
                have HRL:=Hid.mk' hrl
                clear hrl
                have HS2:=HS1
                have HM2:=Hid.mk' (Mix.refl d a mid)
                have HSS2:Hid (SS key d a mid):=by
                 by_cases hz:st=a
                 · have:=HRL.out.2.1;rw [hz] at this;exact this
                 · have:=HRL.out.1;rw [show st=mid by omega] at this;exact this
                have HA2:Hid (SS key d mid en∧SS key d en b∧Hx d mid en b):=by
                 have e1:∀ k,mid≤k→bAt d k=bAt d k:=fun k hk=>HM2.out.o k (by omega)
                 refine ⟨HRL.out.2.2.2.1.same fun k h1 _=>e1 k h1,HRL.out.2.2.2.2.1.same fun k h1 _=>e1 k (by omega),fun i j h1 h2 h3 h4 => ?_⟩
                 rw [e1 i h1,e1 j (by omega)];exact HRL.out.2.2.2.2.2 i j h1 h2 h3 h4
                have HSS3:Hid (SS key d mid b):=by
                 by_cases hz:en=mid
                 · have:=HA2.out.2.1;rw [hz] at this;exact this
                 · have:=HA2.out.1;rw [show en=b by omega] at this;exact this
                have HFI:=Hid.mk' (Exists.intro (p:=fun d'=>Sq w0 _ blk cap n d'∧Mix d d' a b∧SS key d' a b) d ⟨HS2.out,sym_done HSA.out HSB.out hS1 hS2 hE1 hE2 HE3.out HC1'.out HC2'.out HR1.out HM2.out HSS2.out (Mix.refl _ _ _) HSS3.out⟩)
                go_wp2
                go_end0
                exact ⟨rfl,HFI.out⟩
            · have f3I:¬ (mid:Int)<(en:Int):=by omega
              have f3d:decide ((mid:Int)<(en:Int))=false:=by simpa using f3I
              have HS1:=HSQ
              have HR1:Hid (Rot d d st m en):=rot_none (by omega) (by omega) (by omega)
              have hrl:=rot_left HSA.out HSB.out HX.out hS1 hS2 hE1 hE2 HR1.out
              rw [←HE3.out] at hrl
              have HRL:=Hid.mk' hrl
              clear hrl
              have HS2:=HS1
              have HM2:=Hid.mk' (Mix.refl d a mid)
              have HSS2:Hid (SS key d a mid):=by
               by_cases hz:st=a
               · have:=HRL.out.2.1;rw [hz] at this;exact this
               · have:=HRL.out.1;rw [show st=mid by omega] at this;exact this
              have HA2:Hid (SS key d mid en∧SS key d en b∧Hx d mid en b):=by
               have e1:∀ k,mid≤k→bAt d k=bAt d k:=fun k hk=>HM2.out.o k (by omega)
               refine ⟨HRL.out.2.2.2.1.same fun k h1 _=>e1 k h1,HRL.out.2.2.2.2.1.same fun k h1 _=>e1 k (by omega),fun i j h1 h2 h3 h4 => ?_⟩
               rw [e1 i h1,e1 j (by omega)];exact HRL.out.2.2.2.2.2 i j h1 h2 h3 h4
              have HSS3:Hid (SS key d mid b):=by
               by_cases hz:en=mid
               · have:=HA2.out.2.1;rw [hz] at this;exact this
               · have:=HA2.out.1;rw [show en=b by omega] at this;exact this
              have HFI:=Hid.mk' (Exists.intro (p:=fun d'=>Sq w0 _ blk cap n d'∧Mix d d' a b∧SS key d' a b) d ⟨HS2.out,sym_done HSA.out HSB.out hS1 hS2 hE1 hE2 HE3.out HC1'.out HC2'.out HR1.out HM2.out HSS2.out (Mix.refl _ _ _) HSS3.out⟩)
              go_wp2
              go_end0
              exact ⟨rfl,HFI.out⟩
        · have f1I:¬ (a:Int)<(st:Int):=by omega
          have f1d:decide ((a:Int)<(st:Int))=false:=by simpa using f1I
          by_cases f3:mid<en
          · have f3I:(mid:Int)<(en:Int):=by omega
            have f3d:decide ((mid:Int)<(en:Int))=true:=by simpa using f3I
            by_cases f4:en<b
            · have f4I:(en:Int)<(b:Int):=by omega
              have f4d:decide ((en:Int)<(b:Int))=true:=by simpa using f4I
              have HS1:=HSQ
              have HR1:Hid (Rot d d st m en):=rot_none (by omega) (by omega) (by omega)
              have hrl:=rot_left HSA.out HSB.out HX.out hS1 hS2 hE1 hE2 HR1.out
              rw [←HE3.out] at hrl
              have HRL:=Hid.mk' hrl
              clear hrl
              have HS2:=HS1
              have HM2:=Hid.mk' (Mix.refl d a mid)
              have HSS2:Hid (SS key d a mid):=by
               by_cases hz:st=a
               · have:=HRL.out.2.1;rw [hz] at this;exact this
               · have:=HRL.out.1;rw [show st=mid by omega] at this;exact this
              have HA2:Hid (SS key d mid en∧SS key d en b∧Hx d mid en b):=by
               have e1:∀ k,mid≤k→bAt d k=bAt d k:=fun k hk=>HM2.out.o k (by omega)
               refine ⟨HRL.out.2.2.2.1.same fun k h1 _=>e1 k h1,HRL.out.2.2.2.2.1.same fun k h1 _=>e1 k (by omega),fun i j h1 h2 h3 h4 => ?_⟩
               rw [e1 i h1,e1 j (by omega)];exact HRL.out.2.2.2.2.2 i j h1 h2 h3 h4
              have HI:=Hid.mk' (IH.out mid en b d _ (by omega) f3 f4 hb HS2.out HA2.out.1 HA2.out.2.1 HA2.out.2.2)
              go_wp2_with fail
              refine HI.out.mono ?_
              rintro e w3 ⟨rfl,d3,hs3,hm3,hss3⟩
              have HFI:Hid (∃ d',Sq w0 w3 blk cap n d'∧Mix d d' a b∧SS key d' a b):=⟨d3,hs3,sym_done HSA.out HSB.out hS1 hS2 hE1 hE2 HE3.out HC1'.out HC2'.out HR1.out HM2.out HSS2.out hm3 hss3⟩
              clear hs3 hm3 hss3 HI
              go_wp2
              go_end0
              exact ⟨rfl,HFI.out⟩
            · have f4I:¬ (en:Int)<(b:Int):=by omega
              have f4d:decide ((en:Int)<(b:Int))=false:=by simpa using f4I
              have HS1:=HSQ
              have HR1:Hid (Rot d d st m en):=rot_none (by omega) (by omega) (by omega)
              have hrl:=rot_left HSA.out HSB.out HX.out hS1 hS2 hE1 hE2 HR1.out
              rw [←HE3.out] at hrl
              have HRL:=Hid.mk' hrl
              clear hrl
              have HS2:=HS1
              have HM2:=Hid.mk' (Mix.refl d a mid)
              have HSS2:Hid (SS key d a mid):=by
               by_cases hz:st=a
               · have:=HRL.out.2.1;rw [hz] at this;exact this
               · have:=HRL.out.1;rw [show st=mid by omega] at this;exact this
              have HA2:Hid (SS key d mid en∧SS key d en b∧Hx d mid en b):=by
               have e1:∀ k,mid≤k→bAt d k=bAt d k:=fun k hk=>HM2.out.o k (by omega)
               refine ⟨HRL.out.2.2.2.1.same fun k h1 _=>e1 k h1,HRL.out.2.2.2.2.1.same fun k h1 _=>e1 k (by omega),fun i j h1 h2 h3 h4 => ?_⟩
               rw [e1 i h1,e1 j (by omega)];exact HRL.out.2.2.2.2.2 i j h1 h2 h3 h4
              have HSS3:Hid (SS key d mid b):=by
               by_cases hz:en=mid
               · have:=HA2.out.2.1;rw [hz] at this;exact this
               · have:=HA2.out.1;rw [show en=b by omega] at this;exact this
              have HFI:=Hid.mk' (Exists.intro (p:=fun d'=>Sq w0 _ blk cap n d'∧Mix d d' a b∧SS key d' a b) d ⟨HS2.out,sym_done HSA.out HSB.out hS1 hS2 hE1 hE2 HE3.out HC1'.out HC2'.out HR1.out HM2.out HSS2.out (Mix.refl _ _ _) HSS3.out⟩)
              go_wp2
              go_end0
              exact ⟨rfl,HFI.out⟩
          · have f3I:¬ (mid:Int)<(en:Int):=by omega
            have f3d:decide ((mid:Int)<(en:Int))=false:=by simpa using f3I
            have HS1:=HSQ
            have HR1:Hid (Rot d d st m en):=rot_none (by omega) (by omega) (by omega)
            have hrl:=rot_left HSA.out HSB.out HX.out hS1 hS2 hE1 hE2 HR1.out
            rw [←HE3.out] at hrl
            have HRL:=Hid.mk' hrl
            clear hrl
            have HS2:=HS1
            have HM2:=Hid.mk' (Mix.refl d a mid)
            have HSS2:Hid (SS key d a mid):=by
             by_cases hz:st=a
             · have:=HRL.out.2.1;rw [hz] at this;exact this
             · have:=HRL.out.1;rw [show st=mid by omega] at this;exact this
            have HA2:Hid (SS key d mid en∧SS key d en b∧Hx d mid en b):=by
             have e1:∀ k,mid≤k→bAt d k=bAt d k:=fun k hk=>HM2.out.o k (by omega)
             refine ⟨HRL.out.2.2.2.1.same fun k h1 _=>e1 k h1,HRL.out.2.2.2.2.1.same fun k h1 _=>e1 k (by omega),fun i j h1 h2 h3 h4 => ?_⟩
             rw [e1 i h1,e1 j (by omega)];exact HRL.out.2.2.2.2.2 i j h1 h2 h3 h4
            have HSS3:Hid (SS key d mid b):=by
             by_cases hz:en=mid
             · have:=HA2.out.2.1;rw [hz] at this;exact this
             · have:=HA2.out.1;rw [show en=b by omega] at this;exact this
            have HFI:=Hid.mk' (Exists.intro (p:=fun d'=>Sq w0 _ blk cap n d'∧Mix d d' a b∧SS key d' a b) d ⟨HS2.out,sym_done HSA.out HSB.out hS1 hS2 hE1 hE2 HE3.out HC1'.out HC2'.out HR1.out HM2.out HSS2.out (Mix.refl _ _ _) HSS3.out⟩)
            go_wp2
            go_end0
            exact ⟨rfl,HFI.out⟩
end Go.Proofs
