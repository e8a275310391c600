/-
  Several texts in one (Pc Pd Zm Gj Zo).
-/
import Derived.RangeFuncNested
import Derived.RangeFuncBound
import Derived.RangeFuncCalls
import Derived.RangeFuncLeaves
import Derived.Shelf.Abstract
import Derived.Shelf.RegionOpen
import Derived.WalkKit
import Derived.WalkSpells
import Derived.WalkLawsBesides
import Derived.OwnWalkIn
import Derived.TacticsInMore
import Derived.LoopNIn
import Derived.LoopIn
import Derived.BigQuiet
import Derived.RegionIn
import Derived.Deep.QuietTactic
import Derived.Deep.RegionWith
import Derived.Lib.OthersKept
import Derived.Maps.AppendAt
import Derived.Lib.SmallJoins
import Derived.Shelf.SlSortCmp.QuietGrown
import Derived.RangeFuncWrites
import Derived.RangeFuncBox
import Derived.Maps.OwnIn
import Derived.Test.YtibgnkpagfpinaaGreatDoorMgqp
import Derived.Test.YtibgnkpagfpinaaGreatDoorMgpp
import Derived.Test.YtibgnkpagfpinaaGreatDoorMgop
import Derived.Test.YtibgnkpagfpinaaGreatDoorGip
import Derived.Test.YtibgnkpagfpinaaGreatDoorGxp
namespace Go.Proofs
open Go.RowKit Go.Shelf
set_option maxRecDepth 100000
attribute [local go_sem] Oper.semAt_some
attribute [local go_sem ↓] Go.wp_at_zero Go.wp_at_succ
theorem acr_join {l:List Bk} (h:Join l):bS l=srcs l∧bR l=ress l:=by unfold bS bR;rw [if_pos h,if_pos h];exact ⟨rfl,rfl⟩
theorem acr_nojoin {l:List Bk} (h:¬ Join l):bS l=[]∧bR l=[]:=by unfold bS bR;rw [if_neg h,if_neg h];exact ⟨rfl,rfl⟩
theorem sAt_getD (l:List Bk) (j:Nat):(srcs l).getD j 0=sAt l j:=rfl
theorem rAt_getD (l:List Bk) (j:Nat):(ress l).getD j 0=rAt l j:=rfl
theorem sAt_mono {l:List Bk} (h:Join l) {i j:Nat} (hij:i<j) (hj:j≤l.length):sAt l i<sAt l j:=by
 induction j with
 | zero=>omega
 | succ j ih=>
  have h1:=(h.at' (j:=j) (by omega)).1
  by_cases e:i=j
  · subst e;exact h1
  · have:=ih (by omega) (by omega);omega
theorem rAt_mono {l:List Bk} (h:Join l) {i j:Nat} (hij:i≤j) (hj:j≤l.length):rAt l i≤rAt l j:=by
 induction j with
 | zero=>have:i=0:=by omega
         subst this;exact Int.le_refl _
 | succ j ih=>
  have h1:=(h.at' (j:=j) (by omega)).2.1
  by_cases e:i=j+1
  · subst e;exact Int.le_refl _
  · have:=ih (by omega) (by omega);omega
theorem brs_cell {w:World} {a:Option Addr} {n c:Nat} {l:List Bk} (h:Rs w (.slice a n c) (brs l)) {j:Nat} (hj:j≤l.length):∃ g o,a=some ⟨g,o,none⟩∧w.cell? ⟨g,o+j*2,none⟩=some (.int .i64 (sAt l j))∧w.cell? ⟨g,o+j*2+1,none⟩=some (.int .i64 (rAt l j)):=by
 obtain ⟨g,o,e,c0,c1⟩:=rs_cell h (j:=j) (by rw [brs_len];omega)
 rw [brs_at (by rw [brs_len];omega)] at c0 c1
 exact ⟨g,o,e,c0,c1⟩
theorem rs_form {w:World} {v:Value} {l:List (Int × Int)} (h:Rs w v l):∃ a c,v = .slice a l.length c:=by
 obtain ⟨a,c,e,_⟩:=h
 exact ⟨a,c,e⟩
set_option maxHeartbeats 8000000 in
theorem rto_walk (va:Option Addr) (n vc:Nat) (l:List Bk) (t:Int) (w:World) (h:KR w (.slice va n vc) l) (hl:l.length=n) (hn:n≤1000000):Calls Tryz.prog 12 #[.slice va n vc,.int .i64 t] w (ToQ w (bS l) (bR l) t):=by
 have HB:=Hid.mk' (rborders_any _ l w h (by omega))
 have HK:=Hid.mk' h
 have HN:=Hid.mk' hl
 have hnI:(n:Int)≤1000000:=by omega
 clear h hl
 by_cases hj:Join l
 · obtain ⟨e1,e2⟩:=acr_join hj
   rw [e1,e2]
   have HJ:=Hid.mk' hj
   clear e1 e2 hj
   obtain ⟨last,hlast⟩:∃ x,sAt l l.length=x:=⟨_,rfl⟩
   have HLA:Hid (sAt l n=last∧(srcs l).getD ((srcs l).length - 1) 0=last):=⟨by rw [←HN.out];exact hlast,by rw [srcs_len,Nat.add_sub_cancel];exact hlast⟩
   clear hlast
   have HOUT:Hid (∀ W,Below w.heap.size w W→(t<0∨last<t)→ToQ w (srcs l) (ress l) t (.returned (.tuple #[.int .i64 0,.int .i64 0])) W):=fun W hb hx=>⟨0,0,rfl,.inl ⟨hx.elim (fun e => .inr (.inl e)) (fun e => .inr (.inr (by rw [HLA.out.2];exact e))),rfl,rfl⟩,hb⟩
   have hN1:((n+1:Nat):Int) - 1=(n:Int):=by omega
   have hN2:(n:Int)<((n+1:Nat):Int):=by omega
   have hN3:(n:Int)+1 - 1=(n:Int):=by omega
   have hN4:(n:Int)<(n:Int)+1:=by omega
   go_enter Tryz.func12,Tryz.ntmps12
   go_wp2_with fail
   refine HB.out.mono ?_
   rintro e w1 ⟨v,b,rfl,⟨_,rfl,hrs⟩ | ⟨hno,_⟩,hb1⟩
   · obtain ⟨ba,bc,hv⟩:=rs_form hrs
     rw [brs_len,HN.out] at hv
     subst hv
     obtain ⟨g,o,hba,l0,l1⟩:=brs_cell hrs (j:=n) (by rw [HN.out];exact Nat.le_refl _)
     subst hba
     rw [HLA.out.1] at l0
     have HRS:=Hid.mk' (And.intro hrs hb1)
     have HKV:Hid (KR w1 (.slice va n vc) l):=HK.out.below hb1 (Nat.le_refl _)
     clear hrs hb1 HB l1
     by_cases ht0:t<0
     · go_wp2
       refine bodyPost_ret (v := .tuple #[.int .i64 0,.int .i64 0]) (by simp [results,Tryz.f12,go_sem]) rfl ?_
       exact HOUT.out _ HRS.out.2 (.inl ht0)
     by_cases htx:last<t
     · go_wp2
       refine bodyPost_ret (v := .tuple #[.int .i64 0,.int .i64 0]) (by simp [results,Tryz.f12,go_sem]) rfl ?_
       exact HOUT.out _ HRS.out.2 (.inr htx)
     go_wp2
     clear l0
     go_loopg [8] (n+1) (fun q s8 wr=>∃ i:Nat,s8 = .int .i64 (i:Int)∧i≤n+1∧n+1 - i≤q∧Hid (wr=w1∧∀ j,j<i→sAt l j≠t))
     case atStart=>exact ⟨0,rfl,by omega,by omega,rfl,fun j hj=>by omega⟩
     case round=>
      obtain ⟨i,rfl,hi1,hi2,HR⟩:=hrel
      have hiI:(i:Int)≤1000001:=by omega
      obtain ⟨hw,hne⟩:=HR.out
      have hw:=hw.symm
      subst hw
      have HNE:=Hid.mk' hne
      clear hne HR
      by_cases hin:i<n+1
      · have hinI:(i:Int)<((n+1:Nat):Int):=by omega
        have hinJ:(i:Int)<(n:Int)+1:=by omega
        obtain ⟨g',o',he,c0,c1⟩:=brs_cell HRS.out.1 (j:=i) (by rw [HN.out];omega)
        injection he with he
        injection he with he1 he2 _
        subst he1
        subst he2
        obtain ⟨x,hx⟩:∃ x,sAt l i=x:=⟨_,rfl⟩
        obtain ⟨y,hy⟩:∃ y,rAt l i=y:=⟨_,rfl⟩
        rw [hx] at c0
        rw [hy] at c1
        have HX:Hid (sAt l i=x∧rAt l i=y):=⟨hx,hy⟩
        clear hx hy
        by_cases hxt:x=t
        · have hb:(x == t)=true:=by simpa using hxt
          have hd:decide (x=t)=true:=by simpa using hxt
          have HXT:Hid (x=t):=hxt
          clear hxt
          go_wp2
          go_big_quiet (fail)
          go_wp2
          refine bodyPost_ret (v := .tuple #[.int .i64 y,.int .i64 y]) (by simp [results,Tryz.f12,go_sem]) rfl ?_
          have hin':i≤l.length:=by rw [HN.out];omega
          refine ⟨y,y,rfl,.inr (.inr ⟨by omega,by rw [HLA.out.2];omega,i,i,Nat.le_refl _,by rw [srcs_len];omega,HX.out.1.trans HXT.out,HX.out.1.trans HXT.out,fun j hj => ?_,fun j hj hjl => ?_,HX.out.2.symm,HX.out.2.symm⟩),HRS.out.2.trans (((Grown.refl w1).drewN _).below.mono HRS.out.2.size)⟩
          · have:=sAt_mono HJ.out hj hin';rw [sAt_getD];rw [←HXT.out,←HX.out.1];exact this
          · rw [srcs_len] at hjl
            have:=sAt_mono HJ.out hj (by omega);rw [sAt_getD];rw [←HXT.out,←HX.out.1];exact this
        · have hb:(x == t)=false:=by simpa using hxt
          have hd:decide (x=t)=false:=by simpa using hxt
          go_wp2
          go_roundg (n+1 - (i+1))
          case measure=>omega
          case rel=>exact ⟨i+1,rfl,by omega,Nat.le_refl _,rfl,fun j hj=>by
           by_cases e:j=i
           · subst e;rw [HX.out.1];exact hxt
           · exact HNE.out j (by omega)⟩
      · have hinI:¬ (i:Int)<((n+1:Nat):Int):=by omega
        have hinJ:¬ (i:Int)<(n:Int)+1:=by omega
        obtain rfl:i=n+1:=by omega
        have hn0:0<n:=by
         rcases Nat.eq_zero_or_pos n with e | e
         · exfalso
           have h1:=HNE.out 0 (by omega)
           have h2:=HLA.out.1
           rw [e] at h2
           rw [sAt_zero] at h1 h2
           omega
         · exact e
        go_wp2
        go_loopg [9] n (fun q s9 wr=>∃ i:Nat,s9 = .int .i64 (i:Int)∧i<n∧n - i≤q∧Hid (wr=w1∧∀ j,j<i+1→sAt l j<t))
        case atStart=>exact ⟨0,rfl,hn0,by omega,rfl,fun j hj=>by
         have:j=0:=by omega
         subst this
         have h1:=HNE.out 0 (by omega)
         rw [sAt_zero] at h1 ⊢
         omega⟩
        case round=>
         obtain ⟨k,rfl,hk1,hk2,HR⟩:=hrel
         have hkI:(k:Int)≤1000001:=by omega
         have hkn:(k:Int)<(n:Int):=by omega
         obtain ⟨hw,hlt⟩:=HR.out
         have hw:=hw.symm
         subst hw
         have HLT:=Hid.mk' hlt
         clear hlt HR
         have hkl:k<l.length:=by rw [HN.out];exact hk1
         obtain ⟨kg,ko,hka,k0,k1,k2,k3⟩:=kr_cell HKV.out hkl
         subst hka
         have hat:=HJ.out.at' hkl
         have hs1:=sAt_succ hkl
         have hr1:=rAt_succ hkl
         obtain ⟨p1,hp1⟩:∃ p,l[k].2.1=p:=⟨_,rfl⟩
         obtain ⟨p2,hp2⟩:∃ p,l[k].2.2.1=p:=⟨_,rfl⟩
         obtain ⟨p3,hp3⟩:∃ p,l[k].2.2.2=p:=⟨_,rfl⟩
         rw [hp1] at k1 hs1
         rw [hp2] at k2 hat
         rw [hp3] at k3 hr1
         have HPP:Hid (sAt l (k+1)=p1∧rAt l k=p2∧rAt l (k+1)=p3):=⟨hs1,hat.2.2.2.symm,hr1⟩
         clear hp1 hp2 hp3 hs1 hr1 hat k0
         by_cases hp:p1<t
         · have hkn2:k+1<n:=by
            rcases Nat.lt_or_ge (k+1) n with e | e
            · exact e
            · exfalso
              have e2:k+1=n:=by omega
              have h1:=HLA.out.1
              rw [←e2,HPP.out.1] at h1
              omega
           go_wp2
           go_roundg (n - (k+1))
           case measure=>omega
           case rel=>exact ⟨k+1,rfl,hkn2,Nat.le_refl _,rfl,fun j hj=>by
            by_cases e:j=k+1
            · subst e;rw [HPP.out.1];exact hp
            · exact HLT.out j (by omega)⟩
         · go_wp2
           go_big_quiet (fail)
           go_wp2
           refine bodyPost_ret (v := .tuple #[.int .i64 p2,.int .i64 p3]) (by simp [results,Tryz.f12,go_sem]) rfl ?_
           have hne:=HNE.out (k+1) (by omega)
           rw [HPP.out.1] at hne
           refine ⟨p2,p3,rfl,.inr (.inl ⟨by omega,by rw [HLA.out.2];omega,k+1,by omega,by rw [srcs_len];omega,?_,?_,?_,?_⟩),HRS.out.2.trans (((Grown.refl w1).drewN _).below.mono HRS.out.2.size)⟩
           · rw [Nat.add_sub_cancel,sAt_getD];exact HLT.out k (by omega)
           · rw [sAt_getD,HPP.out.1];omega
           · rw [Nat.add_sub_cancel,rAt_getD];exact HPP.out.2.1.symm
           · rw [rAt_getD];exact HPP.out.2.2.symm
   · exact absurd HJ.out hno
 · obtain ⟨e1,e2⟩:=acr_nojoin hj
   rw [e1,e2]
   have HJ:=Hid.mk' hj
   clear e1 e2 hj
   go_enter Tryz.func12,Tryz.ntmps12
   go_wp2_with fail
   refine HB.out.mono ?_
   rintro e w1 ⟨v,b,rfl,⟨hyes,_⟩ | ⟨_,rfl,rfl⟩,hb1⟩
   · exact absurd hyes HJ.out
   · go_wp2
     refine bodyPost_ret (v := .tuple #[.int .i64 0,.int .i64 0]) (by simp [results,Tryz.f12,go_sem]) rfl ?_
     exact ⟨0,0,rfl,.inl ⟨.inl rfl,rfl,rfl⟩,hb1⟩
theorem sAt_pos {l:List Bk} (h:Join l) {j:Nat} (hj:j≤l.length):0≤sAt l j:=by
 rcases Nat.eq_zero_or_pos j with e | e
 · subst e;exact Int.le_refl _
 · have:=sAt_mono h e hj;rw [sAt_zero] at this;omega
def FrI (l:List Bk) (t:Int) (i:Nat) (f la:Int):Prop:=(f = -1∧la = -1∧∀ j,j<i→rAt l j≠t)∨(∃ a k,a≤k∧k<i∧rAt l a=t∧rAt l k=t∧(∀ j,j<a→rAt l j≠t)∧(∀ j,k<j→j<i→rAt l j≠t)∧f=sAt l a∧la=sAt l k∧0≤f)
theorem FrI.miss {l:List Bk} {t:Int} {i:Nat} {f la:Int} (h:FrI l t i f la) (hx:rAt l i≠t):FrI l t (i+1) f la:=by
 rcases h with ⟨h1,h2,h3⟩ | ⟨a,k,h1,h2,h3,h4,h5,h6,h7⟩
 · refine .inl ⟨h1,h2,fun j hj => ?_⟩
   by_cases e:j=i
   · subst e;exact hx
   · exact h3 j (by omega)
 · refine .inr ⟨a,k,h1,by omega,h3,h4,h5,fun j hj hji => ?_,h7⟩
   by_cases e:j=i
   · subst e;exact hx
   · exact h6 j hj (by omega)
theorem FrI.hit {l:List Bk} {t:Int} {i:Nat} {f la:Int} (h:FrI l t i f la) (hx:rAt l i=t) (h0:0≤sAt l i):(f<0∧FrI l t (i+1) (sAt l i) (sAt l i))∨(¬ f<0∧FrI l t (i+1) f (sAt l i)):=by
 rcases h with ⟨h1,h2,h3⟩ | ⟨a,k,h1,h2,h3,h4,h5,h6,h7,h8,h9⟩
 · exact .inl ⟨by omega,.inr ⟨i,i,Nat.le_refl _,by omega,hx,hx,h3,fun j hj hji=>by omega,rfl,rfl,h0⟩⟩
 · exact .inr ⟨by omega,.inr ⟨a,i,by omega,by omega,h3,hx,h5,fun j hj hji=>by omega,h7,rfl,h9⟩⟩
set_option maxHeartbeats 8000000 in
theorem rfrom_walk (va:Option Addr) (n vc:Nat) (l:List Bk) (t:Int) (w:World) (h:KR w (.slice va n vc) l) (hl:l.length=n) (hn:n≤1000000):Calls Tryz.prog 14 #[.slice va n vc,.int .i64 t] w (ToQ w (bR l) (bS l) t):=by
 have HB:=Hid.mk' (rborders_any _ l w h (by omega))
 have HK:=Hid.mk' h
 have HN:=Hid.mk' hl
 have hnI:(n:Int)≤1000000:=by omega
 clear h hl
 by_cases hj:Join l
 · obtain ⟨e1,e2⟩:=acr_join hj
   rw [e1,e2]
   have HJ:=Hid.mk' hj
   clear e1 e2 hj
   obtain ⟨last,hlast⟩:∃ x,rAt l l.length=x:=⟨_,rfl⟩
   have HLA:Hid (rAt l n=last∧(ress l).getD ((ress l).length - 1) 0=last):=⟨by rw [←HN.out];exact hlast,by rw [ress_len,Nat.add_sub_cancel];exact hlast⟩
   clear hlast
   have HOUT:Hid (∀ W,Below w.heap.size w W→(t<0∨last<t)→ToQ w (ress l) (srcs l) t (.returned (.tuple #[.int .i64 0,.int .i64 0])) W):=fun W hb hx=>⟨0,0,rfl,.inl ⟨hx.elim (fun e => .inr (.inl e)) (fun e => .inr (.inr (by rw [HLA.out.2];exact e))),rfl,rfl⟩,hb⟩
   have hN1:((n+1:Nat):Int) - 1=(n:Int):=by omega
   have hN2:(n:Int)<((n+1:Nat):Int):=by omega
   have hN3:(n:Int)+1 - 1=(n:Int):=by omega
   have hN4:(n:Int)<(n:Int)+1:=by omega
   go_enter Tryz.func14,Tryz.ntmps14
   go_wp2_with fail
   refine HB.out.mono ?_
   rintro e w1 ⟨v,b,rfl,⟨_,rfl,hrs⟩ | ⟨hno,_⟩,hb1⟩
   · obtain ⟨ba,bc,hv⟩:=rs_form hrs
     rw [brs_len,HN.out] at hv
     subst hv
     obtain ⟨g,o,hba,l0,l1⟩:=brs_cell hrs (j:=n) (by rw [HN.out];exact Nat.le_refl _)
     subst hba
     rw [HLA.out.1] at l1
     have HRS:=Hid.mk' (And.intro hrs hb1)
     have HKV:Hid (KR w1 (.slice va n vc) l):=HK.out.below hb1 (Nat.le_refl _)
     clear hrs hb1 HB l0
     by_cases ht0:t<0
     · go_wp2
       refine bodyPost_ret (v := .tuple #[.int .i64 0,.int .i64 0]) (by simp [results,Tryz.f14,go_sem]) rfl ?_
       exact HOUT.out _ HRS.out.2 (.inl ht0)
     by_cases htx:last<t
     · go_wp2
       refine bodyPost_ret (v := .tuple #[.int .i64 0,.int .i64 0]) (by simp [results,Tryz.f14,go_sem]) rfl ?_
       exact HOUT.out _ HRS.out.2 (.inr htx)
     go_wp2
     clear l1
     go_loopg [8,9,10] (n+1) (fun q s8 s9 s10 wr=>∃ (i:Nat) (f la:Int),s8 = .int .i64 f∧s9 = .int .i64 la∧s10 = .int .i64 (i:Int)∧i≤n+1∧n+1 - i≤q∧Hid (wr=w1∧FrI l t i f la))
     case atStart=>exact ⟨0,-1,-1,rfl,rfl,rfl,by omega,by omega,rfl,.inl ⟨rfl,rfl,fun j hj=>by omega⟩⟩
     case round=>
      obtain ⟨i,f,la,rfl,rfl,rfl,hi1,hi2,HR⟩:=hrel
      have hiI:(i:Int)≤1000001:=by omega
      obtain ⟨hw,hne⟩:=HR.out
      have hw:=hw.symm
      subst hw
      have HNE:=Hid.mk' hne
      clear hne HR
      by_cases hin:i<n+1
      · have hinI:(i:Int)<((n+1:Nat):Int):=by omega
        have hinJ:(i:Int)<(n:Int)+1:=by omega
        obtain ⟨g',o',he,c0,c1⟩:=brs_cell HRS.out.1 (j:=i) (by rw [HN.out];omega)
        injection he with he
        injection he with he1 he2 _
        subst he1
        subst he2
        obtain ⟨x,hx⟩:∃ x,sAt l i=x:=⟨_,rfl⟩
        obtain ⟨y,hy⟩:∃ y,rAt l i=y:=⟨_,rfl⟩
        rw [hx] at c0
        rw [hy] at c1
        have HX:Hid (sAt l i=x∧rAt l i=y):=⟨hx,hy⟩
        have hx0:(0:Int)≤x:=by rw [←hx];exact sAt_pos HJ.out (by rw [HN.out];omega)
        clear hx hy
        by_cases hxt:y=t
        · have hb:(y == t)=true:=by simpa using hxt
          have hd:decide (y=t)=true:=by simpa using hxt
          have HXT:Hid (rAt l i=t):=HX.out.2.trans hxt
          have HN2:Hid ((f<0∧FrI l t (i+1) x x)∨(¬ f<0∧FrI l t (i+1) f x)):=by
           have:=HNE.out.hit HXT.out (by rw [HX.out.1];exact hx0)
           rw [HX.out.1] at this
           exact this
          clear hxt
          rcases HN2.out with ⟨hf,hq⟩ | ⟨hf,hq⟩
          · have HQ:=Hid.mk' hq
            clear hq HN2
            go_wp2
            go_roundg (n+1 - (i+1))
            case measure=>omega
            case rel=>exact ⟨i+1,x,x,rfl,rfl,rfl,by omega,Nat.le_refl _,rfl,HQ.out⟩
          · have HQ:=Hid.mk' hq
            clear hq HN2
            go_wp2
            go_roundg (n+1 - (i+1))
            case measure=>omega
            case rel=>exact ⟨i+1,f,x,rfl,rfl,rfl,by omega,Nat.le_refl _,rfl,HQ.out⟩
        · have hb:(y == t)=false:=by simpa using hxt
          have hd:decide (y=t)=false:=by simpa using hxt
          have HQ:Hid (FrI l t (i+1) f la):=HNE.out.miss (by rw [HX.out.2];exact hxt)
          go_wp2
          go_roundg (n+1 - (i+1))
          case measure=>omega
          case rel=>exact ⟨i+1,f,la,rfl,rfl,rfl,by omega,Nat.le_refl _,rfl,HQ.out⟩
      · have hinI:¬ (i:Int)<((n+1:Nat):Int):=by omega
        have hinJ:¬ (i:Int)<(n:Int)+1:=by omega
        obtain rfl:i=n+1:=by omega
        by_cases hf:0≤f
        · go_wp2
          refine bodyPost_ret (v := .tuple #[.int .i64 f,.int .i64 la]) (by simp [results,Tryz.f14,go_sem]) rfl ?_
          rcases HNE.out with ⟨hm,_⟩ | ⟨a,k,h1,h2,h3,h4,h5,h6,h7,h8,_⟩
          · omega
          · refine ⟨f,la,rfl,.inr (.inr ⟨by omega,by rw [HLA.out.2];omega,a,k,h1,by rw [ress_len,HN.out];exact h2,h3,h4,fun j hj => ?_,fun j hj hjl => ?_,h7,h8⟩),HRS.out.2⟩
            · have:=rAt_mono HJ.out (i:=j) (j:=a) (by omega) (by rw [HN.out];omega)
              have:=h5 j hj
              rw [rAt_getD];omega
            · rw [ress_len,HN.out] at hjl
              have:=rAt_mono HJ.out (i:=k) (j:=j) (by omega) (by rw [HN.out];omega)
              have:=h6 j hj hjl
              rw [rAt_getD];omega
        have HALL:Hid (∀ j,j<n+1→rAt l j≠t):=by
         rcases HNE.out with ⟨_,_,h⟩ | ⟨a,k,_,_,_,_,_,_,_,_,h⟩
         · exact h
         · omega
        have hn0:0<n:=by
         rcases Nat.eq_zero_or_pos n with e | e
         · exfalso
           have h1:=HALL.out 0 (by omega)
           have h2:=HLA.out.1
           rw [e] at h2
           rw [rAt_zero] at h1 h2
           omega
         · exact e
        clear HNE
        go_wp2
        go_loopg [11] n (fun q s9 wr=>∃ i:Nat,s9 = .int .i64 (i:Int)∧i<n∧n - i≤q∧Hid (wr=w1∧∀ j,j<i+1→rAt l j<t))
        case atStart=>exact ⟨0,rfl,hn0,by omega,rfl,fun j hj=>by
         have:j=0:=by omega
         subst this
         have h1:=HALL.out 0 (by omega)
         rw [rAt_zero] at h1 ⊢
         omega⟩
        case round=>
         obtain ⟨k,rfl,hk1,hk2,HR⟩:=hrel
         have hkI:(k:Int)≤1000001:=by omega
         have hkn:(k:Int)<(n:Int):=by omega
         obtain ⟨hw,hlt⟩:=HR.out
         have hw:=hw.symm
         subst hw
         have HLT:=Hid.mk' hlt
         clear hlt HR
         have hkl:k<l.length:=by rw [HN.out];exact hk1
         obtain ⟨kg,ko,hka,k0,k1,k2,k3⟩:=kr_cell HKV.out hkl
         subst hka
         have hat:=HJ.out.at' hkl
         have hs1:=sAt_succ hkl
         have hr1:=rAt_succ hkl
         obtain ⟨p0,hp0⟩:∃ p,l[k].1=p:=⟨_,rfl⟩
         obtain ⟨p1,hp1⟩:∃ p,l[k].2.1=p:=⟨_,rfl⟩
         obtain ⟨p3,hp3⟩:∃ p,l[k].2.2.2=p:=⟨_,rfl⟩
         rw [hp0] at k0 hat
         rw [hp1] at k1 hs1
         rw [hp3] at k3 hr1
         have HPP:Hid (sAt l (k+1)=p1∧sAt l k=p0∧rAt l (k+1)=p3):=⟨hs1,hat.2.2.1.symm,hr1⟩
         clear hp0 hp1 hp3 hs1 hr1 hat k2
         by_cases hp:p3<t
         · have hkn2:k+1<n:=by
            rcases Nat.lt_or_ge (k+1) n with e | e
            · exact e
            · exfalso
              have e2:k+1=n:=by omega
              have h1:=HLA.out.1
              rw [←e2,HPP.out.2.2] at h1
              omega
           go_wp2
           go_roundg (n - (k+1))
           case measure=>omega
           case rel=>exact ⟨k+1,rfl,hkn2,Nat.le_refl _,rfl,fun j hj=>by
            by_cases e:j=k+1
            · subst e;rw [HPP.out.2.2];exact hp
            · exact HLT.out j (by omega)⟩
         · go_wp2
           go_big_quiet (fail)
           go_wp2
           refine bodyPost_ret (v := .tuple #[.int .i64 p0,.int .i64 p1]) (by simp [results,Tryz.f14,go_sem]) rfl ?_
           have hne:=HALL.out (k+1) (by omega)
           rw [HPP.out.2.2] at hne
           refine ⟨p0,p1,rfl,.inr (.inl ⟨by omega,by rw [HLA.out.2];omega,k+1,by omega,by rw [ress_len];omega,?_,?_,?_,?_⟩),HRS.out.2.trans (((Grown.refl w1).drewN _).below.mono HRS.out.2.size)⟩
           · rw [Nat.add_sub_cancel,rAt_getD];exact HLT.out k (by omega)
           · rw [rAt_getD,HPP.out.2.2];omega
           · rw [Nat.add_sub_cancel,sAt_getD];exact HPP.out.2.1.symm
           · rw [sAt_getD];exact HPP.out.1.symm
   · exact absurd HJ.out hno
 · obtain ⟨e1,e2⟩:=acr_nojoin hj
   rw [e1,e2]
   have HJ:=Hid.mk' hj
   clear e1 e2 hj
   go_enter Tryz.func14,Tryz.ntmps14
   go_wp2_with fail
   refine HB.out.mono ?_
   rintro e w1 ⟨v,b,rfl,⟨hyes,_⟩ | ⟨_,rfl,rfl⟩,hb1⟩
   · exact absurd hyes HJ.out
   · go_wp2
     refine bodyPost_ret (v := .tuple #[.int .i64 0,.int .i64 0]) (by simp [results,Tryz.f14,go_sem]) rfl ?_
     exact ⟨0,0,rfl,.inl ⟨.inl rfl,rfl,rfl⟩,hb1⟩
theorem Acr.one {hs ts:List Int} {t a b a' b':Int} (h:Acr hs ts t a b) (h':Acr hs ts t a' b') (hr:Rise hs):a=a'∧b=b':=by
 by_cases hin:0<hs.length∧0≤t∧t≤hs.getD (hs.length - 1) 0
 · obtain ⟨p,q,hp⟩:=h.pq hr hin.1 hin.2.1 hin.2.2
   obtain ⟨p',q',hp'⟩:=h'.pq hr hin.1 hin.2.1 hin.2.2
   have e1:=hp.ql
   have e2:=hp'.ql
   have e3:=hp.pq
   have e4:=hp'.pq
   have key:p=p'∧q=q':=by
    rcases hp.way with ⟨w1,w2,w3⟩ | ⟨w1,w2,w3,w4⟩ <;> rcases hp'.way with ⟨v1,v2,v3⟩ | ⟨v1,v2,v3,v4⟩
    · have a1:=hp'.lo p (by omega) w2
      have a2:=hp.lo p' (by omega) v2
      omega
    · exfalso
      rcases Nat.lt_or_ge p p' with e | e
      · have:=hr.at' (i:=q) (j:=p') (by omega) (by omega);omega
      · have:=hr.at' (i:=p') (j:=p) (by omega) (by omega);omega
    · exfalso
      rcases Nat.lt_or_ge p' p with e | e
      · have:=hr.at' (i:=q') (j:=p) (by omega) (by omega);omega
      · have:=hr.at' (i:=p) (j:=p') (by omega) (by omega);omega
    · constructor
      · rcases Nat.lt_trichotomy p p' with e | e | e
        · have:=v3 p e;omega
        · exact e
        · have:=w3 p' e;omega
      · rcases Nat.lt_trichotomy q q' with e | e | e
        · have:=w4 q' e e2;omega
        · exact e
        · have:=v4 q e e1;omega
   obtain ⟨rfl,rfl⟩:=key
   exact ⟨hp.ha.trans hp'.ha.symm,hp.hb.trans hp'.hb.symm⟩
 · have hz:∀ {x y:Int},Acr hs ts t x y→x=0∧y=0:=fun {x y} h=>by
    rcases h with ⟨_,h⟩ | ⟨a1,a2,i,a3,a4,_⟩ | ⟨a1,a2,i,k,a3,a4,_⟩
    · exact h
    · exact absurd ⟨by omega,a1,a2⟩ hin
    · exact absurd ⟨by omega,a1,a2⟩ hin
   have h1:=hz h
   have h2:=hz h'
   exact ⟨h1.1.trans h2.1.symm,h1.2.trans h2.2.symm⟩
def bkD (us:List Int):Nat→List (Int × Int)
 | 0=>[]
 | m+1=>((m:Int),us.getD m 0)::bkD us m
theorem fr_kall {F:Nat→Prop} {b:Nat} {X Y:World} (h:KAll F b X Y):Fr X Y (fun k=>¬ F k):=⟨h.bel.os,h.bel.tape,h.bel.output,h.bel.size,fun k hk hn=>by
 have hF:F k:=Classical.not_not.1 hn
 have e:X.heap[k]? = some X.heap[k]:=Array.getElem?_eq_getElem hk
 rw [e]
 exact h.same k _ hF e⟩
def BkF (bx:Nat) (v:Value) (k:Nat):Prop:=k=bx∨v.ownBlock=some k
def encB (x:Int × Int):Array Value:=#[.int .i64 x.1,.int .i64 x.2]
set_option maxHeartbeats 4000000 in
theorem back_seqF {V:World} {bx:Nat} {v:Value} {us:List Int} (hbx:V.heap[bx]? = some (.cells #[v] 46 (0,0))) (hu:IR V v us) (hub:us.length≤1000000) {b:Nat} (n l:Nat) (hn:1≤n) :
 SeqF n 93 #[] #[.pointer (some ⟨bx,0,none⟩)] encB (bkD us us.length) b (BkF bx v) (fun _ _=>True) V l:=by
 intro J Jx hJ hJx hY h0
 obtain ⟨m0,hm0⟩:∃ m,us.length=m:=⟨_,rfl⟩
 obtain ⟨a,c,hv,_⟩:=id hu
 rw [hm0] at hv hub ⊢
 rw [hm0] at hY
 subst hv
 have HM:=Hid.mk' hm0
 have hm0I:(m0:Int)≤1000000:=by omega
 have HH:=Hid.mk' (And.intro hbx hu)
 have c0:V.cell? ⟨bx,0,none⟩=some (.slice a m0 c):=by rw [cell_of hbx];rfl
 have HHY:=Hid.mk' hY
 clear hbx hu hY hm0
 refine callsIn_of_wp Tryz.func93 rfl trivial ?_ rfl
 simp only [Tryz.ntmps93,List.size_toArray,List.length_cons,List.length_nil,Nat.reduceAdd,Nat.reduceSub,Array.replicate_succ,Array.replicate_zero,List.push_toArray,List.append_toArray,List.nil_append,List.cons_append]
 gi_wp2_with fail
 gi_loopg [3] (m0+1) (fun f s3 wr=>∃ m:Nat,s3 = .int .i64 ((m:Int) - 1)∧m≤m0∧m+1≤f∧Hid (∃ pre,bkD us m0=pre++bkD us m∧J pre (BkF bx (.slice a m0 c)) wr∧wr.heap[bx]? = some (.cells #[.slice a m0 c] 46 (0,0))∧IR wr (.slice a m0 c) us))
 case atStart=>exact ⟨m0,rfl,Nat.le_refl _,by omega,[],rfl,h0,HH.out.1,HH.out.2⟩
 case round=>
  obtain ⟨m,rfl,hmm,hmf,HR⟩:=hrel
  obtain ⟨pre,hpre,hJr,hbx,hir⟩:=HR.out
  have hmI:(m:Int)≤1000000:=by omega
  cases m with
  | zero=>
   have HK:Hid (J (bkD us m0) (BkF bx (.slice a m0 c)) wr):=by
    have e:bkD us m0=pre:=by rw [hpre];simp [bkD]
    show J _ _ _
    rw [e];exact hJr
   clear hpre hJr hbx hir HR
   gi_wp2
   go_end0
   exact ⟨⟨_,rfl⟩,.inl ⟨_,HK.out,trivial⟩⟩
  | succ m=>
   have hge:(0:Int)≤(m:Int):=by omega
   have hlt:(m:Int)<(m0:Int):=by omega
   have hmi:((m+1:Nat):Int) - 1=(m:Int):=by omega
   rw [hmi]
   have d0:wr.cell? ⟨bx,0,none⟩=some (.slice a m0 c):=by rw [cell_of hbx];rfl
   obtain ⟨g,o,hae,du⟩:=ir_cell hir (j:=m) (by rw [HM.out];omega)
   subst hae
   obtain ⟨u,hu⟩:∃ u,us.getD m 0=u:=⟨_,rfl⟩
   rw [hu] at du
   have hxf:pre++[((m:Int),u)] <+: bkD us m0:=by rw [hpre,←hu];exact ⟨bkD us m,by simp [bkD]⟩
   obtain ⟨fn,tmps,assign,body,hy,hR⟩:=HHY.out pre ((m:Int),u) _ wr hJr hxf
   dsimp only [encB] at hy
   have HRR:=Hid.mk' hR
   have HP:Hid (bkD us m0=(pre++[((m:Int),u)])++bkD us m∧pre++[((m:Int),u)] <+: bkD us m0∧wr.heap[bx]? = some (.cells #[.slice (some ⟨g,o,none⟩) m0 c] 46 (0,0))∧IR wr (.slice (some ⟨g,o,none⟩) m0 c) us):=⟨by rw [hpre,←hu];simp [bkD],hxf,hbx,hir⟩
   clear hR hpre hJr hbx hir hxf hu HR
   gi_wp2
   refine HRR.out.mono ?_
   rintro e W3 (⟨rfl,hJ3,hk3⟩ | ⟨rfl,hJx3,hk3⟩)
   · gi_wp2
     gi_roundg (m+1)
     case measure=>omega
     case rel=>
      obtain ⟨p1,p2,p3,p4⟩:=HP.out
      exact ⟨m,rfl,by omega,Nat.le_refl _,_,p1,hJ3,hk3.same _ _ (.inl rfl) p3,p4.fr (fr_kall hk3) fun b hb hn=>hn (.inr hb)⟩
   · gi_wp2
     refine bodyPost_ret (results_none rfl _ _ _) rfl ?_
     exact ⟨⟨_,rfl⟩,.inr ⟨_,_,⟨HP.out.2.1,by simp⟩,hJx3⟩⟩
theorem backward_any (a:Option Addr) (n c:Nat) (W:World):Calls Tryz.prog 57 #[.slice a n c] W fun e w'=>e = .returned (.func (.func 93) #[] #[.pointer (some ⟨W.heap.size,0,none⟩)])∧w'=W.alloc (.cells #[.slice a n c] 46):=by
 go_enter Tryz.func57,Tryz.ntmps57
 go_wp2
 go_ret
 exact ⟨rfl,rfl⟩
theorem wpOpIn_step {F:Fence} {n:Nat} {P:Program} {ops:Array Oper} {Q:Exit→Act→World→Prop} {i:Nat} {o:Oper} {a:Act} {w:World} {K:Act→World→Prop} (ho:ops[i]? = some o) (h:∀ K':Act→World→Prop,(∀ a w,K a w→K' a w)→if Region.wanted o (yielded ops a.tmps)=true then o.wpIn F n P a w K' Q else (∀ f,o.about P w a.eval=some f→F.fn f)∧K' (a.put o.dst undef) w):wpOpIn F n P ops Q i K a w:=by
 unfold wpOpIn
 simp only [ho]
 exact h K fun _ _ h=>h
def IStepI (F:Fence) (n:Nat) (P:Program) (ops:Array Oper) (Q:Exit→Act→World→Prop) (J:(Nat→Bool)→(Nat→Value)→World→Prop) (a0:Act) (i:Nat) (o:Oper):Prop:=
 ∀ (a:Act) (w:World) (p:Nat→Bool) (vs:Nat→Value),J p vs w→(∀ j,(o.after.any fun e=>Region.binds .any e && e.on == j)=true→p j=true)→p i=false→(∀ (j:Nat) (oj:Oper) (d:Tmp),p j=true→ops[j]? = some oj→oj.dst=some d→a.tmps.getD d undef=vs j)→(∀ d,(ops.all fun p => !decide (p.dst=some d))=true→a.tmps.getD d undef=a0.tmps.getD d undef) →
  ∀ K:Act→World→Prop,(∀ v w',J (fun j=>p j || j == i) (fun j=>if j=i then v else vs j) w'→K (a.put o.dst v) w')→if Region.wanted o (yielded ops a.tmps)=true then o.wpIn F n P a w K Q else (∀ f,o.about P w a.eval=some f→F.fn f)∧K (a.put o.dst undef) w
def IStepsI (F:Fence) (n:Nat) (P:Program) (ops:Array Oper) (Q:Exit→Act→World→Prop) (J:(Nat→Bool)→(Nat→Value)→World→Prop) (a0:Act):List Oper→Nat→Prop
 | [],_=>True
 | o::l,k=>IStepI F n P ops Q J a0 k o∧IStepsI F n P ops Q J a0 l (k+1)
theorem istepsI_at {F:Fence} {n:Nat} {P:Program} {ops:Array Oper} {Q:Exit→Act→World→Prop} {J:(Nat→Bool)→(Nat→Value)→World→Prop} {a0:Act} : ∀ (l:List Oper) (k:Nat),IStepsI F n P ops Q J a0 l k→∀ (i:Nat) (o:Oper),l[i]? = some o→IStepI F n P ops Q J a0 (k+i) o
 | [],_,_,i,o,h=>by simp at h
 | x::l,k,hs,i,o,h=>by
  cases i with
  | zero=>simp at h;subst h;exact hs.1
  | succ i=>
   have:=istepsI_at l (k+1) hs.2 i o (by simpa using h)
   rwa [show k+1+i=k+(i+1) by omega] at this
theorem wpAnyIn_inv {F:Fence} {n:Nat} {P:Program} {ops:Array Oper} {Q:Exit→Act→World→Prop} {J:(Nat→Bool)→(Nat→Value)→World→Prop} {a0:Act} (hd:Once ops) (he:Early ops) (hsz:∀ (i:Nat) (o:Oper) (d:Tmp),ops[i]? = some o→o.dst=some d→d<a0.tmps.size)
 (hst:∀ (i:Nat) (o:Oper),ops[i]? = some o→IStepI F n P ops Q J a0 i o) (hfin:∀ vs w,J (fun j=>decide (j<ops.size)) vs w→Q .normal (putL vs ops.toList 0 a0) w) :
 ∀ (fuel:Nat) (listed:Array Bool) (w:World) (l m:List Nat) (vs:Nat→Value),m.length=fuel→(l++m).Perm (List.range ops.size)→(∀ i,i<ops.size→listed.getD i true=decide (i∈l))→listed.size=ops.size→J (fun j=>decide (j∈l)) vs w →
  wpAnyIn F n P .any ops Q fuel listed (l.foldl (put1 ops vs) a0) w:=by
 have fin:∀ (l m:List Nat) (vs:Nat→Value) (w:World),m=[]→(l++m).Perm (List.range ops.size)→J (fun j=>decide (j∈l)) vs w→Q .normal (l.foldl (put1 ops vs) a0) w:=by
  intro l m vs w hm hp hj
  subst hm
  rw [List.append_nil] at hp
  rw [hp.foldl_eq' (fun x _ y _ z=>put1_comm hd x y z)]
  have:List.range ops.size=List.range' 0 ops.toList.length:=by rw [Array.length_toList,List.range_eq_range']
  rw [this,fold_range vs ops ops.toList 0 a0 (fun j=>by simp)]
  refine hfin vs w ?_
  have e:(fun j=>decide (j<ops.size))=fun j=>decide (j∈l):=by
   funext j
   rw [decide_eq_decide,hp.mem_iff,List.mem_range]
  rw [e]
  exact hj
 have nodup:∀ (l m:List Nat),(l++m).Perm (List.range ops.size)→(l++m).Nodup:=fun l m hp=>hp.nodup_iff.2 List.nodup_range
 have stuck:∀ (l m:List Nat) (listed:Array Bool),(l++m).Perm (List.range ops.size)→(∀ i,i<ops.size→listed.getD i true=decide (i∈l))→listed.size=ops.size→Region.ready .any ops listed=[]→m=[]:=by
  intro l m listed hp hl hs hr
  have all:∀ i,i<ops.size→i∈l:=by
   intro i
   induction i using Nat.strongRecOn with
   | _ i ih=>
    intro hi
    refine Classical.byContradiction fun hn => ?_
    have hmem:i∈Region.ready .any ops listed:=by
     rw [mem_ready]
     refine ⟨by rw [hl i hi];simp [hn],ops[i],by simp [hi],fun e hme hb => ?_⟩
     have hlt:=he i ops[i] (by simp [hi]) e hme hb
     have h1:=ih e.on hlt (by omega)
     have h2:=hl e.on (by omega)
     rw [decide_eq_true h1] at h2
     have h3:e.on<listed.size:=by omega
     simpa [h3] using h2
    rw [hr] at hmem
    cases hmem
  cases m with
  | nil=>rfl
  | cons x m=>
   have hx:x<ops.size:=by
    have:x∈List.range ops.size:=hp.mem_iff.1 (by simp)
    simpa using this
   have h1:=all x hx
   have h2:=nodup l (x::m) hp
   rw [List.nodup_append] at h2
   exact absurd rfl (h2.2.2 x h1 x (by simp))
 intro fuel
 induction fuel with
 | zero=>
  intro listed w l m vs hm hp hl hs hj
  have hm0:=List.eq_nil_of_length_eq_zero hm
  refine ⟨?_,fin l m vs w hm0 hp hj⟩
  rw [List.eq_nil_iff_forall_not_mem]
  intro j hjr
  rw [mem_ready] at hjr
  obtain ⟨h1,o,ho,_⟩:=hjr
  have hlt:=(Array.getElem?_eq_some_iff.1 ho).1
  rw [hl j hlt] at h1
  subst hm0
  rw [List.append_nil] at hp
  exact absurd (hp.mem_iff.2 (by simpa using hlt)) (of_decide_eq_false h1)
 | succ fuel ih=>
  intro listed w l m vs hm hp hl hs hj
  refine ⟨fun hr=>fin l m vs w (stuck l m listed hp hl hs hr) hp hj,fun i hir => ?_⟩
  rw [mem_ready] at hir
  obtain ⟨h1,o,ho,hall⟩:=hir
  have hlt:=(Array.getElem?_eq_some_iff.1 ho).1
  rw [hl i hlt] at h1
  have hil:i ∉ l:=of_decide_eq_false h1
  have him:i∈m:=by
   have:i∈l++m:=hp.mem_iff.2 (by simpa using hlt)
   rw [List.mem_append] at this
   exact this.resolve_left hil
  refine wpOpIn_step ho (fun K hK=>hst i o ho _ w (fun j=>decide (j∈l)) vs hj ?_ (decide_eq_false hil) ?_ ?_ K (fun v w' hv=>hK _ _ ?_))
  · intro j hja
    rw [Array.any_eq_true'] at hja
    obtain ⟨e,hme,h2⟩:=hja
    simp only [Bool.and_eq_true,beq_iff_eq] at h2
    obtain ⟨hb,rfl⟩:=h2
    have h3:=hall e hme hb
    have hlt2:=he i o ho e hme hb
    have h4:=hl e.on (by omega)
    have h5:e.on<listed.size:=by omega
    have h6:listed.getD e.on true=true:=by simpa [h5] using h3
    rw [h6] at h4
    exact h4.symm
  · intro j oj d hjl hoj hod
    exact fold_get hd (of_decide_eq_true hjl) hoj hod (hsz j oj d hoj hod)
  · intro d hfree
    refine fold_other (fun k p hp2 h2 => ?_) a0
    rw [Array.all_eq_true_iff_forall_mem] at hfree
    have:=hfree p (Array.mem_of_getElem? hp2)
    simp [h2] at this
  · let us:Nat→Value:=fun j=>if j=i then v else vs j
    have hus:∀ j∈l,us j=vs j:=fun j hjl=>by
     show (if j=i then v else vs j)=vs j
     rw [if_neg (fun e=>hil (by rw [←e];exact hjl))]
    have hui:us i=v:=by show (if i=i then v else vs i)=v;rw [if_pos rfl]
    have e1:(l.foldl (put1 ops vs) a0).put o.dst v=(l++[i]).foldl (put1 ops us) a0:=by
     rw [List.foldl_append,fold_congr hus]
     show _=put1 ops us _ i
     unfold put1
     rw [ho,hui]
    rw [e1]
    refine ih (listed.setIfInBounds i true) w' (l++[i]) (m.erase i) us (by rw [List.length_erase_of_mem him];omega) ?_ ?_ (by simpa using hs) ?_
    · rw [List.append_assoc]
      exact (List.Perm.append_left l (List.perm_cons_erase him).symm).trans hp
    · intro j hjn
      by_cases hji:j=i
      · subst hji
        have h5:j<listed.size:=by omega
        simp [h5]
      · have h5:j<listed.size:=by omega
        have:=hl j hjn
        simp only [Array.getD_eq_getD_getElem?] at this ⊢
        rw [Array.getElem?_setIfInBounds_ne (fun e=>hji e.symm),this]
        simp [hji]
    · have e2:(fun j=>decide (j∈l++[i]))=fun j=>decide (j∈l) || j == i:=by
       funext j
       by_cases hji:j=i
       · subst hji;simp
       · simp [hji]
      rw [e2]
      exact hv
theorem wpIn_region_inv {F:Fence} {n:Nat} {P:Program} {id:Nat} {l:List Oper} {Q:Exit→Act→World→Prop} {a0:Act} {w0:World} (hm:P.follows .mixedOrders=true) (h1:onceB l=true) (h2:earlyB 0 l=true) (h3:(l.all fun o=>match o.dst with | none=>true | some d=>decide (d<a0.tmps.size))=true)
 (J:(Nat→Bool)→(Nat→Value)→World→Prop) (h0:J (fun _=>false) (fun _=>undef) w0.drew) (hst:IStepsI F n P l.toArray Q J a0 l 0) (hfin:∀ vs w,J (fun j=>decide (j<l.length)) vs w→Q .normal (putL vs l 0 a0) w):(Code.region id l.toArray true).wpIn F n P Q a0 w0:=by
 refine wpIn_region_any hm ?_
 have h:=wpAnyIn_inv (F:=F) (n:=n) (P:=P) (ops:=l.toArray) (Q:=Q) (J:=J) (a0:=a0) (once_of h1) (early_of h2) (fun i o d ho hod=>by
  have:=List.all_eq_true.1 h3 o (List.mem_of_getElem? (by simpa using ho))
  rw [hod] at this
  exact of_decide_eq_true this) (fun i o ho=>by
  have:=istepsI_at l 0 hst i o (by simpa using ho)
  rwa [Nat.zero_add] at this) (fun vs w hj=>hfin vs w (by simpa using hj))
  l.toArray.size (Array.replicate l.toArray.size false) w0.drew [] (List.range l.toArray.size) (fun _=>undef) (by simp) (by simp) (fun i hi=>by simp at hi;simp [hi]) (by simp) (by simpa using h0)
 exact h
structure JB (X:World) (tb base:Nat) (bv:Value) (bk:List Int) (u:Int) (cs:Value→Array Value) (val:Nat→Option Value) (p:Nat→Bool) (vs:Nat→Value) (W:World):Prop where
 v:∀ i x,val i=some x→p i=true→vs i=x
 f:Fr X W (fun k=>bv.ownBlock=some k∨k=tb)
 n:p 10=false→W.heap[tb]? = some (.cells (cs bv) 77 (0,0))
 e6:p 6=true→∃ g,vs 6 = .slice (some ⟨g,0,none⟩) 1 1∧X.heap.size≤g∧W.heap[g]? = some (.cells #[.int .i64 u] 3 (0,0))
 s0:p 7=false→OwnI W base bv bk
 s1:p 7=true→OwnI W base (vs 7) (bk++[u])∧∀ k,(vs 7).ownBlock=some k→bv.ownBlock=some k∨X.heap.size≤k
 d4:p 7=true→p 4=true∧p 6=true
 d7:p 10=true→p 7=true
 t:p 10=true→W.heap[tb]? = some (.cells (cs (vs 7)) 77 (0,0))
section JB
variable {X:World} {tb base:Nat} {bv:Value} {bk:List Int} {u:Int} {cs:Value→Array Value} {val:Nat→Option Value} {p:Nat→Bool} {vs:Nat→Value} {W:World}
theorem JB.put (h:JB X tb base bv bk u cs val p vs W) (i:Nat) {x:Value} (hx:val i=some x) (h6:i≠6:=by decide) (h7:i≠7:=by decide) (h10:i≠10:=by decide):JB X tb base bv bk u cs val (fun j=>p j || j == i) (fun j=>if j=i then x else vs j) W:=by
 have e6:((6:Nat) == i)=false:=by simp;omega
 have e7:((7:Nat) == i)=false:=by simp;omega
 have e10:((10:Nat) == i)=false:=by simp;omega
 refine ⟨fun j y hy hp => ?_,h.f,fun hp=>h.n ?_,fun hp => ?_,fun hp=>h.s0 ?_,fun hp => ?_,fun hp => ?_,fun hp => ?_,fun hp => ?_⟩
 · by_cases ej:j=i
   · subst ej;rw [if_pos rfl];rw [hx] at hy;injection hy
   · rw [if_neg ej];exact h.v j y hy (by simpa [ej] using hp)
 · simpa [e10] using hp
 · rw [if_neg (Ne.symm h6)];exact h.e6 (by simpa [e6] using hp)
 · simpa [e7] using hp
 · rw [if_neg (Ne.symm h7)];exact h.s1 (by simpa [e7] using hp)
 · have:=h.d4 (by simpa [e7] using hp)
   exact ⟨by simp [this.1],by simp [this.2]⟩
 · have:=h.d7 (by simpa [e10] using hp)
   simp [this]
 · rw [if_neg (Ne.symm h7)];exact h.t (by simpa [e10] using hp)
theorem JB.no10 (h:JB X tb base bv bk u cs val p vs W) (h7:p 7=false):p 10=false:=by
 cases e:p 10 with
 | false=>rfl
 | true=>have:=h.d7 e;rw [h7] at this;cases this
theorem JB.no7 (h:JB X tb base bv bk u cs val p vs W) (h4:p 4=false∨p 6=false):p 7=false:=by
 cases e:p 7 with
 | false=>rfl
 | true=>
  have:=h.d4 e
  rcases h4 with h4 | h4
  · rw [h4] at this;cases this.1
  · rw [h4] at this;cases this.2
theorem JB.six (h:JB X tb base bv bk u cs val p vs W) (hp6:p 6=false) (hx:val 6=none):JB X tb base bv bk u cs val (fun j=>p j || j == 6) (fun j=>if j=6 then .slice (some ⟨W.heap.size,0,none⟩) 1 1 else vs j) (W.alloc (.cells #[.int .i64 u] 3)):=by
 have h7:=h.no7 (.inr hp6)
 have h10:=h.no10 h7
 have hg:Grown W (W.alloc (.cells #[.int .i64 u] 3)):=(Grown.refl W).alloc _
 have hb:=h.n h10
 refine ⟨fun j y hy hp => ?_,h.f.trans (fr_grown hg _) fun _ _ e=>e,fun _=>(hg.below.block _ (blk_lt hb)).trans hb,fun _=>⟨_,by rw [if_pos rfl],h.f.size,heap_alloc_new _ _⟩,fun _=>(h.s0 h7).alloc _,fun hp => ?_,fun hp => ?_,fun hp => ?_,fun hp => ?_⟩
 · by_cases ej:j=6
   · subst ej;rw [hx] at hy;cases hy
   · rw [if_neg ej];exact h.v j y hy (by simpa [ej] using hp)
 · simp [h7] at hp
 · simp [h7] at hp
 · simp [h10] at hp
 · simp [h10] at hp
theorem JB.seven (h:JB X tb base bv bk u cs val p vs W) (hp7:p 7=false) (hp4:p 4=true) (hp6:p 6=true) (hx:val 7=none) (_htb:tb<X.heap.size) (hne:∀ k,bv.ownBlock=some k→k<X.heap.size∧k≠tb) {v':Value} {w':World} (q1:OwnI w' base v' (bk++[u])) (q2:W.grownBy w' bv.ownBlock) (q3:v'.ownBlock=bv.ownBlock∨v'.ownBlock=some W.heap.size):JB X tb base bv bk u cs val (fun j=>p j || j == 7) (fun j=>if j=7 then v' else vs j) w':=by
 have h10:=h.no10 hp7
 have hb:=h.n h10
 have fq:=fr_by q2
 obtain ⟨g,hg1,hg2,hg3⟩:=h.e6 hp6
 refine ⟨fun j y hy hp => ?_,h.f.trans fq fun k _ e => .inl e,fun _=>(fq.block _ (blk_lt hb) fun e=>(hne _ e).2 rfl).trans hb,fun _=>⟨g,by rw [if_neg (by decide)];exact hg1,hg2,(fq.block _ (blk_lt hg3) fun e=>by have:=(hne _ e).1;omega).trans hg3⟩,fun hp => ?_,fun _ => ?_,fun _=>⟨by simp [hp4],by simp [hp6]⟩,fun hp => ?_,fun hp => ?_⟩
 · by_cases ej:j=7
   · subst ej;rw [hx] at hy;cases hy
   · rw [if_neg ej];exact h.v j y hy (by simpa [ej] using hp)
 · simp at hp
 · rw [if_pos rfl]
   refine ⟨q1,fun k hk => ?_⟩
   rcases q3 with e | e
   · rw [e] at hk;exact .inl hk
   · rw [e] at hk;injection hk with hk;have:=h.f.size;exact .inr (by omega)
 · simp [h10] at hp
 · simp [h10] at hp
theorem JB.ten (h:JB X tb base bv bk u cs val p vs W) (hp7:p 7=true) (hp10:p 10=false) (hx:val 10=none) (htb:tb<X.heap.size) (hne:∀ k,bv.ownBlock=some k→k<X.heap.size∧k≠tb) (hcs:∀ x y,(cs x).setIfInBounds 2 y=cs y) {z:Value} : JB X tb base bv bk u cs val (fun j=>p j || j == 10) (fun j=>if j=10 then z else vs j) (W.setCell ⟨tb,2,none⟩ (vs 7)):=by
 have hb:=h.n hp10
 have fq:=fr_set W tb 2 (vs 7)
 obtain ⟨s1,s2⟩:=h.s1 hp7
 have hnt:∀ k,(vs 7).ownBlock=some k→k≠tb:=fun k hk=>by
  rcases s2 k hk with e | e
  · exact (hne k e).2
  · omega
 refine ⟨fun j y hy hp => ?_,h.f.trans fq fun k _ e => .inr e,fun hp => ?_,fun hp => ?_,fun hp => ?_,fun _ => ?_,fun hp => ?_,fun _=>by simp [hp7],fun _ => ?_⟩
 · by_cases ej:j=10
   · subst ej;rw [hx] at hy;cases hy
   · rw [if_neg ej];exact h.v j y hy (by simpa [ej] using hp)
 · simp at hp
 · obtain ⟨g,hg1,hg2,hg3⟩:=h.e6 (by simpa using hp)
   exact ⟨g,by rw [if_neg (by decide)];exact hg1,hg2,(fq.block _ (blk_lt hg3) fun e=>by have e:g=tb:=e;omega).trans hg3⟩
 · simp [hp7] at hp
 · rw [if_neg (by decide)]
   exact ⟨own_fr s1 fq fun b hb e=>hnt b hb e,s2⟩
 · have:=h.d4 hp7
   exact ⟨by simp [this.1],by simp [this.2]⟩
 · rw [if_neg (by decide),set_heap hb,hcs]
end JB
theorem op_appendIn {F:Fence} {n:Nat} {o:Oper} {a:Act} {w w':World} {v':Value} {K:Act→World→Prop} {Q:Exit→Act→World→Prop} {s x:Operand} {t:TypeId} (ho:o.op = .call { callee := .builtin .append,args:=#[s,x],argTypes:=#[t,t] }) {u y:Value} (hs:a.eval s=u) (hx:a.eval x=y) (hr:(Builtin.append_ #[t,t] o.type #[u,y]).run Tryz.prog w = .ok v' w') (h:K (a.put o.dst v') w'):Oper.wpIn F n Tryz.prog o a w K Q:=by
 unfold Oper.wpIn
 refine ⟨by simp [Oper.about,ho,resolve,Target.leads,Sem.run_pure],?_⟩
 rw [Oper.semAt_plain F _ _ (by rw [ho];intro c hc';cases hc')]
 simp only [execOp,ho,resolve,invoke,builtin,Sem.run_bind,Sem.run_pure,Result.andThen_ok,List.map_toArray,List.map_cons,List.map_nil,hs,hx,hr]
 exact h
def FlI (W:World) (tb base:Nat) (rv:Value) (s:ByteArray) (p:Nat) (bv:Value) (bk:List Int) (D:Int) (h:Nat) (pre:List (Int × Int)) (F:Nat→Prop) (X:World):Prop:=
 ∃ bvx,TK X tb base rv s p bvx (bk++pre.map Prod.snd) D∧X.heap[W.heap.size]? = some (.cells #[.pointer (some ⟨tb,0,none⟩)] 106 (0,0))∧Fr W X (fun k=>k=tb∨bv.ownBlock=some k)∧(∀ k,F k→W.heap.size<k∧k<X.heap.size)∧∀ b,bvx.ownBlock=some b→(bv.ownBlock=some b∨W.heap.size<b)∧¬ F b∧b≠h∧b≠h+1
theorem FlI.stab {W:World} {tb base:Nat} {rv:Value} {s:ByteArray} {p:Nat} {bv:Value} {bk:List Int} {D:Int} {h:Nat} (htb:tb<W.heap.size) (hh:W.heap.size<h):StabI h (FlI W tb base rv s p bv bk D h):=by
 rintro pre F F' X Y ⟨bvx,k1,k2,k3,k4,k5⟩ z0 z1 hf hn hlt
 have nF:∀ k,k<X.heap.size→¬ F k→¬ F' k:=fun k hk hn' hf'=>by rcases hn k hf' with e | e;exact hn' e;omega
 have l2:=blk_lt k2
 refine ⟨bvx,k1.fr hf (fun e => ?_) (fun b hb e => ?_),(hf.block _ l2 fun e => ?_).trans k2,k3.trans hf fun k hk e => ?_,fun k hk=>⟨?_,hlt (fun k hk=>(k4 k hk).2) k hk⟩,fun b hb=>⟨(k5 b hb).1,nF _ (World.ownsRow.lt k1.own b hb).2 (k5 b hb).2.1,(k5 b hb).2.2⟩⟩
 · rcases e with e | e
   · have:=(k4 _ e).1;omega
   · omega
 · rcases e with e | e
   · exact (k5 b hb).2.1 e
   · exact (k5 b hb).2.2.2 e
 · rcases e with e | e
   · have:=(k4 _ e).1;omega
   · omega
 · rcases e with e | e
   · have:=(k4 _ e).1;omega
   · omega
 · rcases hn k hk with e | e
   · exact (k4 _ e).1
   · have:=blk_lt k2;omega
theorem FlI.pushed {W X W':World} {tb base:Nat} {rv:Value} {s:ByteArray} {p:Nat} {bv bvx:Value} {bk bkx:List Int} {D:Int} {h:Nat} {F:Nat→Prop} {u:Int} {val:Nat→Option Value} {vs:Nat→Value} (htb:tb<W.heap.size) (hh:W.heap.size<h) (hX:h+2≤X.heap.size) (_z0:¬ F h) (_z1:¬ F (h+1))
 (k1:TK X tb base rv s p bvx bkx D) (k2:X.heap[W.heap.size]? = some (.cells #[.pointer (some ⟨tb,0,none⟩)] 106 (0,0))) (k3:Fr W X (fun k=>k=tb∨bv.ownBlock=some k)) (k4:∀ k,F k→W.heap.size<k∧k<X.heap.size) (k5:∀ b,bvx.ownBlock=some b→(bv.ownBlock=some b∨W.heap.size<b)∧¬ F b∧b≠h∧b≠h+1) (k6:bvx.ownBlock≠some W.heap.size)
 (hJ:JB X tb base bvx bkx u (fun b=>#[rv,.string (s.extract p s.size),b,.int .i64 D]) val (fun j=>decide (j<11)) vs W') {pre:List (Int × Int)} {x:Int × Int} (hu:x.2=u) (hbk:bkx=bk++pre.map Prod.snd):KAll (ZF F h) 0 X W'∧FlI W tb base rv s p bv bk D h (pre++[x]) F W':=by
 obtain ⟨s1,s2⟩:=hJ.s1 rfl
 have hf:=hJ.f
 have hx7:∀ b,(vs 7).ownBlock=some b→b≠tb:=fun b hb e=>by
  rcases s2 b hb with e2 | e2
  · exact k1.ne b e2 e
  · have:=k3.size;omega
 refine ⟨⟨⟨hf.os,hf.tape,hf.output,hf.size,fun k hk=>by omega⟩,fun k o hk ho=>(hf.block k (blk_lt ho) fun e => ?_).trans ho⟩,vs 7,⟨hJ.t rfl,?_,k1.pl,hx7⟩,(hf.block _ (blk_lt k2) fun e => ?_).trans k2,k3.trans hf fun k hk e => ?_,fun k hk=>⟨(k4 k hk).1,Nat.lt_of_lt_of_le (k4 k hk).2 hf.size⟩,fun b hb => ?_⟩
 · rcases e with e | e
   · have:=k5 k e
     rcases hk with hk | hk | hk
     · exact this.2.1 hk
     · exact this.2.2.1 hk
     · exact this.2.2.2 hk
   · rcases hk with hk | hk | hk
     · have:=(k4 k hk).1;omega
     · omega
     · omega
 · have e:bk++(pre++[x]).map Prod.snd=bkx++[u]:=by rw [List.map_append,←List.append_assoc,←hbk];simp [hu]
   rw [e];exact s1
 · rcases e with e | e
   · exact k6 e
   · omega
 · rcases e with e | e
   · rcases (k5 k e).1 with e2 | e2
     · exact .inr e2
     · omega
   · exact .inl e
 · rcases s2 b hb with e | e
   · exact k5 b e
   · exact ⟨.inr (by have:=k3.size;omega),fun hf'=>by have:=(k4 b hf').2;omega,by omega,by omega⟩
def FolQ (W:World) (tb base:Nat) (rv:Value) (s:ByteArray) (bv:Value) (bk:List Int) (n:Nat) (B lf2:List Int) (dn:Int) (e:Ending) (W':World):Prop:=
 ∃ v p' bv' bk',e = .returned v∧TK W' tb base rv s p' bv' bk' dn∧lfO bk' s p'=B++lf2∧Fr W W' (fun k=>k=tb∨bv.ownBlock=some k)∧(∀ b,bv'.ownBlock=some b→bv.ownBlock=some b∨W.heap.size<b)∧bk'.length=bk.length - n+B.length
theorem bkD_snd (B:List Int):∀ n,n≤B.length→(bkD B n).map Prod.snd=(B.take n).reverse
 | 0,_=>by simp [bkD]
 | n+1,h=>by
  rw [bkD,List.map_cons,bkD_snd B n (by omega),List.take_succ_eq_append_getElem (by omega),List.reverse_append,getD_lt (by omega)]
  rfl
theorem bkD_all (B:List Int):(bkD B B.length).map Prod.snd=B.reverse:=by rw [bkD_snd B _ (Nat.le_refl _),List.take_length]
theorem bkD_pre {B:List Int} {pre:List (Int × Int)} (h:pre <+: bkD B B.length):(pre.map Prod.snd).length≤B.length:=by
 have:=(h.map Prod.snd).length_le
 rw [bkD_all] at this
 simpa using this
end Go.Proofs
