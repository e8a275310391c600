/-
  Several texts in one (Zc Zd Ze Zf Zg Zh Zi Zj Zl).
-/
import Derived.RangeFuncNested
import Derived.RangeFuncBound
import Derived.RangeFuncCalls
import Derived.RangeFuncLeaves
import Derived.Shelf.Abstract
import Derived.Shelf.RegionOpen
import Derived.WalkKit
import Derived.WalkSpells
import Derived.WalkLawsBesides
import Derived.OwnWalkIn
import Derived.TacticsInMore
import Derived.LoopNIn
import Derived.LoopIn
import Derived.BigQuiet
import Derived.RegionIn
import Derived.Deep.QuietTactic
import Derived.Deep.RegionWith
import Derived.Lib.OthersKept
import Derived.Maps.AppendAt
import Derived.Lib.SmallJoins
import Derived.Shelf.SlSortCmp.QuietGrown
import Derived.RangeFuncWrites
import Derived.RangeFuncBox
import Derived.Maps.OwnIn
import Derived.Test.YtibgnkpagfpinaaGreatDoorMgmt
import Derived.Test.YtibgnkpagfpinaaGreatDoorGxt
import Derived.Test.YtibgnkpagfpinaaGreatDoorJft
import Derived.Test.YtibgnkpagfpinaaGreatDoorMght
namespace Go.Proofs
open Go.RowKit Go.Shelf
set_option maxRecDepth 100000
attribute [local go_sem] Oper.semAt_some
attribute [local go_sem ↓] Go.wp_at_zero Go.wp_at_succ
def BoQ (w:World) (l:List Bk) (e:Ending) (w':World):Prop:=∃ sv rv,e = .returned (.tuple #[sv,rv])∧OwnI w' w.heap.size sv (bS l)∧OwnI w' w.heap.size rv (bR l)∧(∀ k,rv.ownBlock=some k→sv.ownBlock≠some k)∧Below w.heap.size w w'
set_option maxHeartbeats 8000000 in
theorem borders_walk (a:Option Addr) (n c:Nat) (l:List Bk) (w:World) (h:KR w (.slice a n c) l) (hln:l.length=n) (hn:n≤1000000):Calls Tryz.prog 31 #[.slice a n c] w (BoQ w l):=by
 have HK:=Hid.mk' h
 have HLN:=Hid.mk' hln
 have hnI:(n:Int)≤1000000:=by omega
 have hb0:((w.alloc (.cells #[.int .i64 0] 3)).alloc (.cells #[.int .i64 0] 3)).heap[w.heap.size]? = some (.cells #[.int .i64 0] 3 (0,0)):=(Below.heap_alloc _ _ _ (by simp)).trans (heap_alloc_new w _)
 have hb1:((w.alloc (.cells #[.int .i64 0] 3)).alloc (.cells #[.int .i64 0] 3)).heap[w.heap.size+1]? = some (.cells #[.int .i64 0] 3 (0,0)):=by
  have:=heap_alloc_new (w.alloc (.cells #[.int .i64 0] 3)) (.cells #[.int .i64 0] 3)
  simpa using this
 have HS0:Hid (OwnI ((w.alloc (.cells #[.int .i64 0] 3)).alloc (.cells #[.int .i64 0] 3)) w.heap.size (.slice (some ⟨w.heap.size,0,none⟩) (0+1) 1) ((srcs l).take (0+1))∧OwnI ((w.alloc (.cells #[.int .i64 0] 3)).alloc (.cells #[.int .i64 0] 3)) w.heap.size (.slice (some ⟨w.heap.size+1,0,none⟩) (0+1) 1) ((ress l).take (0+1))):=by
  refine ⟨?_,?_⟩
  · exact ⟨rfl,.inr ⟨w.heap.size,1,_,rfl,Nat.le_refl _,hb0,Nat.le_refl _,by decide,rfl,rfl⟩⟩
  · exact ⟨rfl,.inr ⟨w.heap.size+1,1,_,rfl,by omega,hb1,Nat.le_refl _,by decide,rfl,rfl⟩⟩
 have HG0:Hid (Below w.heap.size w ((w.alloc (.cells #[.int .i64 0] 3)).alloc (.cells #[.int .i64 0] 3))):=(((Grown.refl w).alloc _).alloc _).below
 clear h hln hb0 hb1
 go_enter Tryz.func31,Tryz.ntmps31
 go_wp2
 go_loopg [2,3,10] n (fun q s2 s3 s10 wr=>∃ (i:Nat) (sa:Option Addr) (sc:Nat) (ra:Option Addr) (rc:Nat),s2 = .slice sa (i+1) sc∧s3 = .slice ra (i+1) rc∧s10 = .int .i64 (i:Int)∧i≤n∧n - i≤q∧Hid (OwnI wr w.heap.size (.slice sa (i+1) sc) ((srcs l).take (i+1))∧OwnI wr w.heap.size (.slice ra (i+1) rc) ((ress l).take (i+1))∧(∀ k,(Value.slice ra (i+1) rc).ownBlock=some k→(Value.slice sa (i+1) sc).ownBlock≠some k)∧Below w.heap.size w wr∧Jn l i))
 case atStart=>
  refine ⟨0,_,_,_,_,rfl,rfl,rfl,by omega,by omega,HS0.out.1,HS0.out.2,fun k hk e => ?_,HG0.out,Jn.zero l⟩
  have hk:some (w.heap.size+1)=some k:=hk
  have e:some w.heap.size=some k:=e
  injection hk with hk
  injection e with e
  omega
 case round=>
  obtain ⟨i,sa,sc,ra,rc,rfl,rfl,rfl,hi1,hi2,HR⟩:=hrel
  clear HS0 HG0
  have hiI:(i:Int)≤1000000:=by omega
  by_cases hil:i<n
  · have hilI:(i:Int)<(n:Int):=by omega
    have hill:i<l.length:=by rw [HLN.out];exact hil
    obtain ⟨r1,r2,r3,r4,r5⟩:=HR.out
    obtain ⟨a',c',hae,_,hkr⟩:=HK.out
    injection hae with ha1 ha2 ha3
    subst ha1
    clear ha2 ha3
    obtain ⟨kg,ko,hka,hkc⟩:=hkr.resolve_left (fun e=>by rw [e] at hill;simp at hill)
    subst hka
    obtain ⟨b,hbe⟩:∃ b,l[i]=b:=⟨_,rfl⟩
    have hk4:=hkc i hill
    rw [hbe] at hk4
    obtain ⟨b0,b1,b3,b2⟩:=b
    obtain ⟨k0,k1,k2,k3⟩:=hk4.below r4 (Nat.le_refl _)
    simp only at k0 k1 k2 k3
    -- the rows' last places
    obtain ⟨sg,hsa⟩:∃ g,sa=some ⟨g,0,none⟩:=by
     rcases r1.2 with ⟨e,h0⟩ | ⟨g,cap,cur,e,_⟩
     · have:=congrArg List.length (List.eq_nil_of_length_eq_zero h0);rw [List.length_take,srcs_len] at this;simp at this
     · injection e with e _ _;exact ⟨g,e⟩
    obtain ⟨rg,hra⟩:∃ g,ra=some ⟨g,0,none⟩:=by
     rcases r2.2 with ⟨e,h0⟩ | ⟨g,cap,cur,e,_⟩
     · have:=congrArg List.length (List.eq_nil_of_length_eq_zero h0);rw [List.length_take,ress_len] at this;simp at this
     · injection e with e _ _;exact ⟨g,e⟩
    subst hsa
    subst hra
    have hls:((srcs l).take (i+1)).length=i+1:=by rw [List.length_take,srcs_len];omega
    have hlr:((ress l).take (i+1)).length=i+1:=by rw [List.length_take,ress_len];omega
    have cS:wr.cell? ⟨sg,i,none⟩=some (.int .i64 (sAt l i)):=by
     obtain ⟨_,_,e,_,hh⟩:=r1.ir
     injection e with e _ _
     obtain ⟨g,o,e2,hrd⟩:=hh.resolve_left (fun e=>by rw [e] at hls;simp at hls)
     rw [←e] at e2
     injection e2 with e2
     injection e2 with e3 e4 _
     have:=hrd i (by omega)
     rw [List.getElem_take,←e3,←e4,Nat.zero_add] at this
     rw [this]
     have h2:=sAt_in (l:=l) (n:=i) (by omega)
     rw [List.getElem?_eq_getElem (by rw [srcs_len];omega)] at h2
     injection h2 with h2
     rw [h2]
    have cR:wr.cell? ⟨rg,i,none⟩=some (.int .i64 (rAt l i)):=by
     obtain ⟨_,_,e,_,hh⟩:=r2.ir
     injection e with e _ _
     obtain ⟨g,o,e2,hrd⟩:=hh.resolve_left (fun e=>by rw [e] at hlr;simp at hlr)
     rw [←e] at e2
     injection e2 with e2
     injection e2 with e3 e4 _
     have:=hrd i (by omega)
     rw [List.getElem_take,←e3,←e4,Nat.zero_add] at this
     rw [this]
     have h2:=rAt_in (l:=l) (n:=i) (by omega)
     rw [List.getElem?_eq_getElem (by rw [ress_len];omega)] at h2
     injection h2 with h2
     rw [h2]
    have cS:=cell_up cS (.cells #[.int .i64 b0,.int .i64 b1,.int .i64 b3,.int .i64 b2] 44)
    have cR:=cell_up cR (.cells #[.int .i64 b0,.int .i64 b1,.int .i64 b3,.int .i64 b2] 44)
    obtain ⟨es,hes⟩:∃ es,sAt l i=es:=⟨_,rfl⟩
    obtain ⟨er,her⟩:∃ er,rAt l i=er:=⟨_,rfl⟩
    rw [hes] at cS
    rw [her] at cR
    have HOK:Hid (okB (sAt l i) (rAt l i) l[i]↔b0=es∧b3=er∧b0<b1∧b3≤b2):=by show _↔_;rw [hes,her,hbe];exact Iff.rfl
    have HBE:Hid (l[i]=(b0,b1,b3,b2)):=hbe
    have HBW:=Hid.mk' r4
    have HRR:=Hid.mk' (And.intro r1 (And.intro r2 (And.intro r3 r5)))
    clear r1 r2 r3 r4 r5 HR hk4 hkc hkr hes her hbe hls hlr
    go_wp2
    obtain ⟨X0,hX0⟩:∃ X0,X0=wr.alloc (.cells #[.int .i64 b0,.int .i64 b1,.int .i64 b3,.int .i64 b2] 44):=⟨_,rfl⟩
    obtain ⟨bx,hbx⟩:∃ bx,bx=wr.heap.size:=⟨_,rfl⟩
    have HGX0:Hid (Grown wr X0):=by show Grown _ _;rw [hX0];exact (Grown.refl wr).alloc _
    have hbX0:X0.heap[bx]? = some (.cells #[.int .i64 b0,.int .i64 b1,.int .i64 b3,.int .i64 b2] 44 (0,0)):=by rw [hX0,hbx];exact heap_alloc_new wr _
    have cb0:X0.cell? ⟨bx,0,none⟩=some (.int .i64 b0):=by rw [cell_of hbX0];rfl
    have cb1:X0.cell? ⟨bx,1,none⟩=some (.int .i64 b1):=by rw [cell_of hbX0];rfl
    have cb2:X0.cell? ⟨bx,2,none⟩=some (.int .i64 b3):=by rw [cell_of hbX0];rfl
    have cb3:X0.cell? ⟨bx,3,none⟩=some (.int .i64 b2):=by rw [cell_of hbX0];rfl
    rw [←hX0] at cS cR ⊢
    rw [←hbx]
    have HBXS:Hid (bx=wr.heap.size):=hbx
    clear hX0 hbx k0 k1 k2 k3
    by_cases g1:b0=es
    · by_cases g2:b3=er
      · by_cases g3:b0<b1
        · by_cases g4:b3≤b2
          · -- it joins
            have HJN:Hid (Jn l (i+1)):=(Jn.succ hill).2 ⟨HRR.out.2.2.2,HOK.out.2 ⟨g1,g2,g3,g4⟩⟩
            have g3':¬ b1≤b0:=by omega
            have g4':¬ b2<b3:=by omega
            subst g1
            subst g2
            clear HOK
            go_big_quiet (fail)
            go_wp2
            obtain ⟨X,hX⟩:∃ X,X=X0.drewN nq:=⟨_,rfl⟩
            rw [←hX]
            have hGX:Grown wr X:=by rw [hX];exact HGX0.out.drewN nq
            have hbX:X.heap[bx]? = some (.cells #[.int .i64 b0,.int .i64 b1,.int .i64 b3,.int .i64 b2] 44 (0,0)):=by rw [hX];exact hbX0
            have hbx:=HBXS.out
            obtain ⟨ls,hls⟩:∃ ls,(srcs l).take (i+1)=ls:=⟨_,rfl⟩
            obtain ⟨lr,hlr⟩:∃ lr,(ress l).take (i+1)=lr:=⟨_,rfl⟩
            have HTK:Hid ((srcs l).take (i+1+1)=ls++[b1]∧(ress l).take (i+1+1)=lr++[b2]):=⟨by rw [srcs_take hill,hls,HBE.out],by rw [ress_take hill,hlr,HBE.out]⟩
            have HOX:Hid (OwnI X w.heap.size (.slice (some ⟨sg,0,none⟩) (i+1) sc) ls∧OwnI X w.heap.size (.slice (some ⟨rg,0,none⟩) (i+1) rc) lr):=by
             rw [←hls,←hlr]
             exact ⟨HRR.out.1.below hGX.below (Nat.le_refl _),HRR.out.2.1.below hGX.below (Nat.le_refl _)⟩
            have HLS:Hid (ls.length=i+1∧lr.length=i+1):=⟨by rw [←hls,List.length_take,srcs_len];omega,by rw [←hlr,List.length_take,ress_len];omega⟩
            have HLB:Hid (ls.length≤1000001∧lr.length≤1000001):=⟨by rw [HLS.out.1];omega,by rw [HLS.out.2];omega⟩
            have HST:Hid (H2 X w.heap.size (.slice (some ⟨sg,0,none⟩) (i+1) sc) (.slice (some ⟨rg,0,none⟩) (i+1) rc)):=⟨fun k hk=>(World.ownsRow.lt HOX.out.1 k hk).2,fun k hk=>(World.ownsRow.lt HOX.out.2 k hk).2,fun k hk e=>HRR.out.2.2.1 k e hk,by have:=HBW.out.size;have:=hGX.size;omega⟩
            have HBX:Hid (X.heap[bx]? = some (.cells #[.int .i64 b0,.int .i64 b1,.int .i64 b3,.int .i64 b2] 44 (0,0))∧¬ ((Value.slice (some ⟨sg,0,none⟩) (i+1) sc).ownBlock=some bx∨(Value.slice (some ⟨rg,0,none⟩) (i+1) rc).ownBlock=some bx)):=⟨hbX,fun e=>by
             rcases e with e | e
             · have:=(World.ownsRow.lt HRR.out.1 bx e).2;omega
             · have:=(World.ownsRow.lt HRR.out.2.1 bx e).2;omega⟩
            have HBX2:Hid (Below w.heap.size w X):=HBW.out.trans (hGX.below.mono HBW.out.size)
            have HJ0:Hid (J2 X w.heap.size (.slice (some ⟨sg,0,none⟩) (i+1) sc) (.slice (some ⟨rg,0,none⟩) (i+1) rc) ls lr b1 b2 (val7 (.slice (some ⟨sg,0,none⟩) (i+1) sc) (.slice (some ⟨rg,0,none⟩) (i+1) rc) bx b1 b2) (fun _=>false) (fun _=>undef) X.drew):=by
             have f:=fr_grown (Grown.refl X).drew (fun k=>(Value.slice (some ⟨sg,0,none⟩) (i+1) sc).ownBlock=some k∨(Value.slice (some ⟨rg,0,none⟩) (i+1) rc).ownBlock=some k)
             exact ⟨fun _ _ _ h=>(by cases h),f,fun h=>(by cases h),fun h=>(by cases h),fun _=>HOX.out.1.below (Grown.refl X).drew.below (Nat.le_refl _),fun h=>(by cases h),fun _=>HOX.out.2.below (Grown.refl X).drew.below (Nat.le_refl _),fun h=>(by cases h),fun h=>(by cases h),fun h=>(by cases h),fun h=>(by cases h),fun h=>(by cases h)⟩
            clear hX hbX hGX hls hlr hbx HRR cS cR cb0 cb1 cb2 cb3 hbX0 HBE HGX0 HBXS
            refine wp_region_inv2 mixed (by kernel_rfl) (by kernel_rfl) (by kernel_rfl) (J2 X w.heap.size (.slice (some ⟨sg,0,none⟩) (i+1) sc) (.slice (some ⟨rg,0,none⟩) (i+1) rc) ls lr b1 b2 (val7 (.slice (some ⟨sg,0,none⟩) (i+1) sc) (.slice (some ⟨rg,0,none⟩) (i+1) rc) bx b1 b2)) HJ0.out ⟨?_,?_,?_,?_,?_,?_,?_,?_,?_,?_,?_,?_,trivial⟩ ?_
            · as_aux_lemma=>
               intro aA wx p vs hJ hdep hpi hval hfr K hK
               rw [if_pos (show Region.wanted _ _=true from rfl)]
               have hp1:p 10=false:=by cases e:p 10 with | false=>rfl | true=>(have h1:=hJ.d4 (hJ.as2 e).1;rw [hpi] at h1;cases h1)
               have zd0:aA.tmps.getD 2 undef = .slice (some ⟨sg,0,none⟩) (i+1) sc:=hfr 2 (ndst1 10 (by kernel_rfl) hp1)
               have hJ':=hJ.pure 0 (by decide) (by decide) (by decide) (by decide) rfl
               clear hval hfr hdep hJ
               simp only [Array.getD_eq_getD_getElem?] at zd0
               go_simp
               exact hK _ _ hJ'
            · as_aux_lemma=>
               intro aA wx p vs hJ hdep hpi hval hfr K hK
               rw [if_pos (show Region.wanted _ _=true from rfl)]
               have zd0:aA.tmps.getD 5 undef = .pointer (some ⟨bx,0,none⟩):=hfr 5 (ndst (by kernel_rfl))
               have hJ':=hJ.pure 1 (by decide) (by decide) (by decide) (by decide) rfl
               clear hval hfr hdep hJ
               simp only [Array.getD_eq_getD_getElem?] at zd0
               go_simp
               exact hK _ _ hJ'
            · as_aux_lemma=>
               intro aA wx p vs hJ hdep hpi hval hfr K hK
               rw [if_pos (show Region.wanted _ _=true from rfl)]
               have zd0:aA.tmps.getD 46 undef = .pointer (some ⟨bx,1,none⟩):=(hval 1 _ 46 (hdep 1 (by kernel_rfl)) (by rfl) rfl).trans (hJ.v 1 _ rfl (hdep 1 (by kernel_rfl)))
               have hc:wx.cell? ⟨bx,1,none⟩=some (.int .i64 b1):=(cell_fr2 hJ.f HBX.out.2 (blk_lt HBX.out.1)).trans (by rw [cell_of HBX.out.1];rfl)
               have hJ':=hJ.pure 2 (by decide) (by decide) (by decide) (by decide) rfl
               clear hval hfr hdep hJ
               simp only [Array.getD_eq_getD_getElem?] at zd0
               go_simp
               exact hK _ _ hJ'
            · as_aux_lemma=>
               intro aA wx p vs hJ hdep hpi hval hfr K hK
               rw [if_pos (show Region.wanted _ _=true from rfl)]
               have zd0:aA.tmps.getD 47 undef = .int .i64 b1:=(hval 2 _ 47 (hdep 2 (by kernel_rfl)) (by rfl) rfl).trans (hJ.v 2 _ rfl (hdep 2 (by kernel_rfl)))
               have hJ':=hJ.grow ((Grown.refl wx).alloc (.cells #[.int .i64 b1] 3)) 3 (by decide) (by decide) rfl (x := .slice (some ⟨wx.heap.size,0,none⟩) 1 1) (fun _=>⟨_,rfl,hJ.f.size,heap_alloc_new _ _⟩) (fun e=>by cases e)
               clear hval hfr hdep hJ
               simp only [Array.getD_eq_getD_getElem?] at zd0
               go_simp
               exact hK _ _ hJ'
            · as_aux_lemma=>
               intro aA wx p vs hJ hdep hpi hval hfr K hK
               rw [if_pos (show Region.wanted _ _=true from rfl)]
               have zd0:aA.tmps.getD 45 undef = .slice (some ⟨sg,0,none⟩) (i+1) sc:=(hval 0 _ 45 (hdep 0 (by kernel_rfl)) (by rfl) rfl).trans (hJ.v 0 _ rfl (hdep 0 (by kernel_rfl)))
               have zd1:aA.tmps.getD 48 undef=vs 3:=hval 3 _ 48 (hdep 3 (by kernel_rfl)) (by rfl) rfl
               obtain ⟨g,hvg,hgX,hgc⟩:=hJ.e3 (hdep 3 (by kernel_rfl))
               rw [hvg] at zd1
               obtain ⟨v',w',hrun,q1,q2,q3⟩:=run_appI wx 72 w.heap.size (.slice (some ⟨sg,0,none⟩) (i+1) sc) ls [b1] (.slice (some ⟨g,0,none⟩) 1 1) (hJ.s0 hpi) (ir_lone hgc) (by have:=HLB.out;simp;omega) (by have:=hJ.f.size;have:=HST.out.2.2.2;omega)
               have hJ':=hJ.app4 HST.out rfl (hdep 0 (by kernel_rfl)) hpi q1 q2 q3
               clear hval hfr hdep hJ
               exact op_append rfl zd0 zd1 hrun (hK _ _ hJ')
            · as_aux_lemma=>
               intro aA wx p vs hJ hdep hpi hval hfr K hK
               rw [if_pos (show Region.wanted _ _=true from rfl)]
               have hp1:p 11=false:=by cases e:p 11 with | false=>rfl | true=>(have h1:=hJ.d9 (hJ.as3 e).1;rw [hpi] at h1;cases h1)
               have zd0:aA.tmps.getD 3 undef = .slice (some ⟨rg,0,none⟩) (i+1) rc:=hfr 3 (ndst1 11 (by kernel_rfl) hp1)
               have hJ':=hJ.pure 5 (by decide) (by decide) (by decide) (by decide) rfl
               clear hval hfr hdep hJ
               simp only [Array.getD_eq_getD_getElem?] at zd0
               go_simp
               exact hK _ _ hJ'
            · as_aux_lemma=>
               intro aA wx p vs hJ hdep hpi hval hfr K hK
               rw [if_pos (show Region.wanted _ _=true from rfl)]
               have zd0:aA.tmps.getD 5 undef = .pointer (some ⟨bx,0,none⟩):=hfr 5 (ndst (by kernel_rfl))
               have hJ':=hJ.pure 6 (by decide) (by decide) (by decide) (by decide) rfl
               clear hval hfr hdep hJ
               simp only [Array.getD_eq_getD_getElem?] at zd0
               go_simp
               exact hK _ _ hJ'
            · as_aux_lemma=>
               intro aA wx p vs hJ hdep hpi hval hfr K hK
               rw [if_pos (show Region.wanted _ _=true from rfl)]
               have zd0:aA.tmps.getD 51 undef = .pointer (some ⟨bx,3,none⟩):=(hval 6 _ 51 (hdep 6 (by kernel_rfl)) (by rfl) rfl).trans (hJ.v 6 _ rfl (hdep 6 (by kernel_rfl)))
               have hc:wx.cell? ⟨bx,3,none⟩=some (.int .i64 b2):=(cell_fr2 hJ.f HBX.out.2 (blk_lt HBX.out.1)).trans (by rw [cell_of HBX.out.1];rfl)
               have hJ':=hJ.pure 7 (by decide) (by decide) (by decide) (by decide) rfl
               clear hval hfr hdep hJ
               simp only [Array.getD_eq_getD_getElem?] at zd0
               go_simp
               exact hK _ _ hJ'
            · as_aux_lemma=>
               intro aA wx p vs hJ hdep hpi hval hfr K hK
               rw [if_pos (show Region.wanted _ _=true from rfl)]
               have zd0:aA.tmps.getD 52 undef = .int .i64 b2:=(hval 7 _ 52 (hdep 7 (by kernel_rfl)) (by rfl) rfl).trans (hJ.v 7 _ rfl (hdep 7 (by kernel_rfl)))
               have hJ':=hJ.grow ((Grown.refl wx).alloc (.cells #[.int .i64 b2] 3)) 8 (by decide) (by decide) rfl (x := .slice (some ⟨wx.heap.size,0,none⟩) 1 1) (fun e=>by cases e) (fun _=>⟨_,rfl,hJ.f.size,heap_alloc_new _ _⟩)
               clear hval hfr hdep hJ
               simp only [Array.getD_eq_getD_getElem?] at zd0
               go_simp
               exact hK _ _ hJ'
            · as_aux_lemma=>
               intro aA wx p vs hJ hdep hpi hval hfr K hK
               rw [if_pos (show Region.wanted _ _=true from rfl)]
               have zd0:aA.tmps.getD 50 undef = .slice (some ⟨rg,0,none⟩) (i+1) rc:=(hval 5 _ 50 (hdep 5 (by kernel_rfl)) (by rfl) rfl).trans (hJ.v 5 _ rfl (hdep 5 (by kernel_rfl)))
               have zd1:aA.tmps.getD 53 undef=vs 8:=hval 8 _ 53 (hdep 8 (by kernel_rfl)) (by rfl) rfl
               obtain ⟨g,hvg,hgX,hgc⟩:=hJ.e8 (hdep 8 (by kernel_rfl))
               rw [hvg] at zd1
               have hp4:p 4=true:=hdep 4 (by kernel_rfl)
               obtain ⟨v',w',hrun,q1,q2,q3⟩:=run_appI wx 72 w.heap.size (.slice (some ⟨rg,0,none⟩) (i+1) rc) lr [b2] (.slice (some ⟨g,0,none⟩) 1 1) (hJ.r0 hpi) (ir_lone hgc) (by have:=HLB.out;simp;omega) (by have:=hJ.f.size;have:=HST.out.2.2.2;omega)
               have hJ':=hJ.app9 HST.out rfl (hdep 5 (by kernel_rfl)) hp4 hpi q1 q2 q3
               clear hval hfr hdep hJ
               exact op_append rfl zd0 zd1 hrun (hK _ _ hJ')
            · as_aux_lemma=>
               intro aA wx p vs hJ hdep hpi hval hfr K hK
               rw [if_pos (show Region.wanted _ _=true from rfl)]
               have zd0:aA.tmps.getD 49 undef=vs 4:=hval 4 _ 49 (hdep 4 (by kernel_rfl)) (by rfl) rfl
               have hJ':=hJ.asg 10 4 (.inl ⟨rfl,rfl⟩) rfl (hdep 4 (by kernel_rfl))
               clear hval hfr hdep hJ
               simp only [Array.getD_eq_getD_getElem?] at zd0
               go_simp
               exact hK _ _ hJ'
            · as_aux_lemma=>
               intro aA wx p vs hJ hdep hpi hval hfr K hK
               rw [if_pos (show Region.wanted _ _=true from rfl)]
               have zd0:aA.tmps.getD 54 undef=vs 9:=hval 9 _ 54 (hdep 9 (by kernel_rfl)) (by rfl) rfl
               have hJ':=hJ.asg 11 9 (.inr ⟨rfl,rfl⟩) rfl (hdep 9 (by kernel_rfl))
               clear hval hfr hdep hJ
               simp only [Array.getD_eq_getD_getElem?] at zd0
               go_simp
               exact hK _ _ hJ'
            · intro vs W hJ
              rw [putL_eq]
              simp only [putsL,List.set_cons_zero,List.set_cons_succ,Nat.zero_add,Nat.reduceAdd]
              obtain ⟨o1,o2⟩:=hJ.s1 rfl
              obtain ⟨_,o3,o4⟩:=hJ.r1 rfl
              obtain ⟨_,e10⟩:=hJ.as2 rfl
              obtain ⟨_,e11⟩:=hJ.as3 rfl
              rw [e10,e11]
              obtain ⟨sa',sc',hs'⟩:=o1.sl
              obtain ⟨ra',rc',hr'⟩:=o3.sl
              rw [List.length_append,HLS.out.1,List.length_singleton] at hs'
              rw [List.length_append,HLS.out.2,List.length_singleton] at hr'
              have HN:Hid (OwnI W w.heap.size (.slice sa' (i+1+1) sc') (ls++[b1])∧OwnI W w.heap.size (.slice ra' (i+1+1) rc') (lr++[b2])∧(∀ k,(Value.slice ra' (i+1+1) rc').ownBlock=some k→(Value.slice sa' (i+1+1) sc').ownBlock≠some k)∧Below w.heap.size X W):=by
               rw [←hs',←hr']
               exact ⟨o1,o3,fun k hk=>(o4 k hk).2,hJ.f.below (fun k hk=>by rcases hk with e | e;exact (World.ownsRow.lt HOX.out.1 k e).1;exact (World.ownsRow.lt HOX.out.2 k e).1) HST.out.2.2.2⟩
              rw [hs',hr']
              clear hJ o1 o2 o3 o4 e10 e11 hs' hr'
              generalize vs 0=y0
              generalize vs 1=y1
              generalize vs 2=y2
              generalize vs 3=y3
              generalize vs 5=y5
              generalize vs 6=y6
              generalize vs 7=y7
              generalize vs 8=y8
              go_wp2
              go_roundg (n - (i+1))
              case measure=>omega
              case rel=>
               obtain ⟨n1,n2,n3,n4⟩:=HN.out
               refine ⟨i+1,sa',sc',ra',rc',rfl,rfl,rfl,by omega,Nat.le_refl _,?_,?_,n3,HBX2.out.trans (n4.mono (Nat.le_refl _)),HJN.out⟩
               · rw [HTK.out.1];exact n1
               · rw [HTK.out.2];exact n2
          · have hbad:¬ okB (sAt l i) (rAt l i) l[i]:=fun e=>g4 (HOK.out.1 e).2.2.2
            have g4':b2<b3:=by omega
            have g3':¬ b1≤b0:=by omega
            subst g1
            subst g2
            go_big_quiet (fail)
            go_wp2
            refine bodyPost_ret (v := .tuple #[.slice none 0 0,.slice none 0 0]) (by simp [results,Tryz.f31,go_sem]) rfl ?_
            have hnj:¬ Join l:=fun hj=>hbad ((Jn.succ (by rw [HLN.out];exact hil)).1 (fun j hj1 _=>hj j hj1 hj1)).2
            have e1:bS l=[]:=by unfold bS;rw [if_neg hnj]
            have e2:bR l=[]:=by unfold bR;rw [if_neg hnj]
            exact ⟨_,_,rfl,by rw [e1];exact OwnI.nil _ _,by rw [e2];exact OwnI.nil _ _,fun k hk=>(by cases hk),HBW.out.trans (((HGX0.out.drewN _).below).mono HBW.out.size)⟩
        · have hbad:¬ okB (sAt l i) (rAt l i) l[i]:=fun e=>g3 (HOK.out.1 e).2.2.1
          have g3':b1≤b0:=by omega
          subst g1
          subst g2
          go_big_quiet (fail)
          go_wp2
          refine bodyPost_ret (v := .tuple #[.slice none 0 0,.slice none 0 0]) (by simp [results,Tryz.f31,go_sem]) rfl ?_
          have hnj:¬ Join l:=fun hj=>hbad ((Jn.succ (by rw [HLN.out];exact hil)).1 (fun j hj1 _=>hj j hj1 hj1)).2
          have e1:bS l=[]:=by unfold bS;rw [if_neg hnj]
          have e2:bR l=[]:=by unfold bR;rw [if_neg hnj]
          exact ⟨_,_,rfl,by rw [e1];exact OwnI.nil _ _,by rw [e2];exact OwnI.nil _ _,fun k hk=>(by cases hk),HBW.out.trans (((HGX0.out.drewN _).below).mono HBW.out.size)⟩
      · have hbad:¬ okB (sAt l i) (rAt l i) l[i]:=fun e=>g2 (HOK.out.1 e).2.1
        have g2b:(b3 != er)=true:=by simpa using g2
        have g2c:decide (b3=er)=false:=by simpa using g2
        subst g1
        go_big_quiet (fail)
        go_wp2
        refine bodyPost_ret (v := .tuple #[.slice none 0 0,.slice none 0 0]) (by simp [results,Tryz.f31,go_sem]) rfl ?_
        have hnj:¬ Join l:=fun hj=>hbad ((Jn.succ (by rw [HLN.out];exact hil)).1 (fun j hj1 _=>hj j hj1 hj1)).2
        have e1:bS l=[]:=by unfold bS;rw [if_neg hnj]
        have e2:bR l=[]:=by unfold bR;rw [if_neg hnj]
        exact ⟨_,_,rfl,by rw [e1];exact OwnI.nil _ _,by rw [e2];exact OwnI.nil _ _,fun k hk=>(by cases hk),HBW.out.trans (((HGX0.out.drewN _).below).mono HBW.out.size)⟩
    · have hbad:¬ okB (sAt l i) (rAt l i) l[i]:=fun e=>g1 (HOK.out.1 e).1
      have g1b:(b0 != es)=true:=by simpa using g1
      have g1c:decide (b0=es)=false:=by simpa using g1
      go_big_quiet (fail)
      go_wp2
      refine bodyPost_ret (v := .tuple #[.slice none 0 0,.slice none 0 0]) (by simp [results,Tryz.f31,go_sem]) rfl ?_
      have hnj:¬ Join l:=fun hj=>hbad ((Jn.succ (by rw [HLN.out];exact hil)).1 (fun j hj1 _=>hj j hj1 hj1)).2
      have e1:bS l=[]:=by unfold bS;rw [if_neg hnj]
      have e2:bR l=[]:=by unfold bR;rw [if_neg hnj]
      exact ⟨_,_,rfl,by rw [e1];exact OwnI.nil _ _,by rw [e2];exact OwnI.nil _ _,fun k hk=>(by cases hk),HBW.out.trans (((HGX0.out.drewN _).below).mono HBW.out.size)⟩
  · have hie:n=i:=by omega
    subst hie
    have hge:¬ (n:Int)<(n:Int):=by omega
    go_wp2
    refine bodyPost_ret (v := .tuple #[.slice sa (n+1) sc,.slice ra (n+1) rc]) (by simp [results,Tryz.f31,go_sem]) rfl ?_
    obtain ⟨r1,r2,r3,r4,r5⟩:=HR.out
    have hj:Join l:=by unfold Join;rw [HLN.out];exact r5
    have e1:bS l=(srcs l).take (n+1):=by unfold bS;rw [if_pos hj,List.take_of_length_le (by rw [srcs_len,HLN.out];omega)]
    have e2:bR l=(ress l).take (n+1):=by unfold bR;rw [if_pos hj,List.take_of_length_le (by rw [ress_len,HLN.out];omega)]
    exact ⟨_,_,rfl,by rw [e1];exact r1,by rw [e2];exact r2,r3,r4⟩
theorem borders_any (v:Value) (l:List Bk) (w:World) (h:KR w v l) (hn:l.length≤1000000):Calls Tryz.prog 31 #[v] w (BoQ w l):=by
 have h':=h
 obtain ⟨a,c,rfl,_⟩:=h
 exact borders_walk a _ c l w h' rfl hn
theorem nan_any (x:Int) (w:World):Calls Tryz.prog 113 #[.int .i64 x] w fun e w'=>e = .returned (.bool false)∧w'=w:=by
 go_enter Tryz.func113,Tryz.ntmps113
 go_wp2
 go_ret
 exact ⟨by simp,rfl⟩
theorem nan2_any (x:Int) (w:World):Calls Tryz.prog 84 #[.int .i64 x] w fun e w'=>e = .returned (.bool false)∧w'=w:=by
 go_enter Tryz.func84,Tryz.ntmps84
 go_wp2
 go_ret
 exact ⟨by simp,rfl⟩
theorem less_any (x y:Int) (w:World):Calls Tryz.prog 83 #[.int .i64 x,.int .i64 y] w fun e w'=>e = .returned (.bool (decide (x<y)))∧w'=w:=by
 have HN:=Hid.mk' (fun x=>nan_any x w)
 go_enter Tryz.func83,Tryz.ntmps83
 go_wp2_with (go_at_call 113;refine (HN.out _).mono ?_;rintro e w' ⟨rfl,hx⟩;have hx:=hx.symm;subst hx)
 go_ret
 exact ⟨by simp,rfl⟩
def BsQ (w:World) (hs:List Int) (t:Int) (e:Ending) (w':World):Prop:=∃ (i:Nat) (f:Bool),e = .returned (.tuple #[.int .i64 (i:Int),.bool f])∧i≤hs.length∧(∀ (j:Nat) (hj:j<hs.length),j<i→hs[j]<t)∧(∀ (j:Nat) (hj:j<hs.length),i≤j→t≤hs[j])∧(f=true↔∃ h:i<hs.length,hs[i]=t)∧w'=w
def Rise (hs:List Int):Prop:=∀ (i j:Nat) (hi:i<hs.length) (hj:j<hs.length),i≤j→hs[i]≤hs[j]
set_option maxHeartbeats 4000000 in
theorem search_walk (a:Option Addr) (n c:Nat) (hs:List Int) (t:Int) (w:World) (h:IR w (.slice a n c) hs) (hn:hs.length=n) (hb:n≤1000001) (hr:Rise hs):Calls Tryz.prog 52 #[.slice a n c,.int .i64 t] w (BsQ w hs t):=by
 have HH:=Hid.mk' h
 have HN:=Hid.mk' hn
 have HRi:=Hid.mk' hr
 have hnI:(n:Int)≤1000001:=by omega
 have HL:Hid (∀ x,Calls Tryz.prog 83 #[.int .i64 x,.int .i64 t] w fun e w'=>e = .returned (.bool (decide (x<t)))∧w'=w):=fun x=>less_any x t w
 have HNN:Hid (∀ x,Calls Tryz.prog 84 #[.int .i64 x] w fun e w'=>e = .returned (.bool false)∧w'=w):=fun x=>nan2_any x w
 have HC:Hid (∀ j (hj:j<hs.length),∃ g o,a=some ⟨g,o,none⟩∧w.cell? ⟨g,o+j,none⟩=some (.int .i64 hs[j])):=fun j hj=>by
  obtain ⟨a',c',e,_,hh⟩:=h
  injection e with e1 _ _
  obtain ⟨g,o,e2,hrd⟩:=hh.resolve_left (fun e=>by rw [e] at hj;simp at hj)
  exact ⟨g,o,e1.trans e2,hrd j hj⟩
 clear h hn hr
 go_enter Tryz.func52,Tryz.ntmps52
 go_wp2
 go_loopg [7,8] n (fun q s7 s8 wr=>∃ (i j:Nat),s7 = .int .i64 (i:Int)∧s8 = .int .i64 (j:Int)∧i≤j∧j≤n∧j - i≤q∧Hid (wr=w∧(∀ (k:Nat) (hk:k<hs.length),k<i→hs[k]<t)∧(∀ (k:Nat) (hk:k<hs.length),j≤k→t≤hs[k])))
 case atStart=>exact ⟨0,n,rfl,rfl,by omega,by omega,by omega,rfl,fun _ _ h=>by omega,fun k hk h=>by have:=HN.out;omega⟩
 case round=>
  obtain ⟨i,j,rfl,rfl,hij,hjn,hq,HR⟩:=hrel
  obtain ⟨hw,hlo,hhi⟩:=HR.out
  have hw:=hw.symm
  subst hw
  have HLH:Hid ((∀ (k:Nat) (hk:k<hs.length),k<i→hs[k]<t)∧(∀ (k:Nat) (hk:k<hs.length),j≤k→t≤hs[k])):=⟨hlo,hhi⟩
  clear hlo hhi HR
  have hiI:(i:Int)≤1000001:=by omega
  have hjI:(j:Int)≤1000001:=by omega
  by_cases hlt:i<j
  · have hltI:(i:Int)<(j:Int):=by omega
    obtain ⟨m,hm⟩:∃ m,(i+j) / 2=m:=⟨_,rfl⟩
    have hmI:((i:Int)+(j:Int)) / 2=(m:Int):=by omega
    have hm1:i≤m:=by omega
    have hm2:m<j:=by omega
    have hmn:m<hs.length:=by rw [HN.out];omega
    have hmB:(m:Int)<(n:Int):=by omega
    have hm0:(m:Int)≤1000001:=by omega
    obtain ⟨g,o,ha,hc⟩:=HC.out m hmn
    subst ha
    obtain ⟨x,hx⟩:∃ x,hs[m]=x:=⟨_,rfl⟩
    rw [hx] at hc
    have HX:=Hid.mk' hx
    clear hx hm
    by_cases hxt:x<t
    · have hxd:decide (x<t)=true:=by simpa using hxt
      have HLX:=Hid.mk' (HL.out x)
      rw [hxd] at HLX
      go_wp2_with (go_at_call 83;refine HLX.out.mono ?_;rintro e w' ⟨rfl,hx⟩;have hx:=hx.symm;subst hx)
      go_roundg (j - (m+1))
      case measure=>omega
      case rel=>exact ⟨m+1,j,rfl,rfl,by omega,by omega,Nat.le_refl _,rfl,fun k hk h=>by have:=HRi.out k m hk hmn (by omega);have:=HX.out;omega,HLH.out.2⟩
    · have hxd:decide (x<t)=false:=by simpa using hxt
      have HLX:=Hid.mk' (HL.out x)
      rw [hxd] at HLX
      go_wp2_with (go_at_call 83;refine HLX.out.mono ?_;rintro e w' ⟨rfl,hx⟩;have hx:=hx.symm;subst hx)
      go_roundg (m - i)
      case measure=>omega
      case rel=>exact ⟨i,m,rfl,rfl,by omega,by omega,Nat.le_refl _,rfl,HLH.out.1,fun k hk h=>by have:=HRi.out m k hmn hk (by omega);have:=HX.out;omega⟩
  · have hij2:i=j:=by omega
    subst hij2
    have hge:¬ (i:Int)<(i:Int):=by omega
    by_cases hin:i<n
    · have hinI:(i:Int)<(n:Int):=by omega
      have hinl:i<hs.length:=by rw [HN.out];exact hin
      obtain ⟨g,o,ha,hc⟩:=HC.out i hinl
      subst ha
      obtain ⟨x,hx⟩:∃ x,hs[i]=x:=⟨_,rfl⟩
      rw [hx] at hc
      have HX:=Hid.mk' hx
      clear hx
      by_cases hxt:x=t
      · have HE:Hid (x=t):=hxt
        subst hxt
        go_wp2
        refine bodyPost_ret (v := .tuple #[.int .i64 (i:Int),.bool true]) (by simp [results,Tryz.f52,go_sem]) rfl ?_
        exact ⟨i,true,rfl,by omega,HLH.out.1,HLH.out.2,⟨fun _=>⟨hinl,HX.out⟩,fun _=>rfl⟩,rfl⟩
      · have hxd:decide (x=t)=false:=by simpa using hxt
        have hxb:(x == t)=false:=by simpa using hxt
        go_wp2_with (go_at_call 84;refine (HNN.out _).mono ?_;rintro e w' ⟨rfl,hx⟩;have hx:=hx.symm;subst hx)
        refine bodyPost_ret (v := .tuple #[.int .i64 (i:Int),.bool false]) (by simp [results,Tryz.f52,go_sem]) rfl ?_
        exact ⟨i,false,rfl,by omega,HLH.out.1,HLH.out.2,⟨fun e=>(by cases e),fun ⟨_,e⟩=>absurd (HX.out.symm.trans e) hxt⟩,rfl⟩
    · have hinI:¬ (i:Int)<(n:Int):=by omega
      go_wp2
      refine bodyPost_ret (v := .tuple #[.int .i64 (i:Int),.bool false]) (by simp [results,Tryz.f52,go_sem]) rfl ?_
      exact ⟨i,false,rfl,by have:=HN.out;omega,HLH.out.1,HLH.out.2,⟨fun e=>(by cases e),fun ⟨h,_⟩=>by have:=HN.out;omega⟩,rfl⟩
def Acr (hs ts:List Int) (t a b:Int):Prop:=
 ((hs.length=0∨t<0∨hs.getD (hs.length - 1) 0<t)∧a=0∧b=0) ∨
 (0≤t∧t≤hs.getD (hs.length - 1) 0∧∃ i,0<i∧i<hs.length∧hs.getD (i - 1) 0<t∧t<hs.getD i 0∧a=ts.getD (i - 1) 0∧b=ts.getD i 0) ∨
 (0≤t∧t≤hs.getD (hs.length - 1) 0∧∃ i k,i≤k∧k<hs.length∧hs.getD i 0=t∧hs.getD k 0=t∧(∀ j,j<i→hs.getD j 0<t)∧(∀ j,k<j→j<hs.length→t<hs.getD j 0)∧a=ts.getD i 0∧b=ts.getD k 0)
def AcQ (w:World) (hs ts:List Int) (t:Int) (e:Ending) (w':World):Prop:=∃ a b,e = .returned (.tuple #[.int .i64 a,.int .i64 b])∧Acr hs ts t a b∧Grown w w'
theorem getD_lt {l:List Int} {i:Nat} (h:i<l.length):l.getD i 0=l[i]:=by simp [List.getD,h]
theorem ir_cell {w:World} {a:Option Addr} {n c:Nat} {l:List Int} (h:IR w (.slice a n c) l) {j:Nat} (hj:j<l.length):∃ g o,a=some ⟨g,o,none⟩∧w.cell? ⟨g,o+j,none⟩=some (.int .i64 (l.getD j 0)):=by
 obtain ⟨a',c',e,_,hh⟩:=h
 injection e with e1 _ _
 obtain ⟨g,o,e2,hrd⟩:=hh.resolve_left (fun e=>by rw [e] at hj;simp at hj)
 exact ⟨g,o,e1.trans e2,by rw [getD_lt hj];exact hrd j hj⟩
set_option maxHeartbeats 4000000 in
theorem across_walk (ha:Option Addr) (n hc:Nat) (hs:List Int) (ta:Option Addr) (tc:Nat) (ts:List Int) (t:Int) (w:World) (h1:IR w (.slice ha n hc) hs) (h2:IR w (.slice ta n tc) ts) (hn:hs.length=n) (tn:ts.length=n) (hb:n≤1000001) (hr:Rise hs) (h0:hs.getD 0 0=0):Calls Tryz.prog 32 #[.slice ha n hc,.slice ta n tc,.int .i64 t] w (AcQ w hs ts t):=by
 have HH:=Hid.mk' h1
 have HT:=Hid.mk' h2
 have HN:=Hid.mk' hn
 have HTN:=Hid.mk' tn
 have HRi:=Hid.mk' hr
 have H0:=Hid.mk' h0
 have hnI:(n:Int)≤1000001:=by omega
 have HS:=Hid.mk' (search_walk ha n hc hs t w h1 hn hb hr)
 clear h1 h2 hn tn hr h0
 by_cases hz:n=0
 · have hzI:(n:Int)=0:=by omega
   go_enter Tryz.func32,Tryz.ntmps32
   subst hz
   go_wp2
   refine bodyPost_ret (v := .tuple #[.int .i64 0,.int .i64 0]) (by simp [results,Tryz.f32,go_sem]) rfl ?_
   exact ⟨0,0,rfl,.inl ⟨.inl HN.out,rfl,rfl⟩,Grown.refl _⟩
 have hzI:¬ (n:Int)=0:=by omega
 have hpI:(0:Int)<(n:Int):=by omega
 by_cases ht0:t<0
 · go_enter Tryz.func32,Tryz.ntmps32
   go_wp2
   refine bodyPost_ret (v := .tuple #[.int .i64 0,.int .i64 0]) (by simp [results,Tryz.f32,go_sem]) rfl ?_
   exact ⟨0,0,rfl,.inl ⟨.inr (.inl ht0),rfl,rfl⟩,Grown.refl _⟩
 obtain ⟨m,hm⟩:∃ m,n=m+1:=⟨n - 1,by omega⟩
 have hmI:(n:Int) - 1=(m:Int):=by omega
 have hmn:(m:Int)<(n:Int):=by omega
 have hm0:(m:Int)≤1000001:=by omega
 obtain ⟨g,o,hae,hcl⟩:=ir_cell HH.out (j:=m) (by rw [HN.out];omega)
 subst hae
 obtain ⟨x,hx⟩:∃ x,hs.getD m 0=x:=⟨_,rfl⟩
 rw [hx] at hcl
 have HX:Hid (hs.getD (hs.length - 1) 0=x):=by show _=_;rw [HN.out,hm,Nat.add_sub_cancel];exact hx
 have HM:Hid (n=m+1):=hm
 clear hx hm
 by_cases htx:x<t
 · go_enter Tryz.func32,Tryz.ntmps32
   go_wp2
   refine bodyPost_ret (v := .tuple #[.int .i64 0,.int .i64 0]) (by simp [results,Tryz.f32,go_sem]) rfl ?_
   exact ⟨0,0,rfl,.inl ⟨.inr (.inr (by rw [HX.out];exact htx)),rfl,rfl⟩,Grown.refl _⟩
 have HB:Hid (0≤t∧t≤hs.getD (hs.length - 1) 0):=⟨by omega,by rw [HX.out];omega⟩
 go_enter Tryz.func32,Tryz.ntmps32
 go_wp2_with (go_at_call 52;refine HS.out.mono ?_;rintro e w' ⟨i,f,rfl,hi,hlo,hhi,hf,hx⟩;have hx:=hx.symm;subst hx;have HI:=Hid.mk' (And.intro hi (And.intro hlo (And.intro hhi hf)));clear hi hlo hhi hf;cases f)
 · skip
   have hin:i<n:=by
    have:=HI.out.1
    rw [HN.out] at this
    rcases Nat.lt_or_ge i n with e | e
    · exact e
    · have hmm:=HM.out
      have h3:=HI.out.2.1 m (by rw [HN.out];omega) (by omega)
      have h4:=HX.out
      rw [HN.out,hmm,Nat.add_sub_cancel,getD_lt (by rw [HN.out];omega)] at h4
      omega
   have hinI:(i:Int)<(n:Int):=by omega
   have hiI:(i:Int)≤1000001:=by omega
   have HLO:Hid (∀ j,j<i→hs.getD j 0<t):=fun j hj=>by rw [getD_lt (by rw [HN.out];omega)];exact HI.out.2.1 j (by rw [HN.out];omega) hj
   have HHI:Hid (∀ j,i≤j→j<n→t≤hs.getD j 0):=fun j hj hjn=>by rw [getD_lt (by rw [HN.out];omega)];exact HI.out.2.2.1 j (by rw [HN.out];omega) hj
   have hne:hs.getD i 0≠t:=fun e=>by
    have:=HI.out.2.2.2.2 ⟨by rw [HN.out];exact hin,by rw [←getD_lt];exact e⟩
    cases this
   have hi0:0<i:=by
    rcases Nat.eq_zero_or_pos i with e | e
    · subst e
      have:=HHI.out 0 (Nat.le_refl _) hin
      have:=H0.out
      have:=HB.out.1
      omega
    · exact e
   obtain ⟨k,hk⟩:∃ k,i=k+1:=⟨i - 1,by omega⟩
   have hkI:(i:Int) - 1=(k:Int):=by omega
   have hkn:(k:Int)<(n:Int):=by omega
   have hk0:(k:Int)≤1000001:=by omega
   obtain ⟨tg,to',htae,tc1⟩:=ir_cell HT.out (j:=k) (by rw [HTN.out];omega)
   obtain ⟨tg2,to2,htae2,tc2⟩:=ir_cell HT.out (j:=i) (by rw [HTN.out];omega)
   subst htae
   injection htae2 with htae2
   injection htae2 with e1 e2 _
   subst e1
   subst e2
   obtain ⟨y1,hy1⟩:∃ y,ts.getD k 0=y:=⟨_,rfl⟩
   obtain ⟨y2,hy2⟩:∃ y,ts.getD i 0=y:=⟨_,rfl⟩
   rw [hy1] at tc1
   rw [hy2] at tc2
   have HY:Hid (i=k+1∧ts.getD k 0=y1∧ts.getD i 0=y2∧0<i∧hs.getD i 0≠t):=⟨hk,hy1,hy2,hi0,hne⟩
   clear hk hy1 hy2 hne
   go_big_quiet (fail)
   go_wp2
   refine bodyPost_ret (v := .tuple #[.int .i64 y1,.int .i64 y2]) (by simp [results,Tryz.f32,go_sem]) rfl ?_
   obtain ⟨q1,q2,q3,q4,q5⟩:=HY.out
   refine ⟨y1,y2,rfl,.inr (.inl ⟨HB.out.1,HB.out.2,i,q4,by rw [HN.out];exact hin,HLO.out (i - 1) (by omega),?_,by rw [q1,Nat.add_sub_cancel];exact q2.symm,q3.symm⟩),(Grown.refl _).drewN _⟩
   have:=HHI.out i (Nat.le_refl _) hin
   omega
 · skip
   have hin:i<n:=by
    have:=HI.out.1
    rw [HN.out] at this
    rcases Nat.lt_or_ge i n with e | e
    · exact e
    · have hmm:=HM.out
      have h3:=HI.out.2.1 m (by rw [HN.out];omega) (by omega)
      have h4:=HX.out
      rw [HN.out,hmm,Nat.add_sub_cancel,getD_lt (by rw [HN.out];omega)] at h4
      omega
   have hinI:(i:Int)<(n:Int):=by omega
   have hiI:(i:Int)≤1000001:=by omega
   have HLO:Hid (∀ j,j<i→hs.getD j 0<t):=fun j hj=>by rw [getD_lt (by rw [HN.out];omega)];exact HI.out.2.1 j (by rw [HN.out];omega) hj
   have HHI:Hid (∀ j,i≤j→j<n→t≤hs.getD j 0):=fun j hj hjn=>by rw [getD_lt (by rw [HN.out];omega)];exact HI.out.2.2.1 j (by rw [HN.out];omega) hj
   have HE:Hid (hs.getD i 0=t):=by
    obtain ⟨q1,q2⟩:=HI.out.2.2.2.1 (by trivial)
    show _=_
    rw [getD_lt q1];exact q2
   go_loopg [10] n (fun q s10 wr=>∃ k:Nat,s10 = .int .i64 (k:Int)∧i≤k∧k<n∧n - k≤q∧Hid (wr=w∧hs.getD k 0=t))
   case atStart=>exact ⟨i,rfl,Nat.le_refl _,hin,by omega,rfl,HE.out⟩
   case round=>
    obtain ⟨k,rfl,hk1,hk2,hk3,HR⟩:=hrel
    obtain ⟨hw,hkt⟩:=HR.out
    have hw:=hw.symm
    subst hw
    have HKT:=Hid.mk' hkt
    clear hkt HR
    have hkI:(k:Int)≤1000001:=by omega
    have hfin:(k+1=n∨t<hs.getD (k+1) 0)→Hid (∀ j,k<j→j<hs.length→t<hs.getD j 0):=fun h j hj hjn=>by
     rw [HN.out] at hjn
     rcases h with e | e
     · omega
     · have:=HRi.out (k+1) j (by rw [HN.out];omega) (by rw [HN.out];omega) (by omega)
       rw [←getD_lt,←getD_lt] at this
       omega
    have tail:∀ W,Grown w W→Hid (∀ j,k<j→j<hs.length→t<hs.getD j 0)→AcQ w hs ts t (.returned (.tuple #[.int .i64 (ts.getD i 0),.int .i64 (ts.getD k 0)])) W:=fun W hg hh=>⟨_,_,rfl,.inr (.inr ⟨HB.out.1,HB.out.2,i,k,hk1,by rw [HN.out];exact hk2,HE.out,HKT.out,HLO.out,hh.out,rfl,rfl⟩),hg⟩
    have HTL:=Hid.mk' tail
    clear tail
    obtain ⟨tg,to',htae,tc1⟩:=ir_cell HT.out (j:=i) (by rw [HTN.out];omega)
    obtain ⟨tg2,to2,htae2,tc2⟩:=ir_cell HT.out (j:=k) (by rw [HTN.out];omega)
    subst htae
    injection htae2 with htae2
    injection htae2 with e1 e2 _
    subst e1
    subst e2
    obtain ⟨y1,hy1⟩:∃ y,ts.getD i 0=y:=⟨_,rfl⟩
    obtain ⟨y2,hy2⟩:∃ y,ts.getD k 0=y:=⟨_,rfl⟩
    rw [hy1] at tc1 HTL
    rw [hy2] at tc2 HTL
    clear hy1 hy2
    have hknI:(k:Int)<(n:Int):=by omega
    by_cases hkn:k+1<n
    · have hknI2:(k:Int)+1<(n:Int):=by omega
      obtain ⟨g',o'',hae',hc'⟩:=ir_cell HH.out (j:=k+1) (by rw [HN.out];exact hkn)
      injection hae' with hae'
      injection hae' with e1 e2 _
      subst e1
      subst e2
      obtain ⟨z,hz'⟩:∃ z,hs.getD (k+1) 0=z:=⟨_,rfl⟩
      rw [hz'] at hc'
      have HZ:=Hid.mk' hz'
      clear hz'
      by_cases hzt:z=t
      · have HZT:Hid (z=t):=hzt
        subst hzt
        clear hfin tc1 tc2
        go_wp2
        go_roundg (n - (k+1))
        case measure=>omega
        case rel=>exact ⟨k+1,rfl,by omega,hkn,Nat.le_refl _,rfl,HZ.out⟩
      · have hzb:(z == t)=false:=by simpa using hzt
        have hzd:decide (z=t)=false:=by simpa using hzt
        have HF:=hfin (.inr (by have:=HHI.out (k+1) (by omega) hkn;have:=HZ.out;omega))
        clear hfin
        go_wp2
        go_big_quiet (fail)
        go_wp2
        refine bodyPost_ret (v := .tuple #[.int .i64 y1,.int .i64 y2]) (by simp [results,Tryz.f32,go_sem]) rfl ?_
        exact HTL.out _ ((Grown.refl _).drewN _) HF
    · have hknI2:¬ (k:Int)+1<(n:Int):=by omega
      have HF:=hfin (.inl (by omega))
      clear hfin
      go_wp2
      go_big_quiet (fail)
      go_wp2
      refine bodyPost_ret (v := .tuple #[.int .i64 y1,.int .i64 y2]) (by simp [results,Tryz.f32,go_sem]) rfl ?_
      exact HTL.out _ ((Grown.refl _).drewN _) HF
theorem rise_of {l:List Int} (h:∀ i,i+1<l.length→l.getD i 0≤l.getD (i+1) 0):Rise l:=by
 have key:∀ d i,i+d<l.length→l.getD i 0≤l.getD (i+d) 0:=by
  intro d
  induction d with
  | zero=>exact fun i _=>Int.le_refl _
  | succ d ih=>
   intro i hi
   exact Int.le_trans (ih i (by omega)) (h (i+d) (by omega))
 intro i j hi hj hij
 have:=key (j - i) i (by omega)
 rw [show i+(j - i)=j by omega,getD_lt hi,getD_lt hj] at this
 exact this
theorem Join.at' {l:List Bk} (h:Join l) {j:Nat} (hj:j<l.length):sAt l j<sAt l (j+1)∧rAt l j≤rAt l (j+1)∧l[j].1=sAt l j∧l[j].2.2.1=rAt l j:=by
 obtain ⟨h1,h2,h3,h4⟩:=h j hj hj
 rw [sAt_succ hj,rAt_succ hj]
 exact ⟨by omega,by omega,h1,h2⟩
theorem bS_rise (l:List Bk):Rise (bS l):=by
 unfold bS
 split
 · rename_i h
   refine rise_of fun i hi => ?_
   rw [srcs_len] at hi
   have:=(h.at' (j:=i) (by omega)).1
   unfold sAt at this
   omega
 · exact fun i j hi=>by simp at hi
theorem bR_rise (l:List Bk):Rise (bR l):=by
 unfold bR
 split
 · rename_i h
   refine rise_of fun i hi => ?_
   rw [ress_len] at hi
   exact (h.at' (j:=i) (by omega)).2.1
 · exact fun i j hi=>by simp at hi
theorem bS_zero (l:List Bk):(bS l).getD 0 0=0:=by unfold bS;split <;> rfl
theorem bR_zero (l:List Bk):(bR l).getD 0 0=0:=by unfold bR;split <;> rfl
theorem b_len (l:List Bk):(bS l).length=(bR l).length∧(bS l).length≤l.length+1:=by
 unfold bS bR
 split
 · rw [srcs_len,ress_len];exact ⟨rfl,Nat.le_refl _⟩
 · exact ⟨rfl,by simp⟩
def ToQ (w:World) (hs ts:List Int) (t:Int) (e:Ending) (w':World):Prop:=∃ a b,e = .returned (.tuple #[.int .i64 a,.int .i64 b])∧Acr hs ts t a b∧Below w.heap.size w w'
set_option maxHeartbeats 1000000 in
theorem to_any (v:Value) (l:List Bk) (t:Int) (w:World) (h:KR w v l) (hn:l.length≤1000000):Calls Tryz.prog 11 #[v,.int .i64 t] w (ToQ w (bS l) (bR l) t):=by
 have HB:=Hid.mk' (borders_any v l w h hn)
 obtain ⟨a,c,rfl,_⟩:=h
 obtain ⟨n,hne⟩:∃ n,l.length=n:=⟨_,rfl⟩
 rw [hne] at HB ⊢
 have hbl:=b_len l
 rw [hne] at hbl
 have HL:=Hid.mk' hbl
 have hn2:n≤1000000:=by omega
 clear hne hbl
 go_enter Tryz.func11,Tryz.ntmps11
 go_wp2_with (go_at_call 31;refine HB.out.mono ?_;rintro e w1 ⟨sv,rv,rfl,o1,o2,o3,hb1⟩;obtain ⟨sa,sc,hs⟩:=o1.sl;obtain ⟨ra,rc,hr⟩:=o2.sl;subst hs;subst hr;have HO:=Hid.mk' (And.intro o1 (And.intro o2 hb1));clear o1 o2 o3 hb1)
 have hA:=across_walk sa (bS l).length sc (bS l) ra rc (bR l) t w1 HO.out.1.ir (by rw [HL.out.1];exact HO.out.2.1.ir) rfl HL.out.1.symm (by have:=HL.out.2;omega) (bS_rise l) (bS_zero l)
 rw [HL.out.1] at hA
 rw [HL.out.1]
 refine hA.mono ?_
 rintro e w2 ⟨x,y,rfl,hac,hg⟩
 go_wp2
 refine bodyPost_ret (v := .tuple #[.int .i64 x,.int .i64 y]) (by simp [results,Tryz.f11,go_sem]) rfl ?_
 exact ⟨x,y,rfl,hac,HO.out.2.2.trans (hg.below.mono HO.out.2.2.size)⟩
set_option maxHeartbeats 1000000 in
theorem from_any (v:Value) (l:List Bk) (t:Int) (w:World) (h:KR w v l) (hn:l.length≤1000000):Calls Tryz.prog 13 #[v,.int .i64 t] w (ToQ w (bR l) (bS l) t):=by
 have HB:=Hid.mk' (borders_any v l w h hn)
 obtain ⟨a,c,rfl,_⟩:=h
 obtain ⟨n,hne⟩:∃ n,l.length=n:=⟨_,rfl⟩
 rw [hne] at HB ⊢
 have hbl:=b_len l
 rw [hne] at hbl
 have HL:=Hid.mk' hbl
 have hn2:n≤1000000:=by omega
 clear hne hbl
 go_enter Tryz.func13,Tryz.ntmps13
 go_wp2_with (go_at_call 31;refine HB.out.mono ?_;rintro e w1 ⟨sv,rv,rfl,o1,o2,o3,hb1⟩;obtain ⟨sa,sc,hs⟩:=o1.sl;obtain ⟨ra,rc,hr⟩:=o2.sl;subst hs;subst hr;have HO:=Hid.mk' (And.intro o1 (And.intro o2 hb1));clear o1 o2 o3 hb1)
 have hA:=across_walk ra (bR l).length rc (bR l) sa sc (bS l) t w1 HO.out.2.1.ir (by rw [←HL.out.1];exact HO.out.1.ir) rfl HL.out.1 (by have:=HL.out.2;have:=HL.out.1;omega) (bR_rise l) (bR_zero l)
 rw [HL.out.1]
 refine hA.mono ?_
 rintro e w2 ⟨x,y,rfl,hac,hg⟩
 go_wp2
 refine bodyPost_ret (v := .tuple #[.int .i64 x,.int .i64 y]) (by simp [results,Tryz.f13,go_sem]) rfl ?_
 exact ⟨x,y,rfl,hac,HO.out.2.2.trans (hg.below.mono HO.out.2.2.size)⟩
theorem rAt_last {l:List Bk} {m:Nat} (h:l.length=m+1):rAt l l.length=l[m].2.2.2∧sAt l l.length=l[m].2.1:=by
 have h1:=rAt_succ (l:=l) (n:=m) (by omega)
 have h2:=sAt_succ (l:=l) (n:=m) (by omega)
 rw [←h] at h1 h2
 exact ⟨h1,h2⟩
theorem kr_cell {w:World} {a:Option Addr} {n c:Nat} {l:List Bk} (h:KR w (.slice a n c) l) {j:Nat} (hj:j<l.length):∃ g o,a=some ⟨g,o,none⟩∧KAt w g (o+j*4) l[j]:=by
 obtain ⟨a',c',e,_,hh⟩:=h
 injection e with e1 _ _
 obtain ⟨g,o,e2,hrd⟩:=hh.resolve_left (fun e=>by rw [e] at hj;simp at hj)
 exact ⟨g,o,e1.trans e2,hrd j hj⟩
theorem take_succ_iff {a b:List Bk} {i:Nat} (ha:i<a.length) (hb:i<b.length):a.take (i+1)=b.take (i+1)↔a.take i=b.take i∧a[i]=b[i]:=by
 rw [List.take_succ_eq_append_getElem ha,List.take_succ_eq_append_getElem hb]
 constructor
 · intro h
   have hl:(a.take i).length=(b.take i).length:=by simp;omega
   have:=List.append_inj h hl
   exact ⟨this.1,by simpa using this.2⟩
 · rintro ⟨h1,h2⟩
   rw [h1,h2]
set_option maxHeartbeats 2000000 in
theorem same_walk (va:Option Addr) (na ca:Nat) (vb:Option Addr) (nb cb:Nat) (la lb:List Bk) (w:World) (ha:KR w (.slice va na ca) la) (hb:KR w (.slice vb nb cb) lb) (hna:la.length=na) (hnb:lb.length=nb) (hn:na≤1000000) :
 Calls Tryz.prog 24 #[.slice va na ca,.slice vb nb cb] w fun e w'=>e = .returned (.bool (decide (la=lb)))∧Grown w w':=by
 have HA:=Hid.mk' ha
 have HB:=Hid.mk' hb
 have HNA:=Hid.mk' hna
 have HNB:=Hid.mk' hnb
 have hnI:(na:Int)≤1000000:=by omega
 clear ha hb hna hnb
 by_cases hne:na=nb
 · subst hne
   obtain ⟨r,hr⟩:∃ r,decide (la=lb)=r:=⟨_,rfl⟩
   have HR0:=Hid.mk' hr
   rw [hr]
   clear hr
   go_enter Tryz.func24,Tryz.ntmps24
   go_wp2
   go_loopg [13] na (fun q s13 wr=>∃ i:Nat,s13 = .int .i64 (i:Int)∧i≤na∧na - i≤q∧Hid (Grown w wr∧la.take i=lb.take i))
   case atStart=>exact ⟨0,rfl,by omega,by omega,Grown.refl _,rfl⟩
   case round=>
    obtain ⟨i,rfl,hi1,hi2,HR⟩:=hrel
    have hiI:(i:Int)≤1000000:=by omega
    by_cases hil:i<na
    · have hilI:(i:Int)<(na:Int):=by omega
      have hia:i<la.length:=by rw [HNA.out];exact hil
      have hib:i<lb.length:=by rw [HNB.out];exact hil
      obtain ⟨ga,oa,hva,x0,x1,x2,x3⟩:=kr_cell HA.out hia
      obtain ⟨gb,ob,hvb,y0,y1,y2,y3⟩:=kr_cell HB.out hib
      subst hva
      subst hvb
      have x0:=HR.out.1.cellv x0
      have x1:=HR.out.1.cellv x1
      have x2:=HR.out.1.cellv x2
      have x3:=HR.out.1.cellv x3
      have y0:=HR.out.1.cellv y0
      have y1:=HR.out.1.cellv y1
      have y2:=HR.out.1.cellv y2
      have y3:=HR.out.1.cellv y3
      have HST:=Hid.mk' (take_succ_iff hia hib)
      obtain ⟨⟨p0,p1,p2,p3⟩,hp⟩:∃ p,la[i]=p:=⟨_,rfl⟩
      obtain ⟨⟨q0,q1,q2,q3⟩,hq⟩:∃ q,lb[i]=q:=⟨_,rfl⟩
      rw [hp] at x0 x1 x2 x3
      rw [hq] at y0 y1 y2 y3
      simp only at x0 x1 x2 x3 y0 y1 y2 y3
      have HRG:Hid (la[i]=(p0,p1,p2,p3)∧lb[i]=(q0,q1,q2,q3)):=⟨hp,hq⟩
      clear hp hq
      by_cases h0:p0=q0
      · by_cases h1:p1=q1
        · by_cases h2:p2=q2
          · by_cases h3:p3=q3
            · have HE:Hid (la.take (i+1)=lb.take (i+1)):=HST.out.2 ⟨HR.out.2,by rw [HRG.out.1,HRG.out.2,h0,h1,h2,h3]⟩
              have HG:=Hid.mk' HR.out.1
              clear HR HST HRG
              subst h0
              subst h1
              subst h2
              subst h3
              go_wp2
              go_big_quiet (fail)
              go_wp2
              go_roundg (na - (i+1))
              case measure=>omega
              case rel=>exact ⟨i+1,rfl,by omega,Nat.le_refl _,HG.out.drewN _,HE.out⟩
            · skip
              have h3':=h3
              clear h3
              have HF:Hid (r=false):=by
               show r=false
               rw [←HR0.out,decide_eq_false_iff_not]
               intro e
               have h3:=HRG.out.1
               have h4:=HRG.out.2
               rw [List.getElem_of_eq e hia,h4] at h3
               injection h3 with h5 h6
               injection h6 with h6 h7
               injection h7 with h7 h8
               exact h3' h8.symm
              have HG:=Hid.mk' HR.out.1
              clear HR HST HRG HR0
              go_wp2
              go_big_quiet (fail)
              go_wp2
              go_ret
              exact ⟨by rw [HF.out];rfl,HG.out.drewN _⟩
          · skip
            have HF:Hid (r=false):=by
             show r=false
             rw [←HR0.out,decide_eq_false_iff_not]
             intro e
             have h3:=HRG.out.1
             have h4:=HRG.out.2
             rw [List.getElem_of_eq e hia,h4] at h3
             injection h3 with h5 h6
             injection h6 with h6 h7
             injection h7 with h7 h8
             exact h2 h7.symm
            have HG:=Hid.mk' HR.out.1
            clear HR HST HRG HR0
            go_wp2
            go_big_quiet (fail)
            go_wp2
            go_ret
            exact ⟨by rw [HF.out];rfl,HG.out.drewN _⟩
        · skip
          have HF:Hid (r=false):=by
           show r=false
           rw [←HR0.out,decide_eq_false_iff_not]
           intro e
           have h3:=HRG.out.1
           have h4:=HRG.out.2
           rw [List.getElem_of_eq e hia,h4] at h3
           injection h3 with h5 h6
           injection h6 with h6 h7
           injection h7 with h7 h8
           exact h1 h6.symm
          have HG:=Hid.mk' HR.out.1
          clear HR HST HRG HR0
          go_wp2
          go_big_quiet (fail)
          go_wp2
          go_ret
          exact ⟨by rw [HF.out];rfl,HG.out.drewN _⟩
      · skip
        have HF:Hid (r=false):=by
         show r=false
         rw [←HR0.out,decide_eq_false_iff_not]
         intro e
         have h3:=HRG.out.1
         have h4:=HRG.out.2
         rw [List.getElem_of_eq e hia,h4] at h3
         injection h3 with h5 h6
         injection h6 with h6 h7
         injection h7 with h7 h8
         exact h0 h5.symm
        have HG:=Hid.mk' HR.out.1
        clear HR HST HRG HR0
        go_wp2
        go_big_quiet (fail)
        go_wp2
        go_ret
        exact ⟨by rw [HF.out];rfl,HG.out.drewN _⟩
    · have hie:i=na:=by omega
      subst hie
      have hge:¬ (i:Int)<(i:Int):=by omega
      have HT:Hid (r=true):=by
       show r=true
       rw [←HR0.out,decide_eq_true_eq]
       have:=HR.out.2
       rw [List.take_of_length_le (by have:=HNA.out;omega),List.take_of_length_le (by have:=HNB.out;omega)] at this
       exact this
      have HG:=Hid.mk' HR.out.1
      clear HR HR0
      go_wp2
      go_ret
      exact ⟨by rw [HT.out];rfl,HG.out⟩
 · have hd:decide (la=lb)=false:=by
    rw [decide_eq_false_iff_not]
    intro e
    have h1:=HNA.out
    have h2:=HNB.out
    rw [e] at h1
    omega
   rw [hd]
   have hneI:¬ (na:Int)=(nb:Int):=by omega
   clear hd
   go_enter Tryz.func24,Tryz.ntmps24
   go_wp2
   go_ret
   exact ⟨rfl,Grown.refl _⟩
theorem heap_new2 (w:World) (o1 o2:Obj):((w.alloc o1).alloc o2).heap[w.heap.size+1]? = some o2:=by
 have:=heap_alloc_new (w.alloc o1) o2
 simpa using this
def upB (l:List Bk) (s r:Int):Bk:=(sAt l l.length,s,rAt l l.length,r)
set_option maxHeartbeats 1000000 in
theorem upTo_walk (a:Option Addr) (n c:Nat) (l:List Bk) (s r:Int) (base:Nat) (w:World) (h:OwnK w base (.slice a n c) l) (hn:l.length=n) (hb:n≤4000000) (hbase:base≤w.heap.size) :
 Calls Tryz.prog 39 #[.slice a n c,.int .i64 s,.int .i64 r] w fun e w'=>∃ gg cap,e = .returned (.slice (some ⟨gg,0,none⟩) (n+1) cap)∧OwnK w' base (.slice (some ⟨gg,0,none⟩) (n+1) cap) (l++[upB l s r])∧Fr w w' (fun k=>(Value.slice a n c).ownBlock=some k)∧(some gg=(Value.slice a n c).ownBlock∨w.heap.size≤gg):=by
 have HO:=Hid.mk' h
 have hnI:(n:Int)≤4000000:=by omega
 have HN:=Hid.mk' hn
 by_cases hz:n=0
 · have hl:l=[]:=List.eq_nil_of_length_eq_zero (by omega)
   subst hl
   subst hz
   have HP:Hid (OwnK ((w.alloc (.cells #[.int .i64 0,.int .i64 0,.int .i64 0,.int .i64 0] 44)).alloc (.cells #[.int .i64 0,.int .i64 s,.int .i64 0,.int .i64 r] 44)) base (.slice a 0 c) []):=World.ownsRow.alloc (World.ownsRow.alloc h _) _
   clear h hn
   go_enter Tryz.func39,Tryz.ntmps39
   go_wp2_with (at_builtin;go_must (refine push_K rfl _ _ rfl base (.slice a 0 c) [] rfl HP.out _ _ (0,s,0,r) rfl (heap_new2 _ _ _) (by simp) (by simp;omega) ?_;intro gg cap w' q1 q2 q3;have HQ:=Hid.mk' (And.intro q1 (And.intro q2 q3));clear q1 q2 q3))
   go_ret
   obtain ⟨q1,q2,q3⟩:=HQ.out
   have g2:Grown w ((w.alloc (.cells #[.int .i64 0,.int .i64 0,.int .i64 0,.int .i64 0] 44)).alloc (.cells #[.int .i64 0,.int .i64 s,.int .i64 0,.int .i64 r] 44)):=((Grown.refl _).alloc _).alloc _
   exact ⟨gg,cap,rfl,q1,(fr_grown g2 _).trans (fr_by q2) fun _ _ e=>e,q3.imp id fun e=>by rw [e];exact g2.size⟩
 · obtain ⟨m,hm⟩:∃ m,n=m+1:=⟨n - 1,by omega⟩
   obtain ⟨g,o,hae,k0,k1,k2,k3⟩:=kr_cell (OwnK.kr h) (j:=m) (by omega)
   subst hae
   obtain ⟨hr1,hs1⟩:=rAt_last (hn.trans hm)
   obtain ⟨⟨p0,p1,p2,p3⟩,hp⟩:∃ p,l[m]'(by omega)=p:=⟨_,rfl⟩
   rw [hp] at k0 k1 k2 k3 hr1 hs1
   simp only at k0 k1 k2 k3 hr1 hs1
   have HU:Hid (upB l s r=(p1,s,p3,r)):=by show _=_;unfold upB;rw [hr1,hs1]
   have hzI:¬ (n:Int)=0:=by omega
   have hpI:(0:Int)<(n:Int):=by omega
   have hmI:(n:Int) - 1=(m:Int):=by omega
   have hmn:(m:Int)<(n:Int):=by omega
   have hm0:(m:Int)≤4000000:=by omega
   have k0:=cell_up k0 (.cells #[.int .i64 0,.int .i64 0,.int .i64 0,.int .i64 0] 44)
   have k1:=cell_up k1 (.cells #[.int .i64 0,.int .i64 0,.int .i64 0,.int .i64 0] 44)
   have k2:=cell_up k2 (.cells #[.int .i64 0,.int .i64 0,.int .i64 0,.int .i64 0] 44)
   have k3:=cell_up k3 (.cells #[.int .i64 0,.int .i64 0,.int .i64 0,.int .i64 0] 44)
   have HP:Hid (∀ o1 o2,OwnK ((w.alloc o1).alloc o2) base (.slice (some ⟨g,o,none⟩) n c) l):=fun o1 o2=>World.ownsRow.alloc (World.ownsRow.alloc h o1) o2
   clear h hn hm hp hr1 hs1
   go_enter Tryz.func39,Tryz.ntmps39
   go_wp2_with (at_builtin;go_must (refine push_K rfl _ _ rfl base (.slice (some ⟨g,o,none⟩) n c) l rfl (HP.out _ _) _ _ (p1,s,p3,r) rfl (heap_new2 _ _ _) (by have:=HN.out;omega) (by simp;omega) ?_;intro gg cap w' q1 q2 q3;have HQ:=Hid.mk' (And.intro q1 (And.intro q2 q3));clear q1 q2 q3))
   go_ret
   obtain ⟨q1,q2,q3⟩:=HQ.out
   rw [HN.out] at q1
   rw [HU.out,HN.out]
   exact ⟨gg,cap,rfl,q1,(fr_grown (((Grown.refl _).alloc _).alloc _) _).trans (fr_by q2) fun _ _ e=>e,q3.imp id fun e=>by rw [e];simp;omega⟩
theorem sAt_end (l:List Bk) (b:Bk):sAt (l++[b]) (l.length+1)=b.2.1∧rAt (l++[b]) (l.length+1)=b.2.2.2:=by
 constructor
 · rw [sAt_succ (by simp)];simp
 · rw [rAt_succ (by simp)];simp
theorem rs_cell {w:World} {a:Option Addr} {n c:Nat} {l:List (Int × Int)} (h:Rs w (.slice a n c) l) {j:Nat} (hj:j<l.length):∃ g o,a=some ⟨g,o,none⟩∧w.cell? ⟨g,o+j*2,none⟩=some (.int .i64 l[j].1)∧w.cell? ⟨g,o+j*2+1,none⟩=some (.int .i64 l[j].2):=by
 obtain ⟨a',c',e,_,hh⟩:=h
 injection e with e1 _ _
 obtain ⟨g,o,e2,hrd⟩:=hh.resolve_left (fun e=>by rw [e] at hj;simp at hj)
 have:=hrd j hj
 rw [rg_lt hj] at this
 exact ⟨g,o,e1.trans e2,this⟩
theorem wrap_id {x:Int} (h1 : -9223372036854775808≤x) (h2:x≤9223372036854775807):IntKind.i64.wrap x=x:=IntWalk.i64_in _ ⟨by omega,by omega⟩
def lfO (bk:List Int) (s:ByteArray) (p:Nat):List Int:=bk.reverse++intsU (unitsN s s.size p)
structure TK (W:World) (tb base:Nat) (rv:Value) (s:ByteArray) (p:Nat) (bv:Value) (bk:List Int) (dn:Int):Prop where
 blk:W.heap[tb]? = some (.cells #[rv,.string (s.extract p s.size),bv,.int .i64 dn] 77 (0,0))
 own:OwnI W base bv bk
 pl:p≤s.size
 ne:∀ b,bv.ownBlock=some b→b≠tb
theorem TK.fr {W W':World} {tb base:Nat} {rv:Value} {s:ByteArray} {p:Nat} {bv:Value} {bk:List Int} {dn:Int} (h:TK W tb base rv s p bv bk dn) {D:Nat→Prop} (hf:Fr W W' D) (h1:¬ D tb) (h2:∀ b,bv.ownBlock=some b→¬ D b):TK W' tb base rv s p bv bk dn:=⟨(hf.block _ (blk_lt h.blk) h1).trans h.blk,own_fr h.own hf h2,h.pl,h.ne⟩
theorem uw_in (s:ByteArray) (p:Nat) (hp:p<s.size):p+uw s p≤s.size:=by
 by_cases h:1<uw s p
 · exact (uw_many s p h).1
 · omega
theorem ext_ext (s:ByteArray) (p k:Nat) (_hk:p+k≤s.size):(s.extract p s.size).extract k (s.extract p s.size).size=s.extract (p+k) s.size:=by
 apply ByteArray.ext
 apply Array.ext'
 have h1:(s.extract p s.size).data.toList=s.data.toList.drop p:=by rw [Lib.extract_to_end]
 rw [Lib.extract_to_end,h1,List.drop_drop,Lib.extract_to_end]
theorem OwnI.front {w:World} {base g n c:Nat} {l:List Int} {u:Int} (h:OwnI w base (.slice (some ⟨g,0,none⟩) (n+1) c) (l++[u])) (hl:l.length=n):OwnI w base (.slice (some ⟨g,0,none⟩) n c) l:=by
 subst hl
 refine ⟨by simp [ints],?_⟩
 rcases h.2 with ⟨e,_⟩ | ⟨g',cap,cur,e,h1,h2,h3,h4,h5,h6⟩
 · cases e
 · injection e with e1 e2 e3
   injection e1 with e1
   injection e1 with e1 _ _
   subst e1
   subst e3
   refine .inr ⟨g,c,cur,rfl,h1,h2,by simp at h3;omega,h4,h5,?_⟩
   have h7:=congrArg (List.take (l.length*1)) h6
   rw [List.take_take,ints_append] at h7
   simp at h7
   rw [Nat.mul_one]
   rw [h7,List.take_append_of_le_length (by simp [ints])]
   exact List.take_of_length_le (by simp [ints])
def FstQ (W:World) (tb base:Nat) (rv:Value) (s:ByteArray) (p:Nat) (bv:Value) (bk:List Int) (dn:Int) (e:Ending) (W':World):Prop:=∃ u p' bv' bk',e = .returned (.int .i64 u)∧TK W' tb base rv s p' bv' bk' dn∧lfO bk s p=u::lfO bk' s p'∧Fr W W' (fun k=>k=tb)∧p≤p'∧bk'.length=bk.length - 1∧∀ b,bv'.ownBlock=some b→bv.ownBlock=some b
set_option maxHeartbeats 2000000 in
theorem first_back {W:World} {tb base:Nat} {rv:Value} {s:ByteArray} {p g m c:Nat} {l:List Int} {u dn:Int} (h:TK W tb base rv s p (.slice (some ⟨g,0,none⟩) (m+1) c) (l++[u]) dn) (hl:l.length=m) (hm:m≤4000000):Calls Tryz.prog 89 #[.pointer (some ⟨tb,0,none⟩)] W (FstQ W tb base rv s p (.slice (some ⟨g,0,none⟩) (m+1) c) (l++[u]) dn):=by
 have c2:W.cell? ⟨tb,2,none⟩=some (.slice (some ⟨g,0,none⟩) (m+1) c):=by rw [cell_of h.blk];rfl
 have f2:W.frozen? ⟨tb,2,none⟩=false:=free_of h.blk
 have cu:W.cell? ⟨g,m,none⟩=some (.int .i64 u):=by
  have:=World.ownsRow.cellAt (n:=m+1) (by have:=h.own;unfold OwnI at this;rw [List.length_append,hl] at this;exact this) m (by omega)
  rw [this,ints_append,List.getElem?_append_right (by simp [ints,hl])]
  simp [ints,hl]
 have hmI:(m:Int)≤4000000:=by omega
 have hmc:m+1≤c:=by
  rcases h.own.2 with ⟨e,_⟩ | ⟨g',cap,cur,e,_,_,h3,_⟩
  · cases e
  · injection e with _ _ e3;subst e3;simp at h3;omega
 have HH:=Hid.mk' h
 clear h
 go_enter Tryz.func89,Tryz.ntmps89
 go_wp2
 go_ret
 have hb:=HH.out.blk
 refine ⟨u,p,.slice (some ⟨g,0,none⟩) m c,l,rfl,⟨by rw [set_heap hb];rfl,own_fr (HH.out.own.front hl) (fr_set _ _ _ _) (fun b hb e=>HH.out.ne b hb e),HH.out.pl,HH.out.ne⟩,by simp [lfO],fr_set _ _ _ _,Nat.le_refl _,by simp,fun b hb=>hb⟩
set_option maxHeartbeats 2000000 in
theorem first_src {W:World} {tb base:Nat} {rv:Value} {s:ByteArray} {p:Nat} {a:Option Addr} {c:Nat} {dn:Int} (h:TK W tb base rv s p (.slice a 0 c) [] dn) (hp:p<s.size) (hs:s.size≤4000000):Calls Tryz.prog 89 #[.pointer (some ⟨tb,0,none⟩)] W (FstQ W tb base rv s p (.slice a 0 c) [] dn):=by
 have c1:W.cell? ⟨tb,1,none⟩=some (.string (s.extract p s.size)):=by rw [cell_of h.blk];rfl
 have c2:W.cell? ⟨tb,2,none⟩=some (.slice a 0 c):=by rw [cell_of h.blk];rfl
 have hes:(s.extract p s.size).size=s.size - p:=by simp [ByteArray.size_extract]
 have hf2:(firstU (s.extract p s.size)).2=(uw s p:Int):=by
  have hz:(s.extract p s.size).size=(s.size - p - 1)+1:=by omega
  unfold firstU units
  rw [hz,unitsN_step _ _ 0 (by omega),uAt_tail s p hp]
  exact wd_uAt s p
 have HF:Hid (Calls Tryz.prog 22 #[.string (s.extract p s.size)] W fun e w'=>e = .returned (.tuple #[.int .i64 (uAt s p:Int),.int .i64 (uw s p:Int)])∧Below W.heap.size W w'):=by
  have:=first_any (s.extract p s.size) W (by unfold maxLen;omega)
  rw [firstU_tail s p hp,hf2] at this
  exact this
 have huw:=uw_in s p hp
 have hup:=uw_pos s p
 obtain ⟨k,hk⟩:∃ k,uw s p=k:=⟨_,rfl⟩
 have HE:=Hid.mk' (ext_ext s p k (by omega))
 have HU:Hid (lfO [] s p=(uAt s p:Int)::lfO [] s (p+k)):=by
  show _=_
  unfold lfO
  rw [units_next s p hp,hk]
  rfl
 obtain ⟨u,hu⟩:∃ u:Int,(uAt s p:Int)=u:=⟨_,rfl⟩
 rw [hk,hu] at HF
 rw [hu] at HU
 obtain ⟨r,hr⟩:∃ r,s.extract p s.size=r:=⟨_,rfl⟩
 rw [hr] at c1 HF HE hes
 rw [hes] at HE
 have hkI:(k:Int)≤(r.size:Int):=by omega
 have HH:=Hid.mk' h
 have HP:Hid (p+k≤s.size):=by show _≤_;omega
 clear h hf2 hu hk huw hup hr
 go_enter Tryz.func89,Tryz.ntmps89
 go_wp2_with (go_at_call 22;refine HF.out.mono ?_;rintro e w1 ⟨rfl,hb1⟩;have hB1:=(hb1.block _ (blk_lt HH.out.blk)).trans HH.out.blk;have d1:w1.cell? ⟨tb,1,none⟩=some (.string r):=cell_below c1 hb1 (Nat.le_refl _);have e1:w1.frozen? ⟨tb,1,none⟩=false:=free_of hB1;have HB1:=Hid.mk' hb1;clear hb1 hB1)
 go_ret
 have hb:=(HB1.out.block _ (blk_lt HH.out.blk)).trans HH.out.blk
 have f1:Fr W w1 (fun k=>k=tb):=fr_below HB1.out (Nat.le_refl _) _
 refine ⟨u,p+k,.slice a 0 c,[],rfl,⟨?_,own_fr (HH.out.own.below HB1.out (Nat.le_refl _)) (fr_set _ _ _ _) (fun b hb e=>HH.out.ne b hb e),HP.out,HH.out.ne⟩,HU.out,f1.trans (fr_set _ _ _ _) fun _ _ e=>e,by omega,rfl,fun b hb=>hb⟩
 rw [set_heap hb,←HE.out]
 rfl
theorem clean_any {W:World} {tb base:Nat} {rv:Value} {s:ByteArray} {p:Nat} {bv:Value} {bk:List Int} {dn:Int} (h:TK W tb base rv s p bv bk dn):Calls Tryz.prog 38 #[.pointer (some ⟨tb,0,none⟩)] W fun e w'=>e = .returned (.bool (decide (bk=[])))∧w'=W:=by
 have c2:W.cell? ⟨tb,2,none⟩=some bv:=by rw [cell_of h.blk];rfl
 obtain ⟨a,c,hv⟩:=h.own.sl
 subst hv
 obtain ⟨n,hn⟩:∃ n,bk.length=n:=⟨_,rfl⟩
 have e:decide (bk=[])=decide ((n:Int)=0):=by
  rw [decide_eq_decide,←List.length_eq_zero_iff,hn];omega
 rw [e]
 rw [hn] at c2
 clear h hn e
 go_enter Tryz.func38,Tryz.ntmps38
 go_wp2
 go_ret
 exact ⟨by first | rfl | simp,rfl⟩
theorem first_any' {W:World} {tb base:Nat} {rv:Value} {s:ByteArray} {p:Nat} {bv:Value} {bk:List Int} {dn:Int} (h:TK W tb base rv s p bv bk dn) (hne:lfO bk s p≠[]) (hb:bk.length≤4000000) (hs:s.size≤4000000):Calls Tryz.prog 89 #[.pointer (some ⟨tb,0,none⟩)] W (FstQ W tb base rv s p bv bk dn):=by
 by_cases hbk:bk=[]
 · subst hbk
   obtain ⟨a,c,hv⟩:=h.own.sl
   subst hv
   refine first_src h ?_ hs
   rcases Nat.lt_or_ge p s.size with e | e
   · exact e
   · exact absurd (by unfold lfO;rw [unitsN_end s _ p (by omega)];rfl) hne
 · obtain ⟨l,u,rfl⟩:∃ l u,bk=l++[u]:=⟨bk.dropLast,bk.getLast hbk,(List.dropLast_concat_getLast hbk).symm⟩
   rcases h.own.2 with ⟨e,h0⟩ | ⟨g,cap,cur,e,_⟩
   · simp at h0
   · subst e
     rw [List.length_append,List.length_singleton] at h ⊢
     exact first_back h rfl (by simp at hb;omega)
def TkQ (W:World) (tb base:Nat) (rv:Value) (s:ByteArray) (p:Nat) (bv:Value) (bk:List Int) (dn:Int) (n:Nat) (e:Ending) (W':World):Prop:=∃ tv p' bv' bk',e = .returned tv∧OwnI W' W.heap.size tv ((lfO bk s p).take n)∧TK W' tb base rv s p' bv' bk' dn∧lfO bk' s p'=(lfO bk s p).drop n∧Fr W W' (fun k=>k=tb)∧p≤p'∧(∀ b,bv'.ownBlock=some b→bv.ownBlock=some b)∧bk'.length=bk.length - n
set_option maxHeartbeats 4000000 in
theorem take_any {W:World} {tb base:Nat} {rv:Value} {s:ByteArray} {p:Nat} {bv:Value} {bk:List Int} {dn:Int} (h:TK W tb base rv s p bv bk dn) (n:Nat) (hn:n≤(lfO bk s p).length) (hb:bk.length≤3000000) (hs:s.size≤90000):Calls Tryz.prog 55 #[.pointer (some ⟨tb,0,none⟩),.int .i64 (n:Int)] W (TkQ W tb base rv s p bv bk dn n):=by
 have hll:(lfO bk s p).length≤3900000:=by
  have h1:(intsU (unitsN s s.size p)).length≤s.size:=by rw [intsU_length];exact units_len_N s _ _
  unfold lfO
  rw [List.length_append,List.length_reverse]
  omega
 have hnI:(n:Int)≤3900000:=by omega
 have HL:=Hid.mk' (And.intro hn hll)
 have HH:=Hid.mk' h
 have htb:=blk_lt h.blk
 have hbn:=h.ne
 have HBB:Hid (∀ b,bv.ownBlock=some b→b<W.heap.size):=fun b hb=>(World.ownsRow.lt h.own b hb).2
 clear h
 go_enter Tryz.func55,Tryz.ntmps55
 go_wp2
 go_loopg [5,7] n (fun q s5 s7 wr=>∃ (i:Nat) (ta:Option Addr) (tc:Nat) (p':Nat) (bv':Value) (bk':List Int),s5 = .slice ta i tc∧s7 = .int .i64 (i:Int)∧i≤n∧n - i≤q∧Hid (OwnI wr W.heap.size (.slice ta i tc) ((lfO bk s p).take i)∧TK wr tb base rv s p' bv' bk' dn∧lfO bk' s p'=(lfO bk s p).drop i∧Fr W wr (fun k=>k=tb)∧p≤p'∧(∀ b,bv'.ownBlock=some b→bv.ownBlock=some b)∧bk'.length=bk.length - i))
 case atStart=>exact ⟨0,none,0,p,bv,bk,rfl,rfl,by omega,by omega,OwnI.nil _ _,HH.out,rfl,Fr.refl _ _,Nat.le_refl _,fun _ h=>h,rfl⟩
 case round=>
  obtain ⟨i,ta,tc,p',bv',bk',rfl,rfl,hi1,hi2,HR⟩:=hrel
  have hiI:(i:Int)≤3900000:=by omega
  by_cases hil:i<n
  · have hilI:(i:Int)<(n:Int):=by omega
    obtain ⟨r1,r2,r3,r4,r5,r6,r7⟩:=HR.out
    have hne:lfO bk' s p'≠[]:=by
     rw [r3]
     intro e
     have h1:=congrArg List.length e
     rw [List.length_drop,List.length_nil] at h1
     have h2:=HL.out.1
     omega
    have HF:=Hid.mk' (first_any' r2 hne (by omega) (by omega))
    have HRR:Hid (OwnI wr W.heap.size (.slice ta i tc) ((lfO bk s p).take i)∧lfO bk' s p'=(lfO bk s p).drop i∧Fr W wr (fun k=>k=tb)∧p≤p'∧(∀ b,bv'.ownBlock=some b→bv.ownBlock=some b)∧bk'.length=bk.length - i):=⟨r1,r3,r4,r5,r6,r7⟩
    clear r1 r2 r3 r4 r5 r6 r7 HR hne
    go_wp2_with (first
     | (go_at_call 89
        refine HF.out.mono ?_
        rintro e w1 ⟨u,p2,bv2,bk2,rfl,t1,t2,t3,t4,t6,t5⟩
        have HT:=Hid.mk' (And.intro t1 (And.intro t2 (And.intro t3 (And.intro t4 (And.intro t6 t5)))))
        have HO:Hid (OwnI (w1.alloc (.cells #[.int .i64 u] 3)) W.heap.size (.slice ta i tc) ((lfO bk s p).take i)):=OwnI.alloc (own_fr HRR.out.1 t3 fun b hb e=>by have:=(World.ownsRow.lt HRR.out.1 b hb).1;have e:b=tb:=e;omega) _
        clear t1 t2 t3 t4 t5 t6)
     | (at_builtin
        go_must (refine app_I3 rfl _ _ rfl W.heap.size (.slice ta i tc) _ ((lfO bk s p).take i) [u] rfl HO.out rfl (ir_lone (heap_alloc_new _ _)) (by have:=HL.out.2;simp;omega) (by have:=HRR.out.2.2.1.size;have:=HT.out.2.2.1.size;simp;omega) ?_
                 intro v' w2 q1 q2 q3
                 have HQ:=Hid.mk' (And.intro q1 q2)
                 obtain ⟨va,vc,hve⟩:=OwnI.sl q1
                 have hlen:((lfO bk s p).take i++[u]).length=i+1:=by rw [List.length_append,List.length_take,List.length_singleton];have:=HL.out.1;omega
                 rw [hlen] at hve
                 subst hve
                 clear q1 q2 q3 hlen)))
    go_wp2
    go_roundg (n - (i+1))
    case measure=>omega
    case rel=>
     obtain ⟨x1,x2,x3,x4,x5,x6⟩:=HRR.out
     obtain ⟨t1,t2,t3,t4,t6,t5⟩:=HT.out
     obtain ⟨q1,q2⟩:=HQ.out
     have g1:Grown w1 (w1.alloc (.cells #[.int .i64 u] 3)):=(Grown.refl _).alloc _
     have fq:Fr w1 w2 (fun k=>(Value.slice ta i tc).ownBlock=some k):=(fr_grown g1 _).trans (fr_by q2) fun _ _ e=>e
     have hdrop:(lfO bk s p).drop i=u::lfO bk2 s p2:=by rw [←x2];exact t2
     have htake:(lfO bk s p).take (i+1)=(lfO bk s p).take i++[u]:=by
      have hl:i<(lfO bk s p).length:=by have:=HL.out.1;omega
      have h0:=List.drop_eq_getElem_cons hl
      rw [hdrop] at h0
      injection h0 with h0 _
      rw [List.take_succ_eq_append_getElem hl,h0]
     refine ⟨i+1,va,vc,p2,bv2,bk2,rfl,rfl,by omega,Nat.le_refl _,by rw [htake];exact q1,t1.fr fq (fun e => ?_) (fun b hb e => ?_),?_,?_,by omega,fun b hb=>x5 b (t5 b hb),?_⟩
     · have:=(World.ownsRow.lt x1 _ e).1;omega
     · have h1:=(World.ownsRow.lt x1 _ e).1
       have h2:=HBB.out b (x5 b (t5 b hb))
       omega
     · have:=congrArg (List.drop 1) hdrop
       rw [List.drop_drop] at this
       simpa [Nat.add_comm] using this.symm
     · exact (x3.trans t3 fun _ _ e=>e).trans fq fun k hk e=>absurd (World.ownsRow.lt x1 _ e).1 (by omega)
     · omega
  · have hie:n=i:=by omega
    subst hie
    have hge:¬ (n:Int)<(n:Int):=by omega
    go_wp2
    go_ret
    obtain ⟨r1,r2,r3,r4,r5,r6,r7⟩:=HR.out
    exact ⟨_,p',bv',bk',rfl,r1,r2,r3,r4,r5,r6,r7⟩
structure JC (dep:Nat→List Nat) (val:Nat→Option Value) (f:Nat→Value→Value) (S:Nat) (W0:World) (R:Value→World→Prop) (p:Nat→Bool) (vs:Nat→Value) (W:World):Prop where
 v:∀ i x,i<S→val i=some x→p i=true→vs i=x
 n:p S=false→W=W0∧∀ j,S<j→p j=false
 s:p S=true→(∀ k,k<S→p k=true)∧R (vs S) W
 a:∀ i,S<i→p i=true→vs i=f i (vs S)
 c:∀ i j,i<S→j∈dep i→p i=true→p j=true
section JC
variable {dep:Nat→List Nat} {val:Nat→Option Value} {f:Nat→Value→Value} {S:Nat} {W0:World} {R:Value→World→Prop} {p:Nat→Bool} {vs:Nat→Value} {W:World}
theorem JC.start (dep:Nat→List Nat) (val:Nat→Option Value) (f:Nat→Value→Value) (S:Nat) (W0:World) (R:Value→World→Prop):JC dep val f S W0 R (fun _=>false) (fun _=>undef) W0:=⟨fun _ _ _ _ h=>(by cases h),fun _=>⟨rfl,fun _ _=>rfl⟩,fun h=>(by cases h),fun _ _ h=>(by cases h),fun _ _ _ _ h=>(by cases h)⟩
theorem JC.same (h:JC dep val f S W0 R p vs W) (i:Nat) (hi:i<S) (hpi:p i=false):W=W0:=by
 refine (h.n ?_).1
 cases e:p S with
 | false=>rfl
 | true=>have:=(h.s e).1 i hi;rw [hpi] at this;cases this
theorem JC.up (h:JC dep val f S W0 R p vs W) (i:Nat) (hi:S<i) (hpi:p i=true):p S=true:=by
 cases e:p S with
 | true=>rfl
 | false=>have:=(h.n e).2 i hi;rw [hpi] at this;cases this
theorem JC.nS (h:JC dep val f S W0 R p vs W) (i:Nat) (hi:i<S) (hpi:p i=false):p S=false:=by
 cases e:p S with
 | false=>rfl
 | true=>have:=(h.s e).1 i hi;rw [hpi] at this;cases this
theorem JC.pure (h:JC dep val f S W0 R p vs W) (i:Nat) {x:Value} (hi:i<S) (hpi:p i=false) (hx:val i=some x) (hd:∀ j,j∈dep i→p j=true):JC dep val f S W0 R (fun j=>p j || j == i) (fun j=>if j=i then x else vs j) W:=by
 have hS:p S=false:=by
  cases e:p S with
  | false=>rfl
  | true=>have:=(h.s e).1 i hi;rw [hpi] at this;cases this
 have e:(S == i)=false:=by simp;omega
 refine ⟨fun j y hj hy hp => ?_,fun hp=>⟨(h.n hS).1,fun j hj => ?_⟩,fun hp => ?_,fun j hj hp => ?_,fun j k hj hk hp => ?_⟩
 · by_cases ej:j=i
   · subst ej;rw [if_pos rfl];rw [hx] at hy;injection hy
   · rw [if_neg ej];exact h.v j y hj hy (by simpa [ej] using hp)
 · have:(j == i)=false:=by simp;omega
   rw [this,Bool.or_false];exact (h.n hS).2 j hj
 · rw [e,Bool.or_false,hS] at hp;cases hp
 · have e2:(j == i)=false:=by simp;omega
   rw [e2,Bool.or_false,(h.n hS).2 j hj] at hp;cases hp
 · by_cases ej:j=i
   · subst ej;simp [hd k hk]
   · simp [h.c j k hj hk (by simpa [ej] using hp)]
theorem JC.called (h:JC dep val f S W0 R p vs W) (hS:p S=false) (hall:∀ k,k<S→p k=true) {x:Value} {W':World} (hr:R x W'):JC dep val f S W0 R (fun j=>p j || j == S) (fun j=>if j=S then x else vs j) W':=by
 refine ⟨fun j y hj hy hp => ?_,fun hp => ?_,fun _=>⟨fun k hk=>by simp [hall k hk],by rw [if_pos rfl];exact hr⟩,fun j hj hp => ?_,fun j k hj hk hp=>(by have ej:j≠S:=(by omega);simp [h.c j k hj hk (by simpa [ej] using hp)])⟩
 · have ej:j≠S:=by omega
   rw [if_neg ej];exact h.v j y hj hy (by simpa [ej] using hp)
 · simp at hp
 · have e2:(j == S)=false:=by simp;omega
   rw [e2,Bool.or_false,(h.n hS).2 j hj] at hp;cases hp
theorem JC.after (h:JC dep val f S W0 R p vs W) (i:Nat) (hi:S<i) {k:Nat} (hk:p k=true) (hkS:S≤k:=by decide):JC dep val f S W0 R (fun j=>p j || j == i) (fun j=>if j=i then f i (vs S) else vs j) W:=by
 have hS:p S=true:=by
  rcases Nat.lt_or_ge S k with e | e
  · exact h.up k e hk
  · have:k=S:=by omega
    rw [←this];exact hk
 have eS:S≠i:=by omega
 refine ⟨fun j y hj hy hp => ?_,fun hp => ?_,fun _=>⟨fun k hk=>by simp [(h.s hS).1 k hk],by rw [if_neg eS];exact (h.s hS).2⟩,fun j hj hp => ?_,fun j k hj hk hp=>by have ej:j≠i:=(by omega);simp [h.c j k hj hk (by simpa [ej] using hp)]⟩
 · have ej:j≠i:=by omega
   rw [if_neg ej];exact h.v j y hj hy (by simpa [ej] using hp)
 · rw [hS] at hp;simp at hp
 · rw [if_neg eS]
   by_cases ej:j=i
   · subst ej;rw [if_pos rfl]
   · rw [if_neg ej];exact h.a j hj (by simpa [ej] using hp)
end JC
theorem dep_all {l:List Nat} {P p:Nat→Bool} (hdep:∀ j,P j=true→p j=true) (h:l.all P=true):∀ j,j∈l→p j=true:=fun j hj=>hdep j (List.all_eq_true.1 h j hj)
end Go.Proofs
