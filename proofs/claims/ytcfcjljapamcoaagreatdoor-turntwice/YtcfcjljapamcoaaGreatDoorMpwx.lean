/-
  Several texts in one (Xdx Xex Xfx Xgx Xhx Xix Xjx Xkx Xlx Xmx Xnx Xox Xpx Xqx S1x).
-/
import Derived.Test.YtcfcjljapamcoaaGreatDoorMpsx
import Derived.RangeFuncNested
import Derived.RangeFuncBound
import Derived.RangeFuncCalls
import Derived.RangeFuncLeaves
import Derived.Shelf.Abstract
import Derived.Shelf.RegionOpen
import Derived.WalkKit
import Derived.WalkSpells
import Derived.WalkLawsBesides
import Derived.OwnWalkIn
import Derived.TacticsInMore
import Derived.LoopNIn
import Derived.LoopIn
import Derived.BigQuiet
import Derived.RegionIn
import Derived.Deep.QuietTactic
import Derived.Deep.RegionWith
import Derived.Lib.OthersKept
import Derived.Maps.AppendAt
import Derived.Lib.SmallJoins
import Derived.Shelf.SlSortCmp.QuietGrown
import Derived.Test.YtcfcjljapamcoaaGreatDoorMggx
import Derived.Test.YtcfcjljapamcoaaGreatDoorMpkx
import Derived.Test.YtcfcjljapamcoaaGreatDoorMgox
import Derived.Test.YtcfcjljapamcoaaGreatDoorMgex
import Derived.Test.YtcfcjljapamcoaaGreatDoorMgcx
import Derived.Test.YtcfcjljapamcoaaGreatDoorMpex
import Derived.Test.YtcfcjljapamcoaaGreatDoorMprx
import Derived.Test.YtcfcjljapamcoaaGreatDoorMglx
import Derived.Deep.DeepAppendRoom
namespace Go.Proofs
open Go.RowKit Go.Shelf
set_option maxRecDepth 100000
attribute [local go_sem] Oper.semAt_some
end Go.Proofs
namespace Go.Proofs
open Go.RowKit Go.Shelf
set_option maxRecDepth 100000
attribute [local go_sem] Oper.semAt_some
end Go.Proofs
namespace Go.Proofs
open Go.RowKit Go.Shelf
set_option maxRecDepth 100000
attribute [local go_sem] Oper.semAt_some
end Go.Proofs
namespace Go.Proofs
open Go.RowKit Go.Shelf
set_option maxRecDepth 100000
attribute [local go_sem] Oper.semAt_some
attribute [local go_sem ↓] Go.wp_at_zero Go.wp_at_succ
end Go.Proofs
namespace Go.Proofs
open Go.RowKit Go.Shelf
set_option maxRecDepth 100000
attribute [local go_sem] Oper.semAt_some
end Go.Proofs
namespace Go.Proofs
open Go.RowKit Go.Shelf
set_option maxRecDepth 100000
attribute [local go_sem] Oper.semAt_some
end Go.Proofs
namespace Go.Proofs
open Go.RowKit Go.Shelf
end Go.Proofs
namespace Go.Proofs
open Go.RowKit Go.Shelf
set_option maxRecDepth 100000
attribute [local go_sem] Oper.semAt_some
end Go.Proofs
namespace Go.Proofs
open Go.RowKit Go.Shelf
set_option maxRecDepth 100000
attribute [local go_sem] Oper.semAt_some
end Go.Proofs
namespace Go.Proofs
open Go.RowKit Go.Shelf
set_option maxRecDepth 100000
attribute [local go_sem] Oper.semAt_some
end Go.Proofs
namespace Go.Proofs
open Go.RowKit Go.Shelf
set_option maxRecDepth 100000
attribute [local go_sem] Oper.semAt_some
end Go.Proofs
namespace Go.Proofs
open Go.RowKit Go.Shelf
set_option maxRecDepth 100000
attribute [local go_sem] Oper.semAt_some
end Go.Proofs
namespace Go.Proofs
open Go.RowKit Go.Shelf
set_option maxRecDepth 100000
attribute [local go_sem] Oper.semAt_some
end Go.Proofs
namespace Go.Proofs
open Go.RowKit Go.Shelf
set_option maxRecDepth 100000
attribute [local go_sem] Oper.semAt_some
def IsB (e:Ending):Prop:=∃ b,e = .returned (.bool b)
end Go.Proofs
namespace Go.Proofs
open Go.RowKit Go.Shelf
set_option maxRecDepth 100000
attribute [local go_sem] Oper.semAt_some
theorem more33_all (n m:Int) (w:World) (hn:0≤n∧n≤2147483648) (hm:0≤m):Calls Tryz.prog 33 #[.int .i64 n,.int .i64 m] w fun e w'=>∃ r,e = .returned (.int .i64 r)∧(0≤r∧r≤2147483648)∧(r≤2147483647→m≤2147483647)∧w'=w:=by
 obtain ⟨n0,n1⟩:=hn
 have hw1:IntKind.i64.wrap (2147483647 - n)=2147483647 - n:=IntWalk.i64_in _ ⟨by omega,by omega⟩
 by_cases h1:2147483647<n
 · go_enter Tryz.func33,Tryz.ntmps33
   go_wp2
   go_ret
   exact ⟨_,rfl,⟨by omega,by omega⟩,fun _=>by omega,rfl⟩
 · by_cases h2:2147483647 - n<m
   · go_enter Tryz.func33,Tryz.ntmps33
     go_wp2
     go_ret
     exact ⟨_,rfl,⟨by omega,by omega⟩,fun _=>by omega,rfl⟩
   · have hw2:IntKind.i64.wrap (n+m)=n+m:=IntWalk.i64_in _ ⟨by omega,by omega⟩
     go_enter Tryz.func33,Tryz.ntmps33
     go_wp2
     go_ret
     exact ⟨_,rfl,⟨by omega,by omega⟩,fun _=>by omega,rfl⟩
set_option maxHeartbeats 4000000 in
theorem sets32_all (n:Int) (sv:Value) (ls:List (List (Int × Int))) (w:World) (h:SR w sv ls) (hn:0≤n∧n≤2147483648):Calls Tryz.prog 32 #[.int .i64 n,sv] w fun e w'=>∃ r,e = .returned (.int .i64 r)∧(0≤r∧r≤2147483648)∧w'=w:=by
 obtain ⟨a,c,rfl,hc,hr⟩:=h
 obtain ⟨m,hm⟩:∃ m,ls.length=m:=⟨_,rfl⟩
 have H:Hid ((ls=[]∨∃ g o,a=some ⟨g,o,none⟩∧SRd w g o ls)∧ls.length=m):=⟨hr,hm⟩
 have HA:Hid (∀ r x:Int,0≤r∧r≤2147483648→0≤x→Calls Tryz.prog 33 #[.int .i64 r,.int .i64 x] w fun e w'=>∃ r,e = .returned (.int .i64 r)∧(0≤r∧r≤2147483648)∧(r≤2147483647→x≤2147483647)∧w'=w):=fun r x h1 h2=>more33_all r x w h1 h2
 rw [hm]
 clear hr hm
 go_enter Tryz.func32,Tryz.ntmps32
 go_wp2_with fail
 refine (HA.out n m hn (by omega)).mono ?_
 rintro e w1 ⟨r0,rfl,hr0,hm0,rfl⟩
 have HM0:Hid (m≤2147483647∨2147483647<r0):=by
  show _∨_
  by_cases e:r0≤2147483647
  · exact .inl (by have:=hm0 e;omega)
  · exact .inr (by omega)
 clear hn hm0
 go_wp2
 go_loop [0,5] (fun vn vi=>∃ (r:Int) (j:Nat),vn = .int .i64 r∧(0≤r∧r≤2147483648)∧vi = .int .i64 j∧j≤m∧Hid (m≤2147483647∨2147483647<r)) (fun _ vi=>m - (intOf vi).toNat)
 case atStart=>exact ⟨r0,0,rfl,hr0,rfl,by omega,HM0⟩
 case round=>
  obtain ⟨r,j,rfl,hr,rfl,hj,HM⟩:=hrel
  by_cases hlt:j<m
  · have hlt':(j:Int)<(m:Int):=by omega
    have hpos:(0:Int)≤(j:Int):=by omega
    by_cases hr2:r≤2147483647
    · have hjl:j<ls.length:=by rw [H.out.2];exact hlt
      have hm2:m≤2147483647:=HM.out.resolve_right (by omega)
      obtain ⟨g,o,rfl,hR⟩:=H.out.1.resolve_left (by rintro rfl;simp at hjl)
      obtain ⟨u,cu,hu⟩:=hR j hjl
      obtain ⟨ua,uc,rfl,-⟩:=hu
      obtain ⟨x,hxx⟩:∃ x,(ls[j]'hjl).length=x:=⟨_,rfl⟩
      rw [hxx] at cu
      go_wp2_with fail
      refine (HA.out r x hr (by omega)).mono ?_
      rintro e w1 ⟨r1,rfl,hr1,-,rfl⟩
      clear hr
      go_wp2
      exact ⟨⟨r1,j+1,rfl,hr1,by go_num,by omega,.inl hm2⟩,by simp [intOf];omega⟩
    · go_wp2
      go_ret
      exact ⟨_,rfl,hr,rfl⟩
  · have hge:¬ (j:Int)<(m:Int):=by omega
    go_wp2
    go_ret
    exact ⟨_,rfl,hr,rfl⟩
set_option maxHeartbeats 8000000 in
theorem beyond9_all (v:Value) (rs:List Rl) (w:World) (h:PsR w v rs):Calls Tryz.prog 9 #[.agg #[v]] w fun e w'=>IsB e∧Below w.heap.size w w':=by
 obtain ⟨ra,rc,rfl,hrc,hro⟩:=h
 obtain ⟨n,hnn⟩:∃ n,rs.length=n:=⟨_,rfl⟩
 obtain ⟨W1,hW1⟩:∃ W1,w.alloc (.cells #[.slice ra n rc] 24)=W1:=⟨_,rfl⟩
 have hb1:Below w.heap.size w W1:=by rw [←hW1];exact (Below.refl _ w).alloc (Nat.le_refl _) _
 have hk1:W1.heap[w.heap.size]? = some (.cells #[.slice ra n rc] 24 (0,0)):=by rw [←hW1];exact al_new _ _ rfl
 have x0:W1.cell? ⟨w.heap.size,0,none⟩=some (.slice ra n rc):=by rw [cell_of hk1];rfl
 have H:Hid (rs.length=n∧Below w.heap.size w W1∧(∀ W,Below W1.heap.size W1 W→W.cell? ⟨w.heap.size,0,none⟩=some (.slice ra n rc))∧(rs=[]∨∃ g o,ra=some ⟨g,o,none⟩∧∀ (j:Nat) (hj:j<rs.length),RAt w g (o+j*7) rs[j])):=⟨hnn,hb1,fun W hb=>cell_below x0 hb (Nat.le_refl _),hro⟩
 rw [hnn] at hrc ⊢
 clear hro hnn hb1 hk1
 go_enter Tryz.func9,Tryz.ntmps9
 go_wp2
 clear x0
 go_loopw [3,4] (fun vn vi wr=>∃ (x:Int) (j:Nat),vn = .int .i64 x∧0≤x∧vi = .int .i64 j∧j≤n∧Hid (Below W1.heap.size W1 wr∧(n≤2147483647∨2147483647<x))) (fun _ vi _=>n - (intOf vi).toNat)
 case atStart=>exact ⟨n,0,rfl,by omega,rfl,by omega,Below.refl _ _,by omega⟩
 case round=>
  obtain ⟨x,j,rfl,hx,rfl,hj,HB⟩:=hrel
  obtain ⟨ws,hws⟩:∃ ws,ws=wr:=⟨_,rfl⟩
  subst hws
  have x0:=H.out.2.2.1 ws HB.out.1
  have HBW:Hid (Below w.heap.size w ws):=H.out.2.1.trans (HB.out.1.mono H.out.2.1.size)
  by_cases hlt:j<n
  · have hlt':(j:Int)<(n:Int):=by omega
    have hpos:(0:Int)≤(j:Int):=by omega
    by_cases hx2:x≤2147483647
    · have hn2:n≤2147483647:=HB.out.2.resolve_right (by omega)
      have hx:0≤x∧x≤2147483648:=⟨hx,by omega⟩
      have hkl:j<rs.length:=by rw [H.out.1];exact hlt
      obtain ⟨g,o,rfl,hRA⟩:=H.out.2.2.2.resolve_left (by rintro rfl;simp at hkl)
      obtain ⟨av,kv,pv,rv,p0,p1,p2,p3,p4,p5,p6,hRR⟩:=hRA j hkl
      have q0:=cell_below p0 HBW.out (Nat.le_refl _)
      have q1:=cell_below p1 HBW.out (Nat.le_refl _)
      have q2:=cell_below p2 HBW.out (Nat.le_refl _)
      have q3:=cell_below p3 HBW.out (Nat.le_refl _)
      have q4:=cell_below p4 HBW.out (Nat.le_refl _)
      have q5:=cell_below p5 HBW.out (Nat.le_refl _)
      have q6:=cell_below p6 HBW.out (Nat.le_refl _)
      obtain ⟨r,hre⟩:∃ r,rs[j]'hkl=r:=⟨_,rfl⟩
      rw [hre] at q0 q4 q6 hRR
      clear p0 p1 p2 p3 p4 p5 p6 hre
      have hRW:=hRR.below HBW.out (Nat.le_refl _)
      have HR2:Hid (∀ W,Below ws.heap.size ws W→RR W av kv pv rv r):=fun W hb=>hRW.below hb (Nat.le_refl _)
      have HS32:Hid (∀ (W:World) (x:Int) sv ls,SR W sv ls→0≤x∧x≤2147483648→Calls Tryz.prog 32 #[.int .i64 x,sv] W fun e w'=>∃ r,e = .returned (.int .i64 r)∧(0≤r∧r≤2147483648)∧w'=W):=fun W x sv ls h1 h2=>sets32_all x sv ls W h1 h2
      obtain ⟨aa,an,ac,rfl⟩:=hRR.a.sl
      obtain ⟨ka,kn,kc,rfl⟩:=hRR.k.sl
      obtain ⟨pa,pn,pc,rfl⟩:=hRR.p.sl
      obtain ⟨ta,tc,rfl,htc,htr⟩:=hRR.r
      clear hRA hRR hRW hkl htr
      go_wp2_with fail
      obtain ⟨W2,hW2⟩:∃ W2,ws.alloc (.cells #[.bool r.bg,.slice aa an ac,.slice ka kn kc,.slice pa pn pc,.bool r.en,.slice ta r.res.length tc,.int .i64 r.cu] 60)=W2:=⟨_,rfl⟩
      have hb2:Below ws.heap.size ws W2:=by rw [←hW2];exact (Below.refl _ ws).alloc (Nat.le_refl _) _
      have hk2:W2.heap[ws.heap.size]? = some (.cells #[.bool r.bg,.slice aa an ac,.slice ka kn kc,.slice pa pn pc,.bool r.en,.slice ta r.res.length tc,.int .i64 r.cu] 60 (0,0)):=by rw [←hW2];exact al_new _ _ rfl
      have z1:W2.cell? ⟨ws.heap.size,1,none⟩=some (.slice aa an ac):=by rw [cell_of hk2];rfl
      have z2:W2.cell? ⟨ws.heap.size,2,none⟩=some (.slice ka kn kc):=by rw [cell_of hk2];rfl
      have z3:W2.cell? ⟨ws.heap.size,3,none⟩=some (.slice pa pn pc):=by rw [cell_of hk2];rfl
      have z5:W2.cell? ⟨ws.heap.size,5,none⟩=some (.slice ta r.res.length tc):=by rw [cell_of hk2];rfl
      have HRR:=hidT (HR2.out W2 hb2)
      have HB2:=hidT (HB.out.1.trans (hb2.mono HB.out.1.size))
      obtain ⟨m,hm⟩:∃ m,r.res.length=m:=⟨_,rfl⟩
      have HM:=hidT hm
      have HPR:Hid (∀ i,i<m→∃ pg po t1 t2 t3,ta=some ⟨pg,po,none⟩∧W2.cell? ⟨pg,po+i*4+3,none⟩=some (.slice t1 t2 t3)):=fun i hi=>by
       obtain ⟨A,c,e,_,h⟩:=HRR.out.r
       injection e with e1
       have hil:i<r.res.length:=by rw [HM.out];exact hi
       obtain ⟨pg,po,e2,h2⟩:=h.resolve_left (by intro e;rw [e] at hil;simp at hil)
       obtain ⟨tv,_,_,_,h3,h4⟩:=h2 i hil
       obtain ⟨t1,t3,rfl,_⟩:=h4
       exact ⟨pg,po,t1,_,t3,e1.trans e2,h3⟩
      rw [hW2]
      rw [hm] at z5 htc ⊢
      clear hW2 hb2 hk2 q0 q1 q2 q3 q4 q5 q6 x0 hm HR2
      refine (HS32.out W2 x _ r.ante HRR.out.a hx).mono ?_
      rintro e w3 ⟨r1,rfl,hr1,rfl⟩
      go_wp2_with fail
      refine (HS32.out _ r1 _ r.key HRR.out.k hr1).mono ?_
      rintro e w4 ⟨r2,rfl,hr2,rfl⟩
      clear hr1
      go_wp2_with fail
      refine (HS32.out _ r2 _ r.post HRR.out.p hr2).mono ?_
      rintro e w5 ⟨r3,rfl,hr3,rfl⟩
      clear hr2
      go_wp2_with fail
      refine (more33_all r3 m _ hr3 (by omega)).mono ?_
      rintro e w6 ⟨r4,rfl,hr4,hm4,rfl⟩
      have HM4:Hid (m≤2147483647∨2147483647<r4):=by
       show _∨_
       by_cases e:r4≤2147483647
       · exact .inl (by have:=hm4 e;omega)
       · exact .inr (by omega)
      clear hr3 hx hx2 hm4
      go_wp2
      go_loop [3,6] (fun vn vi=>∃ (y:Int) (i:Nat),vn = .int .i64 y∧(0≤y∧y≤2147483648)∧vi = .int .i64 i∧i≤m∧Hid (m≤2147483647∨2147483647<y)) (fun _ vi=>m - (intOf vi).toNat)
      case atStart=>exact ⟨r4,0,rfl,hr4,rfl,by omega,HM4⟩
      case round=>
       obtain ⟨y,i,rfl,hy,rfl,hi,HMY⟩:=hrel
       clear hr4
       by_cases hlt2:i<m
       · have hlt2':(i:Int)<(m:Int):=by omega
         have hpos2:(0:Int)≤(i:Int):=by omega
         by_cases hy2:y≤2147483647
         · have hm2:m≤2147483647:=HMY.out.resolve_right (by omega)
           obtain ⟨pg,po,t1,t2,t3,rfl,cT⟩:=HPR.out i hlt2
           go_wp2_with fail
           refine (more33_all y t2 _ hy (by omega)).mono ?_
           rintro e w7 ⟨r5,rfl,hr5,-,rfl⟩
           clear hy
           go_wp2
           exact ⟨⟨r5,i+1,rfl,hr5,by go_num,by omega,.inl hm2⟩,by simp [intOf];omega⟩
         · go_wp2
           exact ⟨⟨y,j+1,rfl,hy.1,by go_num,by omega,HB2.out,.inl hn2⟩,by simp [intOf];omega⟩
       · have hge2:¬ (i:Int)<(m:Int):=by omega
         go_wp2
         exact ⟨⟨y,j+1,rfl,hy.1,by go_num,by omega,HB2.out,.inl hn2⟩,by simp [intOf];omega⟩
    · go_wp2
      go_ret
      exact ⟨⟨_,rfl⟩,HBW.out⟩
  · have hge:¬ (j:Int)<(n:Int):=by omega
    go_wp2
    go_ret
    exact ⟨⟨_,rfl⟩,HBW.out⟩
end Go.Proofs
