/-
  Several texts in one (S1z Xbz Ua2z S2z).
-/
import Derived.Test.YtcfcjljapamcoaaGreatDoorMpxz
import Derived.Test.YtcfcjljapamcoaaGreatDoorMpsx
import Derived.RangeFuncNested
import Derived.RangeFuncBound
import Derived.RangeFuncCalls
import Derived.RangeFuncLeaves
import Derived.Shelf.Abstract
import Derived.Shelf.RegionOpen
import Derived.WalkKit
import Derived.WalkSpells
import Derived.WalkLawsBesides
import Derived.OwnWalkIn
import Derived.TacticsInMore
import Derived.LoopNIn
import Derived.LoopIn
import Derived.BigQuiet
import Derived.RegionIn
import Derived.Deep.QuietTactic
import Derived.Deep.RegionWith
import Derived.Lib.OthersKept
import Derived.Maps.AppendAt
import Derived.Lib.SmallJoins
import Derived.Shelf.SlSortCmp.QuietGrown
import Derived.Test.YtcfcjljapamcoaaGreatDoorMpvz
import Derived.Test.YtcfcjljapamcoaaGreatDoorMgox
namespace Go.Proofs
open Go.RowKit Go.Shelf
set_option maxRecDepth 100000
attribute [local go_sem] Oper.semAt_some
theorem more33_all (n m:Int) (w:World) (hn:0≤n∧n≤2147483648) (hm:0≤m):Calls Tryz.prog 33 #[.int .i64 n,.int .i64 m] w fun e w'=>∃ r,e = .returned (.int .i64 r)∧(0≤r∧r≤2147483648)∧(r≤2147483647→m≤2147483647)∧w'=w:=by
 obtain ⟨n0,n1⟩:=hn
 have hw1:IntKind.i64.wrap (2147483647 - n)=2147483647 - n:=IntWalk.i64_in _ ⟨by omega,by omega⟩
 by_cases h1:2147483647<n
 · go_enter Tryz.func33,Tryz.ntmps33
   go_wp2
   go_ret
   exact ⟨_,rfl,⟨by omega,by omega⟩,fun _=>by omega,rfl⟩
 · by_cases h2:2147483647 - n<m
   · go_enter Tryz.func33,Tryz.ntmps33
     go_wp2
     go_ret
     exact ⟨_,rfl,⟨by omega,by omega⟩,fun _=>by omega,rfl⟩
   · have hw2:IntKind.i64.wrap (n+m)=n+m:=IntWalk.i64_in _ ⟨by omega,by omega⟩
     go_enter Tryz.func33,Tryz.ntmps33
     go_wp2
     go_ret
     exact ⟨_,rfl,⟨by omega,by omega⟩,fun _=>by omega,rfl⟩
set_option maxHeartbeats 4000000 in
theorem sets32_all (n:Int) (sv:Value) (ls:List (List (Int × Int))) (w:World) (h:SR w sv ls) (hn:0≤n∧n≤2147483648):Calls Tryz.prog 32 #[.int .i64 n,sv] w fun e w'=>∃ r,e = .returned (.int .i64 r)∧(0≤r∧r≤2147483648)∧w'=w:=by
 obtain ⟨a,c,rfl,hc,hr⟩:=h
 obtain ⟨m,hm⟩:∃ m,ls.length=m:=⟨_,rfl⟩
 have H:Hid ((ls=[]∨∃ g o,a=some ⟨g,o,none⟩∧SRd w g o ls)∧ls.length=m):=⟨hr,hm⟩
 have HA:Hid (∀ r x:Int,0≤r∧r≤2147483648→0≤x→Calls Tryz.prog 33 #[.int .i64 r,.int .i64 x] w fun e w'=>∃ r,e = .returned (.int .i64 r)∧(0≤r∧r≤2147483648)∧(r≤2147483647→x≤2147483647)∧w'=w):=fun r x h1 h2=>more33_all r x w h1 h2
 rw [hm]
 clear hr hm
 go_enter Tryz.func32,Tryz.ntmps32
 go_wp2_with fail
 refine (HA.out n m hn (by omega)).mono ?_
 rintro e w1 ⟨r0,rfl,hr0,hm0,rfl⟩
 have HM0:Hid (m≤2147483647∨2147483647<r0):=by
  show _∨_
  by_cases e:r0≤2147483647
  · exact .inl (by have:=hm0 e;omega)
  · exact .inr (by omega)
 clear hn hm0
 go_wp2
 go_loop [0,5] (fun vn vi=>∃ (r:Int) (j:Nat),vn = .int .i64 r∧(0≤r∧r≤2147483648)∧vi = .int .i64 j∧j≤m∧Hid (m≤2147483647∨2147483647<r)) (fun _ vi=>m - (intOf vi).toNat)
 case atStart=>exact ⟨r0,0,rfl,hr0,rfl,by omega,HM0⟩
 case round=>
  obtain ⟨r,j,rfl,hr,rfl,hj,HM⟩:=hrel
  by_cases hlt:j<m
  · have hlt':(j:Int)<(m:Int):=by omega
    have hpos:(0:Int)≤(j:Int):=by omega
    by_cases hr2:r≤2147483647
    · have hjl:j<ls.length:=by rw [H.out.2];exact hlt
      have hm2:m≤2147483647:=HM.out.resolve_right (by omega)
      obtain ⟨g,o,rfl,hR⟩:=H.out.1.resolve_left (by rintro rfl;simp at hjl)
      obtain ⟨u,cu,hu⟩:=hR j hjl
      obtain ⟨ua,uc,rfl,-⟩:=hu
      obtain ⟨x,hxx⟩:∃ x,(ls[j]'hjl).length=x:=⟨_,rfl⟩
      rw [hxx] at cu
      go_wp2_with fail
      refine (HA.out r x hr (by omega)).mono ?_
      rintro e w1 ⟨r1,rfl,hr1,-,rfl⟩
      clear hr
      go_wp2
      exact ⟨⟨r1,j+1,rfl,hr1,by go_num,by omega,.inl hm2⟩,by simp [intOf];omega⟩
    · go_wp2
      go_ret
      exact ⟨_,rfl,hr,rfl⟩
  · have hge:¬ (j:Int)<(m:Int):=by omega
    go_wp2
    go_ret
    exact ⟨_,rfl,hr,rfl⟩
set_option maxHeartbeats 8000000 in
theorem beyond9_all (v:Value) (rs:List Rl) (w:World) (h:PsR w v rs):Calls Tryz.prog 9 #[.agg #[v]] w fun e w'=>IsB e∧Below w.heap.size w w':=by
 obtain ⟨ra,rc,rfl,hrc,hro⟩:=h
 obtain ⟨n,hnn⟩:∃ n,rs.length=n:=⟨_,rfl⟩
 obtain ⟨W1,hW1⟩:∃ W1,w.alloc (.cells #[.slice ra n rc] 24)=W1:=⟨_,rfl⟩
 have hb1:Below w.heap.size w W1:=by rw [←hW1];exact (Below.refl _ w).alloc (Nat.le_refl _) _
 have hk1:W1.heap[w.heap.size]? = some (.cells #[.slice ra n rc] 24 (0,0)):=by rw [←hW1];exact al_new _ _ rfl
 have x0:W1.cell? ⟨w.heap.size,0,none⟩=some (.slice ra n rc):=by rw [cell_of hk1];rfl
 have H:Hid (rs.length=n∧Below w.heap.size w W1∧(∀ W,Below W1.heap.size W1 W→W.cell? ⟨w.heap.size,0,none⟩=some (.slice ra n rc))∧(rs=[]∨∃ g o,ra=some ⟨g,o,none⟩∧∀ (j:Nat) (hj:j<rs.length),RAt w g (o+j*7) rs[j])):=⟨hnn,hb1,fun W hb=>cell_below x0 hb (Nat.le_refl _),hro⟩
 rw [hnn] at hrc ⊢
 clear hro hnn hb1 hk1
 go_enter Tryz.func9,Tryz.ntmps9
 go_wp2
 clear x0
 go_loopw [3,4] (fun vn vi wr=>∃ (x:Int) (j:Nat),vn = .int .i64 x∧0≤x∧vi = .int .i64 j∧j≤n∧Hid (Below W1.heap.size W1 wr∧(n≤2147483647∨2147483647<x))) (fun _ vi _=>n - (intOf vi).toNat)
 case atStart=>exact ⟨n,0,rfl,by omega,rfl,by omega,Below.refl _ _,by omega⟩
 case round=>
  obtain ⟨x,j,rfl,hx,rfl,hj,HB⟩:=hrel
  obtain ⟨ws,hws⟩:∃ ws,ws=wr:=⟨_,rfl⟩
  subst hws
  have x0:=H.out.2.2.1 ws HB.out.1
  have HBW:Hid (Below w.heap.size w ws):=H.out.2.1.trans (HB.out.1.mono H.out.2.1.size)
  by_cases hlt:j<n
  · have hlt':(j:Int)<(n:Int):=by omega
    have hpos:(0:Int)≤(j:Int):=by omega
    by_cases hx2:x≤2147483647
    · have hn2:n≤2147483647:=HB.out.2.resolve_right (by omega)
      have hx:0≤x∧x≤2147483648:=⟨hx,by omega⟩
      have hkl:j<rs.length:=by rw [H.out.1];exact hlt
      obtain ⟨g,o,rfl,hRA⟩:=H.out.2.2.2.resolve_left (by rintro rfl;simp at hkl)
      obtain ⟨av,kv,pv,rv,p0,p1,p2,p3,p4,p5,p6,hRR⟩:=hRA j hkl
      have q0:=cell_below p0 HBW.out (Nat.le_refl _)
      have q1:=cell_below p1 HBW.out (Nat.le_refl _)
      have q2:=cell_below p2 HBW.out (Nat.le_refl _)
      have q3:=cell_below p3 HBW.out (Nat.le_refl _)
      have q4:=cell_below p4 HBW.out (Nat.le_refl _)
      have q5:=cell_below p5 HBW.out (Nat.le_refl _)
      have q6:=cell_below p6 HBW.out (Nat.le_refl _)
      obtain ⟨r,hre⟩:∃ r,rs[j]'hkl=r:=⟨_,rfl⟩
      rw [hre] at q0 q4 q6 hRR
      clear p0 p1 p2 p3 p4 p5 p6 hre
      have hRW:=hRR.below HBW.out (Nat.le_refl _)
      have HR2:Hid (∀ W,Below ws.heap.size ws W→RR W av kv pv rv r):=fun W hb=>hRW.below hb (Nat.le_refl _)
      have HS32:Hid (∀ (W:World) (x:Int) sv ls,SR W sv ls→0≤x∧x≤2147483648→Calls Tryz.prog 32 #[.int .i64 x,sv] W fun e w'=>∃ r,e = .returned (.int .i64 r)∧(0≤r∧r≤2147483648)∧w'=W):=fun W x sv ls h1 h2=>sets32_all x sv ls W h1 h2
      obtain ⟨aa,an,ac,rfl⟩:=hRR.a.sl
      obtain ⟨ka,kn,kc,rfl⟩:=hRR.k.sl
      obtain ⟨pa,pn,pc,rfl⟩:=hRR.p.sl
      obtain ⟨ta,tc,rfl,htc,htr⟩:=hRR.r
      clear hRA hRR hRW hkl htr
      go_wp2_with fail
      obtain ⟨W2,hW2⟩:∃ W2,ws.alloc (.cells #[.bool r.bg,.slice aa an ac,.slice ka kn kc,.slice pa pn pc,.bool r.en,.slice ta r.res.length tc,.int .i64 r.cu] 60)=W2:=⟨_,rfl⟩
      have hb2:Below ws.heap.size ws W2:=by rw [←hW2];exact (Below.refl _ ws).alloc (Nat.le_refl _) _
      have hk2:W2.heap[ws.heap.size]? = some (.cells #[.bool r.bg,.slice aa an ac,.slice ka kn kc,.slice pa pn pc,.bool r.en,.slice ta r.res.length tc,.int .i64 r.cu] 60 (0,0)):=by rw [←hW2];exact al_new _ _ rfl
      have z1:W2.cell? ⟨ws.heap.size,1,none⟩=some (.slice aa an ac):=by rw [cell_of hk2];rfl
      have z2:W2.cell? ⟨ws.heap.size,2,none⟩=some (.slice ka kn kc):=by rw [cell_of hk2];rfl
      have z3:W2.cell? ⟨ws.heap.size,3,none⟩=some (.slice pa pn pc):=by rw [cell_of hk2];rfl
      have z5:W2.cell? ⟨ws.heap.size,5,none⟩=some (.slice ta r.res.length tc):=by rw [cell_of hk2];rfl
      have HRR:=hidT (HR2.out W2 hb2)
      have HB2:=hidT (HB.out.1.trans (hb2.mono HB.out.1.size))
      obtain ⟨m,hm⟩:∃ m,r.res.length=m:=⟨_,rfl⟩
      have HM:=hidT hm
      have HPR:Hid (∀ i,i<m→∃ pg po t1 t2 t3,ta=some ⟨pg,po,none⟩∧W2.cell? ⟨pg,po+i*4+3,none⟩=some (.slice t1 t2 t3)):=fun i hi=>by
       obtain ⟨A,c,e,_,h⟩:=HRR.out.r
       injection e with e1
       have hil:i<r.res.length:=by rw [HM.out];exact hi
       obtain ⟨pg,po,e2,h2⟩:=h.resolve_left (by intro e;rw [e] at hil;simp at hil)
       obtain ⟨tv,_,_,_,h3,h4⟩:=h2 i hil
       obtain ⟨t1,t3,rfl,_⟩:=h4
       exact ⟨pg,po,t1,_,t3,e1.trans e2,h3⟩
      rw [hW2]
      rw [hm] at z5 htc ⊢
      clear hW2 hb2 hk2 q0 q1 q2 q3 q4 q5 q6 x0 hm HR2
      refine (HS32.out W2 x _ r.ante HRR.out.a hx).mono ?_
      rintro e w3 ⟨r1,rfl,hr1,rfl⟩
      go_wp2_with fail
      refine (HS32.out _ r1 _ r.key HRR.out.k hr1).mono ?_
      rintro e w4 ⟨r2,rfl,hr2,rfl⟩
      clear hr1
      go_wp2_with fail
      refine (HS32.out _ r2 _ r.post HRR.out.p hr2).mono ?_
      rintro e w5 ⟨r3,rfl,hr3,rfl⟩
      clear hr2
      go_wp2_with fail
      refine (more33_all r3 m _ hr3 (by omega)).mono ?_
      rintro e w6 ⟨r4,rfl,hr4,hm4,rfl⟩
      have HM4:Hid (m≤2147483647∨2147483647<r4):=by
       show _∨_
       by_cases e:r4≤2147483647
       · exact .inl (by have:=hm4 e;omega)
       · exact .inr (by omega)
      clear hr3 hx hx2 hm4
      go_wp2
      go_loop [3,6] (fun vn vi=>∃ (y:Int) (i:Nat),vn = .int .i64 y∧(0≤y∧y≤2147483648)∧vi = .int .i64 i∧i≤m∧Hid (m≤2147483647∨2147483647<y)) (fun _ vi=>m - (intOf vi).toNat)
      case atStart=>exact ⟨r4,0,rfl,hr4,rfl,by omega,HM4⟩
      case round=>
       obtain ⟨y,i,rfl,hy,rfl,hi,HMY⟩:=hrel
       clear hr4
       by_cases hlt2:i<m
       · have hlt2':(i:Int)<(m:Int):=by omega
         have hpos2:(0:Int)≤(i:Int):=by omega
         by_cases hy2:y≤2147483647
         · have hm2:m≤2147483647:=HMY.out.resolve_right (by omega)
           obtain ⟨pg,po,t1,t2,t3,rfl,cT⟩:=HPR.out i hlt2
           go_wp2_with fail
           refine (more33_all y t2 _ hy (by omega)).mono ?_
           rintro e w7 ⟨r5,rfl,hr5,-,rfl⟩
           clear hy
           go_wp2
           exact ⟨⟨r5,i+1,rfl,hr5,by go_num,by omega,.inl hm2⟩,by simp [intOf];omega⟩
         · go_wp2
           exact ⟨⟨y,j+1,rfl,hy.1,by go_num,by omega,HB2.out,.inl hn2⟩,by simp [intOf];omega⟩
       · have hge2:¬ (i:Int)<(m:Int):=by omega
         go_wp2
         exact ⟨⟨y,j+1,rfl,hy.1,by go_num,by omega,HB2.out,.inl hn2⟩,by simp [intOf];omega⟩
    · go_wp2
      go_ret
      exact ⟨⟨_,rfl⟩,HBW.out⟩
  · have hge:¬ (j:Int)<(n:Int):=by omega
    go_wp2
    go_ret
    exact ⟨⟨_,rfl⟩,HBW.out⟩
end Go.Proofs
namespace Go.Proofs
open Go.RowKit Go.Shelf
set_option maxRecDepth 100000
attribute [local go_sem] Oper.semAt_some
theorem plR_small (k t:Int × Int) (cu:Int):∀ r∈[plR [k] [t] cu],Go.Proofs.YtcfcjljapamcoaaGreatDoor.Small r 1048576:=by
 intro r hr
 simp only [List.mem_singleton] at hr
 subst hr
 exact ⟨by simp [plR],by simp [plR],by simp [plR],by simp [plR],by simp [plR],by simp [plR],by simp [plR],by simp [plR]⟩
set_option maxHeartbeats 8000000 in
theorem shown19_any (w:World) (hT:Tab w):Calls Tryz.prog 10 #[] w fun e w'=>e = .returned (.bool true)∧Below w.heap.size w w':=by
 have HT:Hid (∀ W,Below w.heap.size w W→Tab W):=fun W hb j v hv=>cell_below (hT j v hv) hb (Nat.le_refl _)
 clear hT
 go_enter Tryz.func10,Tryz.ntmps10
 go_wp2_with fail
 refine (plain34_any w).mono ?_
 rintro e w1 ⟨g1,k1,r1,rfl,hb1,hp1,hg1,hw1⟩
 have HC1:Hid (Calls Tryz.prog 12 #[.agg #[.slice (some ⟨g1,0,none⟩) 1 1]] w1 (TrnQ w1 pl0)):=turn12_any _ pl0 w1 (HT.out w1 hw1) (pl_psr hb1 hp1.now)
 have H1:Hid (Below w.heap.size w w1):=hw1
 clear hb1 hp1 hg1 hw1
 go_wp2_with fail
 refine HC1.out.mono ?_
 rintro e w2 ⟨y1,y2,y3,n,c,rfl,htr,-,hps,hb2⟩
 obtain ⟨rfl,rfl⟩:=pl0_trn htr
 have hps:=(hps rfl).now
 rw [pl0_turn] at hps
 have H2:Hid (PsR w2 (.slice y1 y2 y3) [plR [(120,122)] [(97,99)] 1]∧Below w.heap.size w w2):=⟨hps,H1.out.trans (hb2.mono H1.out.size)⟩
 clear htr hps hb2 HC1
 obtain ⟨W2,hW2⟩:∃ W2,w2.alloc (.cells #[.slice y1 y2 y3] 24)=W2:=⟨_,rfl⟩
 have hb2:Below w2.heap.size w2 W2:=by rw [←hW2];exact (Below.refl _ w2).alloc (Nat.le_refl _) _
 have hk2:W2.heap[w2.heap.size]? = some (.cells #[.slice y1 y2 y3] 24 (0,0)):=by rw [←hW2];exact World.alloc_heap_new _ _
 have HB2:Hid (Below w2.heap.size w2 W2∧W2.heap[w2.heap.size]? = some (.cells #[.slice y1 y2 y3] 24 (0,0))∧w2.heap.size<W2.heap.size∧Below w.heap.size w W2):=⟨hb2,hk2,(Array.getElem?_eq_some_iff.1 hk2).1,H2.out.2.trans (hb2.mono H2.out.2.size)⟩
 clear hb2 hk2
 go_wp2_with fail
 clear hW2
 refine (plain34_any W2).mono ?_
 rintro e w3 ⟨g3,k3,r3,rfl,hb3,hp3,hg3,hw3⟩
 have HB3:Hid (Below W2.heap.size W2 w3∧Below w.heap.size w w3):=⟨hw3,HB2.out.2.2.2.trans (hw3.mono HB2.out.2.2.2.size)⟩
 have HC3:Hid (Calls Tryz.prog 18 #[.agg #[.slice (some ⟨g3,0,none⟩) 1 1]] w3 (OveQ w3 pl0)):=over_any _ pl0 w3 (HT.out w3 HB3.out.2) (pl_psr hb3 hp3.now)
 clear hb3 hp3 hg3 hw3
 go_wp2_with fail
 refine HC3.out.mono ?_
 rintro e w4 ⟨v4,n4,c4,s4,rfl,hO4,hb4,hov⟩
 obtain ⟨rfl,rfl,rfl⟩:=pl0_over hov
 obtain ⟨a4,cp4,rfl,hc4,hr4⟩:=hO4.rs
 obtain ⟨g4,o4,rfl,hrd⟩:=hr4.resolve_left (by simp [plS])
 have c4:=(hrd 0 (by simp [plS])).2
 have e4:plS.length=4:=rfl
 rw [e4] at hc4 ⊢
 have HB4:Hid (Below W2.heap.size W2 w4∧Below w.heap.size w w4∧w4.cell? ⟨g4,o4+1,none⟩=some (.int .i64 119)∧g4<w4.heap.size):=⟨HB3.out.1.trans (hb4.mono HB3.out.1.size),HB3.out.2.trans (hb4.mono HB3.out.2.size),by simpa [plS,rg] using c4,cell_lt c4⟩
 clear hO4 hb4 hov hr4 hrd c4 e4 hc4 HC3
 go_wp2_with fail
 refine (plain34_any w4).mono ?_
 rintro e w5 ⟨g5,k5,r5,rfl,hb5,hp5,hg5,hw5⟩
 obtain ⟨W5,hW5⟩:∃ W5,w5.alloc (.cells #[.slice (some ⟨g5,0,none⟩) 1 1] 24)=W5:=⟨_,rfl⟩
 have hbW:Below w5.heap.size w5 W5:=by rw [←hW5];exact (Below.refl _ w5).alloc (Nat.le_refl _) _
 have hk5:W5.heap[w5.heap.size]? = some (.cells #[.slice (some ⟨g5,0,none⟩) 1 1] 24 (0,0)):=by rw [←hW5];exact World.alloc_heap_new _ _
 have hl5:=blk_lt hb5
 have hbb5:W5.heap[g5]? = some (.cells #[.bool false,.slice none 0 0,.slice (some ⟨k5,0,none⟩) 1 1,.slice none 0 0,.bool false,.slice (some ⟨r5,0,none⟩) 1 1,.int .i64 1] 60 (0,0)):=(hbW.block _ hl5).trans hb5
 have hB5:Below w4.heap.size w4 W5:=hw5.trans (hbW.mono hw5.size)
 have x5:W5.cell? ⟨w5.heap.size,0,none⟩=some (.slice (some ⟨g5,0,none⟩) 1 1):=by rw [cell_of hk5];rfl
 have x6:W5.cell? ⟨g5,6,none⟩=some (.int .i64 1):=by rw [cell_of hbb5];rfl
 have f6:W5.frozen? ⟨g5,6,none⟩=false:=free_of hbb5
 obtain ⟨W6,hW6⟩:∃ W6,W5.setCell ⟨g5,6,none⟩ (.int .i64 0)=W6:=⟨_,rfl⟩
 have hfs:Fr W5 W6 fun k=>k=g5:=by rw [←hW6];exact fr_set W5 g5 6 _
 have hk6:W6.heap[g5]? = some (.cells #[.bool false,.slice none 0 0,.slice (some ⟨k5,0,none⟩) 1 1,.slice none 0 0,.bool false,.slice (some ⟨r5,0,none⟩) 1 1,.int .i64 0] 60 (0,0)):=by rw [←hW6,set_heap hbb5];rfl
 have hp6:=(hp5.fr (fr_below hbW (Nat.le_refl _) fun _=>False) fun _ _ e=>e.elim).fr hfs fun k _ e => .inr e
 have hB6:Below w4.heap.size w4 W6:=by rw [←hW6];exact hB5.setCell hg5 _
 have y5:W6.cell? ⟨w5.heap.size,0,none⟩=some (.slice (some ⟨g5,0,none⟩) 1 1):=(cell_eqb (a:=⟨w5.heap.size,0,none⟩) (hfs.block w5.heap.size (blk_lt hk5) (show ¬ w5.heap.size=g5 by omega))).trans x5
 have HC6:Hid (Calls Tryz.prog 12 #[.agg #[.slice (some ⟨g5,0,none⟩) 1 1]] W6 (TrnQ W6 pl1)):=turn12_any _ pl1 W6 (HT.out W6 (HB4.out.2.1.trans (hB6.mono HB4.out.2.1.size))) (pl_psr hk6 hp6.now)
 have HB6:Hid (Below w4.heap.size w4 W6):=hB6
 clear hb5 hp5 hg5 hw5 hbW hk5 hl5 hbb5 hB5 hfs hk6 hp6 hB6
 go_wp2_with fail
 clear hW5 x5 x6 f6 hW6
 refine HC6.out.mono ?_
 rintro e w7 ⟨z1,z2,z3,n7,c7,rfl,htr,hn7,-,hb7⟩
 obtain ⟨rfl,rfl⟩:=pl1_trn htr
 obtain ⟨rfl,rfl,rfl⟩:=hn7 (by decide)
 have HB7:Hid (Below w4.heap.size w4 w7):=HB6.out.trans (hb7.mono HB6.out.size)
 clear htr hb7 HC6 y5
 obtain ⟨W8,hW8⟩:∃ W8,w7.alloc (.cells #[.slice none 0 0] 24)=W8:=⟨_,rfl⟩
 have g8:Grown w7 W8:=by rw [←hW8];exact (Grown.refl w7).alloc _
 have hs8:W8.heap.size=w7.heap.size+1:=by rw [←hW8];simp only [World.size_alloc]
 obtain ⟨W9,hW9⟩:∃ W9,plW W8 120 122 97 99 1=W9:=⟨_,rfl⟩
 have g9:=plW_grown W8 120 122 97 99 1
 have k9:=plW_blk W8 120 122 97 99 1
 have p9:=plW_parts W8 120 122 97 99 1
 have s9:=plW_size W8 120 122 97 99 1
 rw [hW9] at g9 k9 p9 s9
 rw [hs8] at k9 p9 s9
 obtain ⟨WA,hWA⟩:∃ WA,W9.alloc (.cells #[.slice (some ⟨w7.heap.size+1+1+1+1+1,0,none⟩) 1 1] 24)=WA:=⟨_,rfl⟩
 have gA:Grown W9 WA:=by rw [←hWA];exact (Grown.refl W9).alloc _
 have hkA:WA.heap[W9.heap.size]? = some (.cells #[.slice (some ⟨w7.heap.size+1+1+1+1+1,0,none⟩) 1 1] 24 (0,0)):=by rw [←hWA];exact World.alloc_heap_new _ _
 have hBA:Below w4.heap.size w4 WA:=HB7.out.trans (((g8.trans g9).trans gA).below.mono HB7.out.size)
 have hB2A:Below w2.heap.size w2 WA:=by
  have h1:=HB2.out.1.trans (HB4.out.1.mono HB2.out.1.size)
  exact h1.trans (hBA.mono h1.size)
 have hBwA:Below w.heap.size w WA:=HB4.out.2.1.trans (hBA.mono HB4.out.2.1.size)
 have hW2A:WA.heap[w2.heap.size]? = some (.cells #[.slice y1 y2 y3] 24 (0,0)):=by
  have h1:w4.heap[w2.heap.size]? = some (.cells #[.slice y1 y2 y3] 24 (0,0)):=(HB4.out.1.block _ HB2.out.2.2.1).trans HB2.out.2.1
  exact (hBA.block _ (blk_lt h1)).trans h1
 have q1:WA.cell? ⟨w2.heap.size,0,none⟩=some (.slice y1 y2 y3):=by rw [cell_of hW2A];rfl
 have q2:WA.cell? ⟨W9.heap.size,0,none⟩=some (.slice (some ⟨w7.heap.size+1+1+1+1+1,0,none⟩) 1 1):=by rw [cell_of hkA];rfl
 have q3:WA.cell? ⟨g4,o4+1,none⟩=some (.int .i64 119):=cell_below HB4.out.2.2.1 hBA (Nat.le_refl _)
 have HS:Hid (∀ W,Grown WA W→Calls Tryz.prog 14 #[.agg #[.slice y1 y2 y3],.agg #[.slice (some ⟨w7.heap.size+1+1+1+1+1,0,none⟩) 1 1]] W fun e w'=>e = .returned (.bool true)∧Grown W w'):=fun W hg=>by
  refine samePass_eq _ _ [plR [(120,122)] [(97,99)] 1] W ((H2.out.1.below hB2A (Nat.le_refl _)).grown hg) ?_ (by simp) (plR_small _ _ _)
  have h2:=gA.trans hg
  exact pl_psr ((h2.below.block _ (blk_lt k9)).trans k9) (p9.fr (fr_grown h2 fun _=>False) fun _ _ e=>e.elim).now
 have HW:Hid (Below w.heap.size w WA∧WA.cell? ⟨g4,o4+1,none⟩=some (.int .i64 119)):=⟨hBwA,q3⟩
 have hW9':(((((W8.alloc (.cells #[.int .i64 120,.int .i64 122] 67)).alloc (.cells #[.slice (some ⟨w7.heap.size+1,0,none⟩) 1 1] 40)).alloc (.cells #[.int .i64 97,.int .i64 99] 67)).alloc (.cells #[.int .i64 3,.int .i64 0,.int .i64 0,.slice (some ⟨w7.heap.size+1+1+1,0,none⟩) 1 1] 64)).alloc (.cells #[.bool false,.slice none 0 0,.slice (some ⟨w7.heap.size+1+1,0,none⟩) 1 1,.slice none 0 0,.bool false,.slice (some ⟨w7.heap.size+1+1+1+1,0,none⟩) 1 1,.int .i64 1] 60))=W9:=by
  have:=hW9
  unfold plW at this
  rw [hs8] at this
  exact this
 rw [←hW8] at hW9'
 clear g8 hs8 hW9 g9 k9 p9 s9 gA hkA hBA hB2A hBwA hW2A hW8
 go_wp2_with fail
 refine (HS.out _ (Grown.refl _)).mono ?_
 rintro e wB ⟨rfl,gB⟩
 have qB:wB.cell? ⟨g4,o4+1,none⟩=some (.int .i64 119):=cell_below HW.out.2 gB.below (Nat.le_refl _)
 have HF:Hid (Below w.heap.size w wB):=HW.out.1.trans (gB.below.mono HW.out.1.size)
 clear gB HS q1 q2 q3
 go_wp2
 go_ret
 exact ⟨rfl,HF.out⟩
end Go.Proofs
namespace Go.Proofs
open Go.RowKit Go.Shelf
set_option maxRecDepth 100000
attribute [local go_sem] Oper.semAt_some
attribute [local go_sem ↓] Go.wp_at_zero Go.wp_at_succ
theorem fld0 (W:World) (a d:Option Addr) (b c e f:Nat):(Instr.field 101 (.agg #[.slice a b c,.slice d e f]) 0).run Tryz.prog W = .ok (.slice a b c) W:=by kernel_rfl
set_option maxHeartbeats 4000000 in
theorem rrun_any (v:Value) (rs:List Rl) (s:ByteArray) (w:World) (h:PsR w v rs):Calls Tryz.prog 26 #[.agg #[v],.string s] w fun e w'=>e = .returned (.tuple #[.string (runT rs s),.int .i64 (mayE rs s)])∧Below w.heap.size w w':=by
 have HC:Hid (∀ W,Grown w W→Calls Tryz.prog 57 #[.agg #[v],.string s] W fun e w'=>e = .returned (.int .i64 (mayE rs s))∧Below W.heap.size W w'):=fun W hg=>rmay_any v rs s W (h.grown hg)
 have HP:=Hid.mk' h
 obtain ⟨ra,rc,hv,hx1,hx2⟩:=h
 subst hv
 obtain ⟨n,hn⟩:∃ n,rs.length=n:=⟨_,rfl⟩
 rw [hn] at HC HP ⊢
 clear hx1 hx2 hn
 by_cases hE:mayE rs s=0
 · obtain ⟨st,hw,hs,hF,hall,hck,hG⟩:=may_ok hE
   have HGo:Hid (∀ W,Below w.heap.size w W→Calls Tryz.prog 59 #[.agg #[.slice ra n rc],.string s] W fun e w'=>∃ u1 u2 u3 s1 s2 s3,e = .returned (.agg #[.slice u1 u2 u3,.slice s1 s2 s3])∧IR w' (.slice u1 u2 u3) (endOf rs s).2∧Below W.heap.size W w'):=fun W hb=>(rgo_any _ rs st _ s W (HP.out.below hb (Nat.le_refl _)) hw (by omega)).mono (by
    rintro e w' ⟨uv,sv,d,xs,rfl,⟨u1,u2,u3,rfl⟩,⟨s1,s2,s3,rfl⟩,hO,_,_,_,_,h3,hb'⟩
    obtain ⟨_,rfl⟩:=h3.one hG
    exact ⟨u1,u2,u3,s1,s2,s3,rfl,hO.ir,hb'⟩)
   have hlen:=hG.lens hF hck
   have hl0:(intsU (units s)).length≤16384:=by rw [intsU_length];have:=units_len s;omega
   have HTx:Hid (∀ W u,IR W u (endOf rs s).2→Calls Tryz.prog 58 #[u] W fun e w'=>e = .returned (.string (joinS (endOf rs s).2))∧Below W.heap.size W w'):=fun W u hu=>rtext_any u _ W hu (by omega)
   unfold runT
   rw [if_pos hE,hE]
   rw [hE] at HC
   generalize joinS (endOf rs s).2=T at *
   clear hE hw hs hF hall hck hG hlen hl0
   have hf0:=fld0
   go_enter Tryz.func26,Tryz.ntmps26
   go_wp2_with fail
   refine (HC.out _ (by (repeat (first | exact Grown.refl _ | refine Grown.alloc ?_ _ | refine Grown.drew ?_)))).mono ?_
   rintro e w1 ⟨rfl,hB⟩
   have hk1:=(hB.block w.heap.size (by simp)).trans (heap_alloc_new w _)
   have c1:w1.cell? ⟨w.heap.size,0,none⟩=some (.slice ra n rc):=(cell_of hk1).trans rfl
   have HB:Hid (Below w.heap.size w w1):=((Grown.refl w).alloc _).below.trans (hB.mono (by simp))
   clear hB hk1
   go_wp2_with (first
    | (go_at_call 59;refine (HGo.out _ HB.out).mono ?_;rintro e w2 ⟨u1,u2,u3,s1,s2,s3,rfl,hI2,hb2⟩;have H2:=Hid.mk' (And.intro hI2 hb2);clear hI2 hb2)
    | (go_at_call 58;refine (HTx.out _ _ H2.out.1).mono ?_;rintro e w3 ⟨rfl,hb3⟩;have H3:=Hid.mk' hb3;clear hb3))
   go_ret2
   have hb2:Below w.heap.size w w2:=HB.out.trans (H2.out.2.mono HB.out.size)
   exact ⟨rfl,hb2.trans (H3.out.mono hb2.size)⟩
 · unfold runT
   rw [if_neg hE]
   obtain ⟨E,hE2⟩:∃ E,mayE rs s=E:=⟨_,rfl⟩
   rw [hE2] at hE HC ⊢
   have hE3:(E != 0)=true:=by simpa using hE
   clear hE2
   go_enter Tryz.func26,Tryz.ntmps26
   go_wp2_with (go_at_call 57;refine (HC.out _ (by (repeat (first | exact Grown.refl _ | refine Grown.alloc ?_ _ | refine Grown.drew ?_)))).mono ?_;rintro e w1 ⟨rfl,hB⟩;have HB:=Hid.mk' hB;clear hB)
   go_ret2
   exact ⟨rfl,((Grown.refl w).alloc _).below.trans (HB.out.mono (by simp))⟩
end Go.Proofs
namespace Go.Proofs
open Go.RowKit Go.Shelf
set_option maxRecDepth 100000
attribute [local go_sem] Oper.semAt_some
end Go.Proofs
