/-
  Several texts in one (Fd Fe Ub2).
-/
import Derived.RangeFuncNested
import Derived.RangeFuncBound
import Derived.RangeFuncCalls
import Derived.RangeFuncLeaves
import Derived.Shelf.Abstract
import Derived.Shelf.RegionOpen
import Derived.WalkKit
import Derived.WalkSpells
import Derived.WalkLawsBesides
import Derived.OwnWalkIn
import Derived.TacticsInMore
import Derived.LoopNIn
import Derived.LoopIn
import Derived.BigQuiet
import Derived.RegionIn
import Derived.Deep.QuietTactic
import Derived.Deep.RegionWith
import Derived.Lib.OthersKept
import Derived.Maps.AppendAt
import Derived.Lib.SmallJoins
import Derived.Shelf.SlSortCmp.QuietGrown
import Derived.Test.YtaemgkemlifadaaGreatDoorMgnr
import Derived.Test.YtaemgkemlifadaaGreatDoorXpr
import Derived.Test.YtaemgkemlifadaaGreatDoorBqr
import Derived.Test.YtaemgkemlifadaaGreatDoorMgrr
import Derived.Test.YtaemgkemlifadaaGreatDoorMgir
import Derived.Test.YtaemgkemlifadaaGreatDoorOer
namespace Go.Proofs
open Go.RowKit Go.Shelf
set_option maxRecDepth 100000
attribute [local go_sem] Oper.semAt_some
attribute [local go_sem ↓] Go.wp_at_zero Go.wp_at_succ
theorem max_len:maxLen=9223372036854775807:=rfl
set_option maxHeartbeats 1000000 in
theorem more_any (n k:Int) (w:World) (hn:0≤n) (hk:0≤k):Calls Tryz.prog 21 #[.int .i64 n,.int .i64 k] w fun e w'=>∃ m,e = .returned (.int .i64 m)∧0≤m∧m≤2147483648∧w'=w:=by
 by_cases h1:2147483647<n
 · go_enter Tryz.func21,Tryz.ntmps21
   go_wp2
   exact bodyPost_ret (v := .int .i64 2147483648) (by simp [results,Tryz.f21,go_sem]) rfl ⟨_,rfl,by decide,by decide,rfl⟩
 · by_cases h2:2147483647 - n<k
   · go_enter Tryz.func21,Tryz.ntmps21
     go_wp2
     exact bodyPost_ret (v := .int .i64 2147483648) (by simp [results,Tryz.f21,go_sem]) rfl ⟨_,rfl,by decide,by decide,rfl⟩
   · have h3:k≤2147483647:=by omega
     go_enter Tryz.func21,Tryz.ntmps21
     go_wp2
     exact bodyPost_ret (v := .int .i64 (n+k)) (by simp [results,Tryz.f21,go_sem]) rfl ⟨_,rfl,by omega,by omega,rfl⟩
set_option maxHeartbeats 2000000 in
theorem setsItems_any (n:Int) (v:Value) (ls:List (List (Int × Int))) (w:World) (h:SR w v ls) (hn:0≤n) (hl:ls.length≤maxLen):Calls Tryz.prog 20 #[.int .i64 n,v] w fun e w'=>∃ m,e = .returned (.int .i64 m)∧0≤m∧m≤2147483648∧w'=w:=by
 obtain ⟨a,c,rfl,_,hr⟩:=h
 have HR:Hid (ls=[]∨∃ g o,a=some ⟨g,o,none⟩∧SRd w g o ls):=hr
 obtain ⟨N,hN⟩:∃ N,ls.length=N:=⟨_,rfl⟩
 have HN:Hid (ls.length=N):=hN
 rw [hN] at hl ⊢
 rw [max_len] at hl
 have hlI:(N:Int)≤9223372036854775807:=by omega
 have hN0:(0:Int)≤(N:Int):=by omega
 have HM:Hid (∀ n k:Int,0≤n→0≤k→Calls Tryz.prog 21 #[.int .i64 n,.int .i64 k] w fun e w'=>∃ m,e = .returned (.int .i64 m)∧0≤m∧m≤2147483648∧w'=w):=fun n k h1 h2=>more_any n k w h1 h2
 clear hN hr
 go_enter Tryz.func20,Tryz.ntmps20
 go_wp2_with fail
 refine (HM.out n N hn hN0).mono ?_
 rintro e w' ⟨m0,rfl,hm0,hm1,hw⟩
 obtain rfl:=hw.symm
 go_wp2
 go_loopw [0,5] (fun vn vi wr=>∃ (k:Nat) (m:Int),vi = .int .i64 k∧vn = .int .i64 m∧k≤N∧0≤m∧m≤2147483648∧wr=w) (fun _ vi _=>N - (intOf vi).toNat)
 case atStart=>exact ⟨0,m0,rfl,rfl,by omega,hm0,hm1,rfl⟩
 case round=>
  obtain ⟨k,m,rfl,rfl,hk,hm,hm',rfl⟩:=hrel
  have hk0:(0:Int)≤(k:Int):=by omega
  by_cases hlt:k<N
  · have hlt':(k:Int)<(N:Int):=by omega
    by_cases hb:m≤2147483647
    · as_aux_lemma=>
       have hkl:k<ls.length:=by rw [HN.out];exact hlt
       obtain ⟨g,o,rfl,hd⟩:=HR.out.resolve_left (fun e=>by rw [e] at hkl;simp at hkl)
       obtain ⟨sv,hs,hsr⟩:=hd k hkl
       obtain ⟨s1,s2,s3,rfl⟩:=hsr.sl
       have hs0:(0:Int)≤(s2:Int):=by omega
       clear hd hsr HR
       go_wp2_with fail
       refine (HM.out m s2 hm hs0).mono ?_
       rintro e w' ⟨m2,rfl,h2,h3,hw⟩
       obtain rfl:=hw.symm
       go_wp2
       exact ⟨⟨k+1,m2,by go_num,rfl,by omega,h2,h3,by first | rfl | trivial⟩,by simp [intOf];omega⟩
    · as_aux_lemma=>
       go_wp2
       exact bodyPost_ret (v := .int .i64 m) (by simp [results,Tryz.f20,go_sem]) rfl ⟨_,rfl,hm,hm',rfl⟩
  · as_aux_lemma=>
     have hge:¬ (k:Int)<(N:Int):=by omega
     go_wp2
     exact bodyPost_ret (v := .int .i64 m) (by simp [results,Tryz.f20,go_sem]) rfl ⟨_,rfl,hm,hm',rfl⟩
theorem pc_at {w:World} {g o:Nat} {ps:List Pc} (h:PRd w g o ps) {j:Nat} (hj:j<ps.length):∃ tv,w.cell? ⟨g,o+j*4,none⟩=some (.int .i64 ps[j].k)∧w.cell? ⟨g,o+j*4+1,none⟩=some (.int .i64 ps[j].u)∧w.cell? ⟨g,o+j*4+2,none⟩=some (.int .i64 ps[j].y)∧w.cell? ⟨g,o+j*4+3,none⟩=some tv∧Rs w tv ps[j].tl:=h j hj
def BeyQ (w:World) (e:Ending) (w':World):Prop:=∃ b:Bool,e = .returned (.bool b)∧Grown w w'
set_option maxHeartbeats 8000000 in
theorem beyond_any (v:Value) (rs:List Rl) (w:World) (h:PsR w v rs) (hl:rs.length≤maxLen) (hz:∀ r∈rs,Go.Proofs.YtaemgkemlifadaaGreatDoor.Lz r):Calls Tryz.prog 7 #[.agg #[v]] w (BeyQ w):=by
 have HP:Hid (∀ W,Grown w W→PsR W v rs):=fun W hW=>h.grown hW
 have HZ:Hid (∀ r∈rs,Go.Proofs.YtaemgkemlifadaaGreatDoor.Lz r):=hz
 obtain ⟨ra,rc,rfl,_,_⟩:=h
 obtain ⟨N,hN⟩:∃ N,rs.length=N:=⟨_,rfl⟩
 have HN:Hid (rs.length=N):=hN
 rw [hN] at hl HP ⊢
 rw [max_len] at hl
 have hlI:(N:Int)≤9223372036854775807:=by omega
 have hN0:(0:Int)≤(N:Int):=by omega
 clear hN hz
 go_enter Tryz.func7,Tryz.ntmps7
 go_wp2
 go_loopw [3,4] (fun vn vi wr=>∃ (k:Nat) (m:Int),vi = .int .i64 k∧vn = .int .i64 m∧k≤N∧0≤m∧m≤9223372036854775807∧Grown (w.alloc (.cells #[.slice ra N rc] 24)) wr) (fun _ vi _=>N - (intOf vi).toNat)
 case atStart=>exact ⟨0,N,rfl,rfl,by omega,by omega,by omega,Grown.refl _⟩
 case round=>
  obtain ⟨k,m,rfl,rfl,hk,hm,hm',hG⟩:=hrel
  have hk0:(0:Int)≤(k:Int):=by omega
  have c0:=hG.cellv (a:=⟨w.heap.size,0,none⟩) (v := .slice ra N rc) (by simp)
  by_cases hlt:k<N
  · have hlt':(k:Int)<(N:Int):=by omega
    by_cases hb:m≤2147483647
    · have hkl:k<rs.length:=by rw [HN.out];exact hlt
      have hG0:Grown w wr:=((Grown.refl w).alloc _).trans hG
      have hLz:=HZ.out _ (List.getElem_mem hkl)
      obtain ⟨a',c',e',_,hPr⟩:=HP.out wr hG0
      obtain ⟨g,o,ha',hRA⟩:=hPr.resolve_left (fun e=>by rw [e] at hkl;simp at hkl)
      injection e' with q1 q2 q3
      clear q2 q3
      rw [ha'] at q1
      subst q1
      obtain ⟨av,kv,pv,rv,r0,r1,r2,r3,r4,r5,r6,hR⟩:=hRA k hkl
      have HRA:Hid (∀ W,Grown wr W→SR W av rs[k].ante∧SR W kv rs[k].key∧SR W pv rs[k].post∧PR W rv rs[k].res):=fun W hW=>⟨hR.a.grown hW,hR.k.grown hW,hR.p.grown hW,hR.r.grown hW⟩
      have HL:Hid (rs[k].ante.length≤maxLen∧rs[k].key.length≤maxLen∧rs[k].post.length≤maxLen∧rs[k].res.length≤maxLen):=⟨hLz.na,hLz.nk,hLz.np,hLz.nr⟩
      obtain ⟨a1,n1,c1,rfl⟩:=hR.a.sl
      obtain ⟨a2,n2,c2,rfl⟩:=hR.k.sl
      obtain ⟨a3,n3,c3,rfl⟩:=hR.p.sl
      obtain ⟨a5,c5,hrv,_,hrr⟩:=hR.r
      subst hrv
      have HRR:Hid (rs[k].res=[]∨∃ g o,a5=some ⟨g,o,none⟩∧PRd wr g o rs[k].res):=hrr
      obtain ⟨n5,hn5⟩:∃ n5,rs[k].res.length=n5:=⟨_,rfl⟩
      have HN5:Hid (rs[k].res.length=n5):=hn5
      rw [hn5] at r5 HRA HL
      have hn5I:(n5:Int)≤9223372036854775807:=by have:=HL.out.2.2.2;rw [max_len] at this;omega
      have hn50:(0:Int)≤(n5:Int):=by omega
      have HG:Hid (Grown (w.alloc (.cells #[.slice (some ⟨g,o,none⟩) N rc] 24)) wr):=hG
      generalize rs[k].bg=xb at *
      generalize rs[k].en=xe at *
      generalize rs[k].cu=xc at *
      obtain ⟨W5,hW5⟩:∃ W5,W5=wr.alloc (.cells #[.bool xb,.slice a1 n1 c1,.slice a2 n2 c2,.slice a3 n3 c3,.bool xe,.slice a5 n5 c5,.int .i64 xc] 53):=⟨_,rfl⟩
      have hG5:Grown wr W5:=by rw [hW5];exact (Grown.refl _).alloc _
      have HS1:Hid (∀ m:Int,0≤m→Calls Tryz.prog 20 #[.int .i64 m,.slice a1 n1 c1] W5 fun e w'=>∃ x,e = .returned (.int .i64 x)∧0≤x∧x≤2147483648∧w'=W5):=fun m h=>setsItems_any m _ _ W5 (HRA.out W5 hG5).1 h HL.out.1
      have HS2:Hid (∀ m:Int,0≤m→Calls Tryz.prog 20 #[.int .i64 m,.slice a2 n2 c2] W5 fun e w'=>∃ x,e = .returned (.int .i64 x)∧0≤x∧x≤2147483648∧w'=W5):=fun m h=>setsItems_any m _ _ W5 (HRA.out W5 hG5).2.1 h HL.out.2.1
      have HS3:Hid (∀ m:Int,0≤m→Calls Tryz.prog 20 #[.int .i64 m,.slice a3 n3 c3] W5 fun e w'=>∃ x,e = .returned (.int .i64 x)∧0≤x∧x≤2147483648∧w'=W5):=fun m h=>setsItems_any m _ _ W5 (HRA.out W5 hG5).2.2.1 h HL.out.2.2.1
      have HM:Hid (∀ n k:Int,0≤n→0≤k→Calls Tryz.prog 21 #[.int .i64 n,.int .i64 k] W5 fun e w'=>∃ m,e = .returned (.int .i64 m)∧0≤m∧m≤2147483648∧w'=W5):=fun n k h1 h2=>more_any n k W5 h1 h2
      have HPR:Hid (rs[k].res=[]∨∃ g o,a5=some ⟨g,o,none⟩∧PRd W5 g o rs[k].res):=HRR.out.imp id fun ⟨g,o,h1,h2⟩=>⟨g,o,h1,h2.grown hG5⟩
      have b5:W5.heap[wr.heap.size]? = some (.cells #[.bool xb,.slice a1 n1 c1,.slice a2 n2 c2,.slice a3 n3 c3,.bool xe,.slice a5 n5 c5,.int .i64 xc] 53 (0,0)):=by rw [hW5];exact heap_alloc_new _ _
      have p1:W5.cell? ⟨wr.heap.size,1,none⟩=some (.slice a1 n1 c1):=by rw [cell_of b5];rfl
      have p2:W5.cell? ⟨wr.heap.size,2,none⟩=some (.slice a2 n2 c2):=by rw [cell_of b5];rfl
      have p3:W5.cell? ⟨wr.heap.size,3,none⟩=some (.slice a3 n3 c3):=by rw [cell_of b5];rfl
      have p5:W5.cell? ⟨wr.heap.size,5,none⟩=some (.slice a5 n5 c5):=by rw [cell_of b5];rfl
      have HG5:Hid (Grown wr W5):=hG5
      clear hR hrr hn5 hRA hPr ha' hG hG5 b5 HRA HRR hLz hG0
      go_wp2_with fail
      rw [←hW5]
      clear hW5 r0 r1 r2 r3 r4 r5 r6 c0
      refine (HS1.out m hm).mono ?_
      rintro e w' ⟨m1,rfl,h10,h11,hw⟩
      obtain rfl:=hw.symm
      go_wp2_with fail
      refine (HS2.out m1 h10).mono ?_
      rintro e w' ⟨m2,rfl,h20,h21,hw⟩
      obtain rfl:=hw.symm
      go_wp2_with fail
      refine (HS3.out m2 h20).mono ?_
      rintro e w' ⟨m3,rfl,h30,h31,hw⟩
      obtain rfl:=hw.symm
      go_wp2_with fail
      refine (HM.out m3 n5 h30 hn50).mono ?_
      rintro e w' ⟨m4,rfl,h40,h41,hw⟩
      obtain rfl:=hw.symm
      obtain ⟨wo,hwo⟩:∃ wo,wo=wr:=⟨_,rfl⟩
      rw [←hwo]
      rw [←hwo] at p1 p2 p3 p5 HG HG5
      clear HS1 HS2 HS3 hwo
      go_wp2
      go_loopw [3,6] (fun vn vj wx=>∃ (j:Nat) (x:Int),vj = .int .i64 j∧vn = .int .i64 x∧j≤n5∧0≤x∧x≤2147483648∧wx=W5) (fun _ vj _=>n5 - (intOf vj).toNat)
      case atStart=>exact ⟨0,m4,rfl,rfl,by omega,h40,h41,rfl⟩
      case round=>
       obtain ⟨j,x,rfl,rfl,hj,hx,hx',hwx⟩:=hrel
       obtain rfl:=hwx.symm
       have hj0:(0:Int)≤(j:Int):=by omega
       have HK:Hid (k+1≤N∧n5 - j ≥ 0):=⟨hlt,by omega⟩
       by_cases hjl:j<n5
       · have hjl':(j:Int)<(n5:Int):=by omega
         by_cases hxb:x≤2147483647
         · as_aux_lemma=>
            have hjr:j<rs[k].res.length:=by rw [HN5.out];exact hjl
            obtain ⟨pg,po,rfl,hd⟩:=HPR.out.resolve_left (fun e=>by rw [e] at hjr;simp at hjr)
            obtain ⟨tv,_,_,_,x3,hrs⟩:=pc_at hd hjr
            obtain ⟨t1,t2,t3,rfl⟩:=hrs.sl
            have ht0:(0:Int)≤(t2:Int):=by omega
            clear hd hrs HPR
            go_wp2_with fail
            refine (HM.out x t2 hx ht0).mono ?_
            rintro e w' ⟨m5,rfl,h50,h51,hw⟩
            obtain rfl:=hw.symm
            go_wp2
            exact ⟨⟨j+1,m5,by go_num,rfl,by omega,h50,h51,by first | rfl | trivial⟩,by simp [intOf];omega⟩
         · as_aux_lemma=>
            go_wp2
            exact ⟨⟨k+1,x,by go_num,rfl,hlt,hx,by omega,HG.out.trans HG5.out⟩,by simp [intOf];omega⟩
       · as_aux_lemma=>
          have hge:¬ (j:Int)<(n5:Int):=by omega
          go_wp2
          exact ⟨⟨k+1,x,by go_num,rfl,hlt,hx,by omega,HG.out.trans HG5.out⟩,by simp [intOf];omega⟩
    · as_aux_lemma=>
       go_wp2
       go_ret
       exact ⟨_,rfl,((Grown.refl w).alloc _).trans hG⟩
  · as_aux_lemma=>
     have hge:¬ (k:Int)<(N:Int):=by omega
     go_wp2
     go_ret
     exact ⟨_,rfl,((Grown.refl w).alloc _).trans hG⟩
set_option maxHeartbeats 16000000 in
theorem runs_law (v:Value) (rs:List Rl) (s t:ByteArray) (w:World) (hT:Tab w) (hP:PsR w v rs) (hl:rs.length≤1048576) (hz:∀ r∈rs,Go.Proofs.YtaemgkemlifadaaGreatDoor.Small r 1048576) :
 Calls Tryz.prog 3 #[.agg #[v],.string s,.string t] w fun e w'=>e = .returned (.bool true)∧Below w.heap.size w w':=by
 have HP:Hid (∀ W,Below w.heap.size w W→PsR W v rs):=fun W hb=>hP.below hb (Nat.le_refl _)
 have HB:Hid (∀ W,Grown w W→Calls Tryz.prog 7 #[.agg #[v]] W (BeyQ W)):=fun W hg=>beyond_any v rs W (hP.grown hg) (by unfold maxLen;omega) (fun r hr=>⟨by have:=(hz r hr).na;unfold maxLen;omega,by have:=(hz r hr).nk;unfold maxLen;omega,by have:=(hz r hr).np;unfold maxLen;omega,by have:=(hz r hr).nr;unfold maxLen;omega⟩)
 have HSh:Hid (∀ W,Below w.heap.size w W→Calls Tryz.prog 8 #[] W fun e w'=>e = .returned (.bool true)∧Below W.heap.size W w'):=fun W hb=>shown_any W (hT.below hb hT.pos) (Nat.lt_of_lt_of_le hT.pos hb.size)
 have H11:Hid (∀ W x,Below w.heap.size w W→Calls Tryz.prog 11 #[.agg #[v],.string x] W fun e w'=>e = .returned (.tuple #[.string (runT rs x),.int .i64 (mayE rs x)])∧Below W.heap.size W w'):=fun W x hb=>rrun_any v rs x W (hP.below hb (Nat.le_refl _))
 have H12:=Hid.mk' (fun W (hb:Below w.heap.size w W)=>lend_any v rs W (hP.below hb (Nat.le_refl _)) hl hz)
 have H10:Hid (∀ W u x,Below w.heap.size w W→PsR W u rs→Calls Tryz.prog 10 #[.agg #[u],.string x] W fun e w'=>e = .returned (.tuple #[.string (runT rs x),.int .i64 (mayE rs x)])∧Below W.heap.size W w'):=fun W u x hb hx=>run_any u rs x W (hT.below hb hT.pos) (Nat.lt_of_lt_of_le hT.pos hb.size) hx
 have HZ:=Hid.mk' hz
 obtain ⟨va,vc,hv,hx1,hx2⟩:=hP
 clear hx1 hx2
 obtain ⟨n,hn⟩:∃ n,rs.length=n:=⟨_,rfl⟩
 have HN:Hid (rs.length=n):=hn
 rw [hn] at hv hl H12
 subst hv
 clear hT hn hz
 obtain ⟨W0,hW0⟩:∃ W0,W0=w.alloc (.cells #[.slice va n vc] 24):=⟨_,rfl⟩
 have HG0:Hid (Grown w W0):=by show Grown _ _;rw [hW0];exact (Grown.refl _).alloc _
 have d0:W0.cell? ⟨w.heap.size,0,none⟩=some (.slice va n vc):=by rw [hW0];simp
 have HUP:Hid (∀ V,Below W0.heap.size W0 V→Below w.heap.size w V):=fun V hb=>HG0.out.below.trans (hb.mono HG0.out.size)
 go_enter Tryz.func3,Tryz.ntmps3
 go_wp2_with fail
 rw [←hW0]
 clear hW0
 refine (HB.out W0 HG0.out).mono ?_
 rintro e W1 ⟨bb,rfl,hg1⟩
 have HB1:Hid (Below W0.heap.size W0 W1):=hg1.below
 clear hg1 HB
 cases bb with
 | true=>
  as_aux_lemma=>
   go_wp2
   go_ret
   exact ⟨rfl,HUP.out _ HB1.out⟩
 | false=>
  go_wp2_with fail
  refine (HSh.out W1 (HUP.out _ HB1.out)).mono ?_
  rintro e W2 ⟨rfl,hb2⟩
  have HB2:Hid (Below W0.heap.size W0 W2):=HB1.out.trans (hb2.mono HB1.out.size)
  clear hb2 HB1 HSh
  go_wp2
  go_loopw [7,8,9,10,11,12,13] (fun vi _ _ _ _ _ _ wr=>∃ i:Nat,vi = .int .i64 i∧i≤3∧Hid (Below W0.heap.size W0 wr)) (fun vi _ _ _ _ _ _ _=>3 - (intOf vi).toNat)
  case atStart=>exact ⟨0,rfl,by omega,HB2⟩
  case round=>
   obtain ⟨i,rfl,hi,HBr⟩:=hrel
   have hi0:(0:Int)≤(i:Int):=by omega
   have dr:=cell_below d0 HBr.out (Nat.le_refl _)
   by_cases hlt:i<3
   · have hltI:(i:Int)<3:=by omega
     by_cases h1:i=1
     · subst h1
       go_wp2_with fail
       refine (H12.out wr (HUP.out _ HBr.out)).mono ?_
       rintro e w1 ⟨base,xb,rv,sv,gv,cv,G,S,C,R,rg,c,hbs,rfl,hrv,hLX,hRm,hb1⟩
       subst hrv
       have hRl:R.length=n:=by rw [←HN.out,←hRm];simp
       have HLX:=Hid.mk' hLX
       have HRM:Hid (R.map LRu.rl=rs∧R.length=n):=⟨hRm,hRl⟩
       have HPS:Hid (∀ V,Below w1.heap.size w1 V→PsR V (.slice (some ⟨rg,0,none⟩) n c) rs):=fun V hb=>by
        have hL:=hLX.below hb (Nat.le_refl _)
        have:=LX.psr (w:=V) (base:=base) (xb:=xb) (R:=R) (by rw [hRl];exact hL) (g:=rg) (c:=c) (by rw [hRl])
        rw [hRl,hRm] at this
        exact this
       have HB1:Hid (Below W0.heap.size W0 w1):=HBr.out.trans (hb1.mono HBr.out.size)
       have HBS:Hid (W0.heap.size≤base):=by have:=HBr.out.size;show _≤_;omega
       have x1:w1.cell? ⟨xb,0,none⟩=some (.slice (some ⟨rg,0,none⟩) n c):=by rw [cell_of hLX.x];rfl
       clear hLX hRm hb1 hRl hbs
       go_wp2_with fail
       refine (H10.out w1 _ t (HUP.out _ HB1.out) (HPS.out w1 (Below.refl _ _))).mono ?_
       rintro e w2 ⟨rfl,hb2⟩
       have HB2:Hid (Below w1.heap.size w1 w2):=hb2
       have HB02:Hid (Below W0.heap.size W0 w2):=HB1.out.trans (HB2.out.mono HB1.out.size)
       have d2:=cell_below d0 HB02.out (Nat.le_refl _)
       clear hb2
       go_wp2_with fail
       refine (H11.out w2 t (HUP.out _ HB02.out)).mono ?_
       rintro e w4 ⟨rfl,hb4⟩
       have HB4:Hid (Below w1.heap.size w1 w4):=HB2.out.trans (hb4.mono HB2.out.size)
       have HB04:Hid (Below W0.heap.size W0 w4):=HB1.out.trans (HB4.out.mono HB1.out.size)
       have d4:=cell_below d0 HB04.out (Nat.le_refl _)
       clear hb4
       generalize runT rs t=T
       generalize mayE rs t=E
       go_wp2_with fail
       refine (still_lx (HLX.out.below HB4.out (Nat.le_refl _)) rfl HRM.out.1 HN.out _ (HP.out w4 (HUP.out _ HB04.out)) hl HZ.out).mono ?_
       rintro e w5 ⟨rfl,hb5⟩
       have HB5':Hid (Below W0.heap.size W0 w5):=HB04.out.trans (hb5.mono HBS.out)
       clear hb5
       go_wp2
       exact ⟨⟨1+1,by go_num,by omega,HB5'⟩,by simp [intOf]⟩
     · have h1I:((i:Int) == 1)=false:=by simp;omega
       go_wp2_with fail
       refine (H12.out wr (HUP.out _ HBr.out)).mono ?_
       rintro e w1 ⟨base,xb,rv,sv,gv,cv,G,S,C,R,rg,c,hbs,rfl,hrv,hLX,hRm,hb1⟩
       subst hrv
       have hRl:R.length=n:=by rw [←HN.out,←hRm];simp
       have HLX:=Hid.mk' hLX
       have HRM:Hid (R.map LRu.rl=rs∧R.length=n):=⟨hRm,hRl⟩
       have HPS:Hid (∀ V,Below w1.heap.size w1 V→PsR V (.slice (some ⟨rg,0,none⟩) n c) rs):=fun V hb=>by
        have hL:=hLX.below hb (Nat.le_refl _)
        have:=LX.psr (w:=V) (base:=base) (xb:=xb) (R:=R) (by rw [hRl];exact hL) (g:=rg) (c:=c) (by rw [hRl])
        rw [hRl,hRm] at this
        exact this
       have HB1:Hid (Below W0.heap.size W0 w1):=HBr.out.trans (hb1.mono HBr.out.size)
       have HBS:Hid (W0.heap.size≤base):=by have:=HBr.out.size;show _≤_;omega
       have x1:w1.cell? ⟨xb,0,none⟩=some (.slice (some ⟨rg,0,none⟩) n c):=by rw [cell_of hLX.x];rfl
       clear hLX hRm hb1 hRl hbs
       go_wp2_with fail
       refine (H10.out w1 _ s (HUP.out _ HB1.out) (HPS.out w1 (Below.refl _ _))).mono ?_
       rintro e w2 ⟨rfl,hb2⟩
       have HB2:Hid (Below w1.heap.size w1 w2):=hb2
       have HB02:Hid (Below W0.heap.size W0 w2):=HB1.out.trans (HB2.out.mono HB1.out.size)
       have d2:=cell_below d0 HB02.out (Nat.le_refl _)
       clear hb2
       go_wp2_with fail
       refine (H11.out w2 s (HUP.out _ HB02.out)).mono ?_
       rintro e w4 ⟨rfl,hb4⟩
       have HB4:Hid (Below w1.heap.size w1 w4):=HB2.out.trans (hb4.mono HB2.out.size)
       have HB04:Hid (Below W0.heap.size W0 w4):=HB1.out.trans (HB4.out.mono HB1.out.size)
       have d4:=cell_below d0 HB04.out (Nat.le_refl _)
       clear hb4
       generalize runT rs s=T
       generalize mayE rs s=E
       go_wp2_with fail
       refine (still_lx (HLX.out.below HB4.out (Nat.le_refl _)) rfl HRM.out.1 HN.out _ (HP.out w4 (HUP.out _ HB04.out)) hl HZ.out).mono ?_
       rintro e w5 ⟨rfl,hb5⟩
       have HB5':Hid (Below W0.heap.size W0 w5):=HB04.out.trans (hb5.mono HBS.out)
       clear hb5
       go_wp2
       exact ⟨⟨i+1,by go_num,by omega,HB5'⟩,by simp [intOf];omega⟩
   · have hge:¬ (i:Int)<3:=by omega
     go_wp2
     go_ret
     exact ⟨rfl,HUP.out _ HBr.out⟩
end Go.Proofs
