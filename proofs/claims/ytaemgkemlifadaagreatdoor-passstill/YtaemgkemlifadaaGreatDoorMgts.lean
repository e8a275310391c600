/-
  Several texts in one (Fd Fe Ug2).
-/
import Derived.RangeFuncNested
import Derived.RangeFuncBound
import Derived.RangeFuncCalls
import Derived.RangeFuncLeaves
import Derived.Shelf.Abstract
import Derived.Shelf.RegionOpen
import Derived.WalkKit
import Derived.WalkSpells
import Derived.WalkLawsBesides
import Derived.OwnWalkIn
import Derived.TacticsInMore
import Derived.LoopNIn
import Derived.LoopIn
import Derived.BigQuiet
import Derived.RegionIn
import Derived.Deep.QuietTactic
import Derived.Deep.RegionWith
import Derived.Lib.OthersKept
import Derived.Maps.AppendAt
import Derived.Lib.SmallJoins
import Derived.Shelf.SlSortCmp.QuietGrown
import Derived.Test.YtaemgkemlifadaaGreatDoorMgps
import Derived.Test.YtaemgkemlifadaaGreatDoorXps
import Derived.Test.YtaemgkemlifadaaGreatDoorBqs
import Derived.Lib.AppendStr
import Derived.Test.YtaemgkemlifadaaGreatDoorMgrs
import Derived.Test.YtaemgkemlifadaaGreatDoorMgss
import Derived.Test.YtaemgkemlifadaaGreatDoorMgqs
import Derived.Test.YtaemgkemlifadaaGreatDoorRbs
namespace Go.Proofs
open Go.RowKit Go.Shelf
set_option maxRecDepth 100000
attribute [local go_sem] Oper.semAt_some
attribute [local go_sem ↓] Go.wp_at_zero Go.wp_at_succ
theorem max_len:maxLen=9223372036854775807:=rfl
set_option maxHeartbeats 1000000 in
theorem more_any (n k:Int) (w:World) (hn:0≤n) (hk:0≤k):Calls Tryz.prog 21 #[.int .i64 n,.int .i64 k] w fun e w'=>∃ m,e = .returned (.int .i64 m)∧0≤m∧m≤2147483648∧w'=w:=by
 by_cases h1:2147483647<n
 · go_enter Tryz.func21,Tryz.ntmps21
   go_wp2
   exact bodyPost_ret (v := .int .i64 2147483648) (by simp [results,Tryz.f21,go_sem]) rfl ⟨_,rfl,by decide,by decide,rfl⟩
 · by_cases h2:2147483647 - n<k
   · go_enter Tryz.func21,Tryz.ntmps21
     go_wp2
     exact bodyPost_ret (v := .int .i64 2147483648) (by simp [results,Tryz.f21,go_sem]) rfl ⟨_,rfl,by decide,by decide,rfl⟩
   · have h3:k≤2147483647:=by omega
     go_enter Tryz.func21,Tryz.ntmps21
     go_wp2
     exact bodyPost_ret (v := .int .i64 (n+k)) (by simp [results,Tryz.f21,go_sem]) rfl ⟨_,rfl,by omega,by omega,rfl⟩
set_option maxHeartbeats 2000000 in
theorem setsItems_any (n:Int) (v:Value) (ls:List (List (Int × Int))) (w:World) (h:SR w v ls) (hn:0≤n) (hl:ls.length≤maxLen):Calls Tryz.prog 20 #[.int .i64 n,v] w fun e w'=>∃ m,e = .returned (.int .i64 m)∧0≤m∧m≤2147483648∧w'=w:=by
 obtain ⟨a,c,rfl,_,hr⟩:=h
 have HR:Hid (ls=[]∨∃ g o,a=some ⟨g,o,none⟩∧SRd w g o ls):=hr
 obtain ⟨N,hN⟩:∃ N,ls.length=N:=⟨_,rfl⟩
 have HN:Hid (ls.length=N):=hN
 rw [hN] at hl ⊢
 rw [max_len] at hl
 have hlI:(N:Int)≤9223372036854775807:=by omega
 have hN0:(0:Int)≤(N:Int):=by omega
 have HM:Hid (∀ n k:Int,0≤n→0≤k→Calls Tryz.prog 21 #[.int .i64 n,.int .i64 k] w fun e w'=>∃ m,e = .returned (.int .i64 m)∧0≤m∧m≤2147483648∧w'=w):=fun n k h1 h2=>more_any n k w h1 h2
 clear hN hr
 go_enter Tryz.func20,Tryz.ntmps20
 go_wp2_with fail
 refine (HM.out n N hn hN0).mono ?_
 rintro e w' ⟨m0,rfl,hm0,hm1,hw⟩
 obtain rfl:=hw.symm
 go_wp2
 go_loopw [0,5] (fun vn vi wr=>∃ (k:Nat) (m:Int),vi = .int .i64 k∧vn = .int .i64 m∧k≤N∧0≤m∧m≤2147483648∧wr=w) (fun _ vi _=>N - (intOf vi).toNat)
 case atStart=>exact ⟨0,m0,rfl,rfl,by omega,hm0,hm1,rfl⟩
 case round=>
  obtain ⟨k,m,rfl,rfl,hk,hm,hm',rfl⟩:=hrel
  have hk0:(0:Int)≤(k:Int):=by omega
  by_cases hlt:k<N
  · have hlt':(k:Int)<(N:Int):=by omega
    by_cases hb:m≤2147483647
    · as_aux_lemma=>
       have hkl:k<ls.length:=by rw [HN.out];exact hlt
       obtain ⟨g,o,rfl,hd⟩:=HR.out.resolve_left (fun e=>by rw [e] at hkl;simp at hkl)
       obtain ⟨sv,hs,hsr⟩:=hd k hkl
       obtain ⟨s1,s2,s3,rfl⟩:=hsr.sl
       have hs0:(0:Int)≤(s2:Int):=by omega
       clear hd hsr HR
       go_wp2_with fail
       refine (HM.out m s2 hm hs0).mono ?_
       rintro e w' ⟨m2,rfl,h2,h3,hw⟩
       obtain rfl:=hw.symm
       go_wp2
       exact ⟨⟨k+1,m2,by go_num,rfl,by omega,h2,h3,by first | rfl | trivial⟩,by simp [intOf];omega⟩
    · as_aux_lemma=>
       go_wp2
       exact bodyPost_ret (v := .int .i64 m) (by simp [results,Tryz.f20,go_sem]) rfl ⟨_,rfl,hm,hm',rfl⟩
  · as_aux_lemma=>
     have hge:¬ (k:Int)<(N:Int):=by omega
     go_wp2
     exact bodyPost_ret (v := .int .i64 m) (by simp [results,Tryz.f20,go_sem]) rfl ⟨_,rfl,hm,hm',rfl⟩
theorem pc_at {w:World} {g o:Nat} {ps:List Pc} (h:PRd w g o ps) {j:Nat} (hj:j<ps.length):∃ tv,w.cell? ⟨g,o+j*4,none⟩=some (.int .i64 ps[j].k)∧w.cell? ⟨g,o+j*4+1,none⟩=some (.int .i64 ps[j].u)∧w.cell? ⟨g,o+j*4+2,none⟩=some (.int .i64 ps[j].y)∧w.cell? ⟨g,o+j*4+3,none⟩=some tv∧Rs w tv ps[j].tl:=h j hj
def BeyQ (w:World) (e:Ending) (w':World):Prop:=∃ b:Bool,e = .returned (.bool b)∧Grown w w'
set_option maxHeartbeats 8000000 in
theorem beyond_any (v:Value) (rs:List Rl) (w:World) (h:PsR w v rs) (hl:rs.length≤maxLen) (hz:∀ r∈rs,Go.Proofs.YtaemgkemlifadaaGreatDoor.Lz r):Calls Tryz.prog 7 #[.agg #[v]] w (BeyQ w):=by
 have HP:Hid (∀ W,Grown w W→PsR W v rs):=fun W hW=>h.grown hW
 have HZ:Hid (∀ r∈rs,Go.Proofs.YtaemgkemlifadaaGreatDoor.Lz r):=hz
 obtain ⟨ra,rc,rfl,_,_⟩:=h
 obtain ⟨N,hN⟩:∃ N,rs.length=N:=⟨_,rfl⟩
 have HN:Hid (rs.length=N):=hN
 rw [hN] at hl HP ⊢
 rw [max_len] at hl
 have hlI:(N:Int)≤9223372036854775807:=by omega
 have hN0:(0:Int)≤(N:Int):=by omega
 clear hN hz
 go_enter Tryz.func7,Tryz.ntmps7
 go_wp2
 go_loopw [3,4] (fun vn vi wr=>∃ (k:Nat) (m:Int),vi = .int .i64 k∧vn = .int .i64 m∧k≤N∧0≤m∧m≤9223372036854775807∧Grown (w.alloc (.cells #[.slice ra N rc] 24)) wr) (fun _ vi _=>N - (intOf vi).toNat)
 case atStart=>exact ⟨0,N,rfl,rfl,by omega,by omega,by omega,Grown.refl _⟩
 case round=>
  obtain ⟨k,m,rfl,rfl,hk,hm,hm',hG⟩:=hrel
  have hk0:(0:Int)≤(k:Int):=by omega
  have c0:=hG.cellv (a:=⟨w.heap.size,0,none⟩) (v := .slice ra N rc) (by simp)
  by_cases hlt:k<N
  · have hlt':(k:Int)<(N:Int):=by omega
    by_cases hb:m≤2147483647
    · have hkl:k<rs.length:=by rw [HN.out];exact hlt
      have hG0:Grown w wr:=((Grown.refl w).alloc _).trans hG
      have hLz:=HZ.out _ (List.getElem_mem hkl)
      obtain ⟨a',c',e',_,hPr⟩:=HP.out wr hG0
      obtain ⟨g,o,ha',hRA⟩:=hPr.resolve_left (fun e=>by rw [e] at hkl;simp at hkl)
      injection e' with q1 q2 q3
      clear q2 q3
      rw [ha'] at q1
      subst q1
      obtain ⟨av,kv,pv,rv,r0,r1,r2,r3,r4,r5,r6,hR⟩:=hRA k hkl
      have HRA:Hid (∀ W,Grown wr W→SR W av rs[k].ante∧SR W kv rs[k].key∧SR W pv rs[k].post∧PR W rv rs[k].res):=fun W hW=>⟨hR.a.grown hW,hR.k.grown hW,hR.p.grown hW,hR.r.grown hW⟩
      have HL:Hid (rs[k].ante.length≤maxLen∧rs[k].key.length≤maxLen∧rs[k].post.length≤maxLen∧rs[k].res.length≤maxLen):=⟨hLz.na,hLz.nk,hLz.np,hLz.nr⟩
      obtain ⟨a1,n1,c1,rfl⟩:=hR.a.sl
      obtain ⟨a2,n2,c2,rfl⟩:=hR.k.sl
      obtain ⟨a3,n3,c3,rfl⟩:=hR.p.sl
      obtain ⟨a5,c5,hrv,_,hrr⟩:=hR.r
      subst hrv
      have HRR:Hid (rs[k].res=[]∨∃ g o,a5=some ⟨g,o,none⟩∧PRd wr g o rs[k].res):=hrr
      obtain ⟨n5,hn5⟩:∃ n5,rs[k].res.length=n5:=⟨_,rfl⟩
      have HN5:Hid (rs[k].res.length=n5):=hn5
      rw [hn5] at r5 HRA HL
      have hn5I:(n5:Int)≤9223372036854775807:=by have:=HL.out.2.2.2;rw [max_len] at this;omega
      have hn50:(0:Int)≤(n5:Int):=by omega
      have HG:Hid (Grown (w.alloc (.cells #[.slice (some ⟨g,o,none⟩) N rc] 24)) wr):=hG
      generalize rs[k].bg=xb at *
      generalize rs[k].en=xe at *
      generalize rs[k].cu=xc at *
      obtain ⟨W5,hW5⟩:∃ W5,W5=wr.alloc (.cells #[.bool xb,.slice a1 n1 c1,.slice a2 n2 c2,.slice a3 n3 c3,.bool xe,.slice a5 n5 c5,.int .i64 xc] 53):=⟨_,rfl⟩
      have hG5:Grown wr W5:=by rw [hW5];exact (Grown.refl _).alloc _
      have HS1:Hid (∀ m:Int,0≤m→Calls Tryz.prog 20 #[.int .i64 m,.slice a1 n1 c1] W5 fun e w'=>∃ x,e = .returned (.int .i64 x)∧0≤x∧x≤2147483648∧w'=W5):=fun m h=>setsItems_any m _ _ W5 (HRA.out W5 hG5).1 h HL.out.1
      have HS2:Hid (∀ m:Int,0≤m→Calls Tryz.prog 20 #[.int .i64 m,.slice a2 n2 c2] W5 fun e w'=>∃ x,e = .returned (.int .i64 x)∧0≤x∧x≤2147483648∧w'=W5):=fun m h=>setsItems_any m _ _ W5 (HRA.out W5 hG5).2.1 h HL.out.2.1
      have HS3:Hid (∀ m:Int,0≤m→Calls Tryz.prog 20 #[.int .i64 m,.slice a3 n3 c3] W5 fun e w'=>∃ x,e = .returned (.int .i64 x)∧0≤x∧x≤2147483648∧w'=W5):=fun m h=>setsItems_any m _ _ W5 (HRA.out W5 hG5).2.2.1 h HL.out.2.2.1
      have HM:Hid (∀ n k:Int,0≤n→0≤k→Calls Tryz.prog 21 #[.int .i64 n,.int .i64 k] W5 fun e w'=>∃ m,e = .returned (.int .i64 m)∧0≤m∧m≤2147483648∧w'=W5):=fun n k h1 h2=>more_any n k W5 h1 h2
      have HPR:Hid (rs[k].res=[]∨∃ g o,a5=some ⟨g,o,none⟩∧PRd W5 g o rs[k].res):=HRR.out.imp id fun ⟨g,o,h1,h2⟩=>⟨g,o,h1,h2.grown hG5⟩
      have b5:W5.heap[wr.heap.size]? = some (.cells #[.bool xb,.slice a1 n1 c1,.slice a2 n2 c2,.slice a3 n3 c3,.bool xe,.slice a5 n5 c5,.int .i64 xc] 53 (0,0)):=by rw [hW5];exact heap_alloc_new _ _
      have p1:W5.cell? ⟨wr.heap.size,1,none⟩=some (.slice a1 n1 c1):=by rw [cell_of b5];rfl
      have p2:W5.cell? ⟨wr.heap.size,2,none⟩=some (.slice a2 n2 c2):=by rw [cell_of b5];rfl
      have p3:W5.cell? ⟨wr.heap.size,3,none⟩=some (.slice a3 n3 c3):=by rw [cell_of b5];rfl
      have p5:W5.cell? ⟨wr.heap.size,5,none⟩=some (.slice a5 n5 c5):=by rw [cell_of b5];rfl
      have HG5:Hid (Grown wr W5):=hG5
      clear hR hrr hn5 hRA hPr ha' hG hG5 b5 HRA HRR hLz hG0
      go_wp2_with fail
      rw [←hW5]
      clear hW5 r0 r1 r2 r3 r4 r5 r6 c0
      refine (HS1.out m hm).mono ?_
      rintro e w' ⟨m1,rfl,h10,h11,hw⟩
      obtain rfl:=hw.symm
      go_wp2_with fail
      refine (HS2.out m1 h10).mono ?_
      rintro e w' ⟨m2,rfl,h20,h21,hw⟩
      obtain rfl:=hw.symm
      go_wp2_with fail
      refine (HS3.out m2 h20).mono ?_
      rintro e w' ⟨m3,rfl,h30,h31,hw⟩
      obtain rfl:=hw.symm
      go_wp2_with fail
      refine (HM.out m3 n5 h30 hn50).mono ?_
      rintro e w' ⟨m4,rfl,h40,h41,hw⟩
      obtain rfl:=hw.symm
      obtain ⟨wo,hwo⟩:∃ wo,wo=wr:=⟨_,rfl⟩
      rw [←hwo]
      rw [←hwo] at p1 p2 p3 p5 HG HG5
      clear HS1 HS2 HS3 hwo
      go_wp2
      go_loopw [3,6] (fun vn vj wx=>∃ (j:Nat) (x:Int),vj = .int .i64 j∧vn = .int .i64 x∧j≤n5∧0≤x∧x≤2147483648∧wx=W5) (fun _ vj _=>n5 - (intOf vj).toNat)
      case atStart=>exact ⟨0,m4,rfl,rfl,by omega,h40,h41,rfl⟩
      case round=>
       obtain ⟨j,x,rfl,rfl,hj,hx,hx',hwx⟩:=hrel
       obtain rfl:=hwx.symm
       have hj0:(0:Int)≤(j:Int):=by omega
       have HK:Hid (k+1≤N∧n5 - j ≥ 0):=⟨hlt,by omega⟩
       by_cases hjl:j<n5
       · have hjl':(j:Int)<(n5:Int):=by omega
         by_cases hxb:x≤2147483647
         · as_aux_lemma=>
            have hjr:j<rs[k].res.length:=by rw [HN5.out];exact hjl
            obtain ⟨pg,po,rfl,hd⟩:=HPR.out.resolve_left (fun e=>by rw [e] at hjr;simp at hjr)
            obtain ⟨tv,_,_,_,x3,hrs⟩:=pc_at hd hjr
            obtain ⟨t1,t2,t3,rfl⟩:=hrs.sl
            have ht0:(0:Int)≤(t2:Int):=by omega
            clear hd hrs HPR
            go_wp2_with fail
            refine (HM.out x t2 hx ht0).mono ?_
            rintro e w' ⟨m5,rfl,h50,h51,hw⟩
            obtain rfl:=hw.symm
            go_wp2
            exact ⟨⟨j+1,m5,by go_num,rfl,by omega,h50,h51,by first | rfl | trivial⟩,by simp [intOf];omega⟩
         · as_aux_lemma=>
            go_wp2
            exact ⟨⟨k+1,x,by go_num,rfl,hlt,hx,by omega,HG.out.trans HG5.out⟩,by simp [intOf];omega⟩
       · as_aux_lemma=>
          have hge:¬ (j:Int)<(n5:Int):=by omega
          go_wp2
          exact ⟨⟨k+1,x,by go_num,rfl,hlt,hx,by omega,HG.out.trans HG5.out⟩,by simp [intOf];omega⟩
    · as_aux_lemma=>
       go_wp2
       go_ret
       exact ⟨_,rfl,((Grown.refl w).alloc _).trans hG⟩
  · as_aux_lemma=>
     have hge:¬ (k:Int)<(N:Int):=by omega
     go_wp2
     go_ret
     exact ⟨_,rfl,((Grown.refl w).alloc _).trans hG⟩
theorem headD_get {α:Type} : ∀ (l:List α) (d:α) (h:0<l.length),l.headD d=l[0]
 | _::_,_,_=>rfl
set_option maxHeartbeats 16000000 in
theorem still_law (v:Value) (rs:List Rl) (s:ByteArray) (w:World) (hT:Tab w) (hP:PsR w v rs) (hl:rs.length≤maxLen) (hz:∀ r∈rs,Go.Proofs.YtaemgkemlifadaaGreatDoor.Lz r) :
 Calls Tryz.prog 6 #[.agg #[v],.string s] w fun e w'=>e = .returned (.bool true)∧Below w.heap.size w w':=by
 have HP:Hid (∀ W,Below w.heap.size w W→PsR W v rs):=fun W hb=>hP.below hb (Nat.le_refl _)
 have HB:Hid (∀ W,Grown w W→Calls Tryz.prog 7 #[.agg #[v]] W (BeyQ W)):=fun W hg=>beyond_any v rs W (hP.grown hg) hl hz
 have HSh:Hid (∀ W,Below w.heap.size w W→Calls Tryz.prog 8 #[] W fun e w'=>e = .returned (.bool true)∧Below W.heap.size W w'):=fun W hb=>shown_any W (hT.below hb hT.pos) (Nat.lt_of_lt_of_le hT.pos hb.size)
 have H17:Hid (∀ W,Below w.heap.size w W→Calls Tryz.prog 17 #[.agg #[v]] W fun e w'=>e = .returned (.tuple #[.int .i64 (chkW rs).1,.int .i64 (chkW rs).2])∧Below W.heap.size W w'):=fun W hb=>rchkA v rs W (hP.below hb (Nat.le_refl _))
 have H10:Hid (∀ W u qs x,Below w.heap.size w W→PsR W u qs→Calls Tryz.prog 10 #[.agg #[u],.string x] W fun e w'=>e = .returned (.tuple #[.string (runT qs x),.int .i64 (mayE qs x)])∧Below W.heap.size W w'):=fun W u qs x hb hx=>run_any u qs x W (hT.below hb hT.pos) (Nat.lt_of_lt_of_le hT.pos hb.size) hx
 obtain ⟨va,vc,hv,hx1,hx2⟩:=hP
 clear hx1 hx2
 obtain ⟨n,hn⟩:∃ n,rs.length=n:=⟨_,rfl⟩
 have HN:Hid (rs.length=n):=hn
 rw [hn] at hv hl
 subst hv
 clear hT hn hz
 obtain ⟨W0,hW0⟩:∃ W0,W0=w.alloc (.cells #[.slice va n vc] 24):=⟨_,rfl⟩
 have HG0:Hid (Grown w W0):=by show Grown _ _;rw [hW0];exact (Grown.refl _).alloc _
 have d0:W0.cell? ⟨w.heap.size,0,none⟩=some (.slice va n vc):=by rw [hW0];simp
 have HUP:Hid (∀ V,Below W0.heap.size W0 V→Below w.heap.size w V):=fun V hb=>HG0.out.below.trans (hb.mono HG0.out.size)
 obtain ⟨E2,hE2⟩:∃ E2,(chkW rs).2=E2:=⟨_,rfl⟩
 have HE2:=Hid.mk' hE2
 rw [hE2] at H17
 generalize (chkW rs).1=E1 at *
 clear hE2
 go_enter Tryz.func6,Tryz.ntmps6
 go_wp2_with fail
 rw [←hW0]
 clear hW0
 refine (HB.out W0 HG0.out).mono ?_
 rintro e W1 ⟨bb,rfl,hg1⟩
 have HB1:Hid (Below W0.heap.size W0 W1):=hg1.below
 clear hg1 HB
 cases bb with
 | true=>
  as_aux_lemma=>
   go_wp2
   go_ret
   exact ⟨rfl,HUP.out _ HB1.out⟩
 | false=>
  go_wp2_with fail
  refine (HSh.out W1 (HUP.out _ HB1.out)).mono ?_
  rintro e W2 ⟨rfl,hb2⟩
  have HB2:Hid (Below W0.heap.size W0 W2):=HB1.out.trans (hb2.mono HB1.out.size)
  have d2:=cell_below d0 HB2.out (Nat.le_refl _)
  clear hb2 HB1 HSh
  go_wp2_with fail
  refine (H17.out W2 (HUP.out _ HB2.out)).mono ?_
  rintro e W3 ⟨rfl,hb3⟩
  have HB3:Hid (Below W0.heap.size W0 W3):=HB2.out.trans (hb3.mono HB2.out.size)
  clear hb3 HB2 H17 d2
  by_cases hE:E2=0
  · subst hE
    by_cases hs:16384<s.size
    · as_aux_lemma=>
       have hsI:(16384:Int)<(s.size:Int):=by omega
       go_wp2
       go_ret
       exact ⟨rfl,HUP.out _ HB3.out⟩
    · have hsI:¬ (16384:Int)<(s.size:Int):=by omega
      have hsd:decide ((16384:Int)<(s.size:Int))=false:=by simpa using hsI
      have HMay:Hid (mayE rs s=0):=by
       show _=_
       unfold mayE
       rw [if_neg (by rw [HE2.out];simp),if_neg hs]
      obtain ⟨st,hw,hss,hF,hall,hck,_⟩:=may_ok HMay.out
      have HCk:=Hid.mk' hck
      have hn256:(n:Int)≤256:=by have:=hF.n;have:=HN.out;omega
      have HCu:Hid (∀ W,Calls Tryz.prog 15 #[.string s] W fun e w'=>∃ v,e = .returned v∧IR w' v (intsU (units s))∧Below W.heap.size W w'):=fun W=>rcut_any s W (by omega)
      have HLU:Hid (AllU (intsU (units s))∧(intsU (units s)).length≤16384):=⟨units_all s,by rw [intsU_length];have:=units_len s;omega⟩
      obtain ⟨l0,hl0⟩:∃ l0,intsU (units s)=l0:=⟨_,rfl⟩
      have HL0:=Hid.mk' hl0
      rw [hl0] at HCu HLU
      clear hw hss hF hall hck hl0
      obtain ⟨W4,hW4⟩:∃ W4,W4=W3.alloc (.cells #[] 5):=⟨_,rfl⟩
      obtain ⟨kb,hkb⟩:∃ kb,kb=W3.heap.size:=⟨_,rfl⟩
      have HB4:Hid (Below W0.heap.size W0 W4):=by rw [hW4];exact HB3.out.trans ((((Grown.refl W3).alloc _).below).mono HB3.out.size)
      go_wp2_with fail
      rw [←hW4,←hkb]
      clear hW4 hkb
      refine (HCu.out W4).mono ?_
      rintro e W5 ⟨lv,rfl,hI5,hb5⟩
      have HI5:=Hid.mk' hI5
      obtain ⟨y1,y2,y3,hlv⟩:=hI5.sl
      subst hlv
      have hy2:l0.length=y2:=(ir_len hI5).1
      have HY2:=Hid.mk' hy2
      have HB5:Hid (Below W0.heap.size W0 W5):=HB4.out.trans (hb5.mono HB4.out.size)
      have HZ5:Hid (W0.heap.size≤W5.heap.size):=HB5.out.size
      have hy16:(y2:Int)≤16384:=by have:=HLU.out.2;omega
      have d5:=cell_below d0 HB5.out (Nat.le_refl _)
      have HP5:Hid (∀ V,Below W5.heap.size W5 V→PsR V (.slice va n vc) rs):=fun V hb=>HP.out V (HUP.out V (HB5.out.trans (hb.mono HZ5.out)))
      have H105:Hid (∀ V u qs x,Below W5.heap.size W5 V→PsR V u qs→Calls Tryz.prog 10 #[.agg #[u],.string x] V fun e w'=>e = .returned (.tuple #[.string (runT qs x),.int .i64 (mayE qs x)])∧Below V.heap.size V w'):=fun V u qs x hb hx=>H10.out V u qs x (HUP.out V (HB5.out.trans (hb.mono HZ5.out))) hx
      have HEnd:Hid (∀ V,Below W5.heap.size W5 V→Below w.heap.size w V):=fun V hb=>HUP.out V (HB5.out.trans (hb.mono HZ5.out))
      clear hI5 hb5 HB4 hy2 HCu HB3 HB5 HZ5 HUP HP H10 HG0 d0 HE2
      go_wp2
      go_loopw [7,9,10,11] (fun v7 v9 _ _ wr=>∃ (kv:Value) (i:Nat) (acc:List UInt8),kv=v7∧v9 = .int .i64 i∧i≤y2∧Hid (OwnB0 wr W5.heap.size kv acc∧Below W5.heap.size W5 wr∧∃ K t,Kp rs l0 i acc K t)) (fun _ v9 _ _ _=>y2 - (intOf v9).toNat)
      case atStart=>exact ⟨_,0,[],rfl,rfl,Nat.zero_le _,.inl ⟨_,rfl,rfl⟩,Below.refl _ _,[],[],rfl,by simp [joinB],Nat.le_refl _,fun u hu=>by simp at hu,by simp⟩
      case round=>
       obtain ⟨kv,i,acc,rfl,rfl,hi,HR⟩:=hrel
       by_cases hiy:i=y2
       · subst hiy
         obtain ⟨HO,hbr,K,t,hK⟩:=HR.out
         have HFin:Hid (mayE rs ⟨acc.toArray⟩=0∧runT rs ⟨acc.toArray⟩=⟨acc.toArray⟩):=by
          have hfin:=hK
          rw [←HY2.out,←HL0.out] at hfin
          exact hfin.fin HMay.out
         have HBr:=Hid.mk' hbr
         have HOr:=Hid.mk' HO
         have dr:=cell_below d5 hbr (Nat.le_refl _)
         have HPr:Hid (PsR wr (.slice va n vc) rs):=HP5.out wr hbr
         clear HR hK hbr HO
         have hcv:=HOr.out.conv
         have HQN:Hid (∀ V:World,PsR V (.slice none 0 0) []):=fun V=>⟨none,0,rfl,Nat.le_refl _,.inl rfl⟩
         have HRN:Hid (mayE [] s=0∧runT [] s=s):=runT_none s (by omega)
         clear HMay HL0 HLU HI5 HCk HN HP5
         obtain ⟨sa,hsa⟩:∃ sa:ByteArray,sa=⟨acc.toArray⟩:=⟨_,rfl⟩
         rw [←hsa] at hcv HFin
         have HSA:=Hid.mk' hsa
         clear hsa
         go_wp2_with fail
         refine (H105.out wr _ rs sa HBr.out (HPr.out)).mono ?_
         rintro e W6 ⟨rfl,hb6⟩
         rw [HFin.out.1,HFin.out.2]
         have HB6:Hid (Below W5.heap.size W5 W6):=HBr.out.trans (hb6.mono HBr.out.size)
         have HO6:Hid (OwnB0 W6 W5.heap.size kv acc):=HOr.out.below hb6 (Nat.le_refl _)
         have d6:=cell_below dr hb6 (Nat.le_refl _)
         clear hb6 HOr HBr dr hcv HPr
         go_wp2_with fail
         refine (H105.out W6 _ [] s HB6.out (HQN.out _)).mono ?_
         rintro e W7 ⟨rfl,hb7⟩
         rw [HRN.out.1,HRN.out.2]
         have HB7:Hid (Below W5.heap.size W5 W7):=HB6.out.trans (hb7.mono HB6.out.size)
         have hcv7:=(HO6.out.below hb7 (Nat.le_refl _)).conv
         rw [←HSA.out] at hcv7
         clear hb7 HO6 HB6 d6 HSA
         go_wp2
         go_ret
         exact ⟨rfl,HEnd.out _ HB7.out⟩
       · have hi2:i<y2:=by omega
         have hi2I:(i:Int)<(y2:Int):=by omega
         have hil:i<l0.length:=by rw [HY2.out];exact hi2
         obtain ⟨HO,hbr,K,t,hK⟩:=HR.out
         have hIr:=HI5.out.below hbr (Nat.le_refl _)
         obtain ⟨g1,o1,hy1,hu1⟩:∃ g1 o1,y1=some ⟨g1,o1,none⟩∧wr.cell? ⟨g1,o1+i,none⟩=some (.int .i64 l0[i]):=by
          obtain ⟨a1,c1,e1,_,h3⟩:=hIr
          obtain ⟨g1,o1,h4,h5⟩:=h3.resolve_left (fun e=>by rw [e] at hil;simp at hil)
          injection e1 with e1 _ _
          exact ⟨g1,o1,e1.trans h4,h5 i hil⟩
         subst hy1
         have hwd:wd l0[i]≠0:=HLU.out.1 _ (List.getElem_mem hil)
         have HSk:Hid (∃ K t,Kp rs l0 (i+1) acc K t):=⟨_,_,hK.skip hil hwd⟩
         have HTk:Hid (begB rs l0[i]=false→l0[i]<1114112→∃ K t,Kp rs l0 (i+1) (acc++(put l0[i]).data.toList) K t):=fun h1 h2=>⟨_,_,hK.take hil hwd h1 h2⟩
         have hps:=put_size_le l0[i]
         have hp0:=wd_pos_size l0[i] hwd
         have hacc:acc.length≤65536:=by have:=hK.le;have:=hK.t4;omega
         have HBr:=Hid.mk' hbr
         have HOr:=Hid.mk' HO
         have dr:=cell_below d5 hbr (Nat.le_refl _)
         have HPr:Hid (∀ V,Below wr.heap.size wr V→PsR V (.slice va n vc) rs):=fun V hb=>HP5.out V (HBr.out.trans (hb.mono HBr.out.size))
         clear HR hK hbr HO hIr hwd HP5 d5 H105
         generalize l0[i]=u at *
         go_wp2
         go_loopw [10,11] (fun v10 v11 wq=>∃ k:Nat,v10 = .bool (begB (rs.take k) u)∧v11 = .int .i64 k∧k≤n∧Hid (Grown wr wq)) (fun _ v11 _=>n - (intOf v11).toNat)
         case atStart=>exact ⟨0,rfl,rfl,Nat.zero_le _,Grown.refl _⟩
         case round=>
          obtain ⟨k,rfl,rfl,hk,HG⟩:=hrel
          have dq:=HG.out.cellv dr
          by_cases hkn:k=n
          · subst hkn
            obtain ⟨bg,hbg⟩:∃ bg,begB (rs.take k) u=bg:=⟨_,rfl⟩
            rw [hbg]
            have HBg:Hid (begB rs u=bg):=by
             show _=_
             rw [←hbg,List.take_of_length_le (by rw [HN.out];exact Nat.le_refl _)]
            have hu1q:=HG.out.cellv hu1
            have HOq:Hid (OwnB0 wr W5.heap.size kv acc):=HOr.out.below HG.out.below (Nat.le_refl _)
            have HBq:Hid (Below W5.heap.size W5 wr):=HBr.out.trans (HG.out.below.mono HBr.out.size)
            clear hbg hu1 HG dr HPr
            cases bg with
            | true=>
             as_aux_lemma=>
              go_wp2
              exact ⟨⟨_,i+1,acc,rfl,by go_num,hi2,HOq.out,HBq.out,HSk.out⟩,by simp [intOf];omega⟩
            | false=>
             by_cases hul:u<1114112
             · as_aux_lemma=>
                have HTk2:=Hid.mk' (HTk.out HBg.out hul)
                have hud:decide (u<1114112)=true:=by simpa using hul
                clear HTk HSk hul
                go_wp2_with fail
                refine (rput_any u wr).mono ?_
                rintro e W8 ⟨rfl,hb8⟩
                have HO8:Hid (OwnB0 W8 W5.heap.size kv acc):=HOq.out.below hb8 (Nat.le_refl _)
                have HB8:Hid (Below W5.heap.size W5 W8):=HBq.out.trans (hb8.mono HBq.out.size)
                clear hb8 HOq HBq dq hu1q
                go_wp2_with (at_builtin;go_must (refine push_S0 rfl _ _ rfl W5.heap.size _ acc rfl HO8.out (put u) rfl hp0 (by omega) HB8.out.size ?_);intro v' w9 hO9 hb9)
                exact ⟨⟨_,i+1,acc++(put u).data.toList,rfl,by go_num,hi2,hO9,HB8.out.trans hb9,HTk2.out⟩,by simp [intOf];omega⟩
             · as_aux_lemma=>
                have hud:decide (u<1114112)=false:=by simpa using hul
                go_wp2
                exact ⟨⟨_,i+1,acc,rfl,by go_num,hi2,HOq.out,HBq.out,HSk.out⟩,by simp [intOf];omega⟩
          · have hlt:k<n:=by omega
            have hltI:(k:Int)<(n:Int):=by omega
            have hk0:(0:Int)≤(k:Int):=by omega
            have hkl:k<rs.length:=by rw [HN.out];exact hlt
            obtain ⟨a',c',e',_,hP⟩:=HPr.out wr HG.out.below
            obtain ⟨g,o,ha',hP2⟩:=hP.resolve_left (fun e=>by rw [e] at hkl;simp at hkl)
            injection e' with e1 e2 e3
            clear e2 e3
            rw [ha'] at e1
            subst e1
            obtain ⟨av,kv',pv,rv,q0,q1,q2,q3,q4,q5,q6,hR⟩:=hP2 k hkl
            obtain ⟨ka,kc,hkv,hkc,hS⟩:=hR.k
            have hk1:0<rs[k].key.length:=(chk_ok (HCk.out _ (List.getElem_mem hkl))).k0
            obtain ⟨gk,ok,rfl,hSd⟩:=hS.resolve_left (fun e=>by rw [e] at hk1;simp at hk1)
            obtain ⟨sv,s0,hRs⟩:=hSd 0 hk1
            replace s0:wr.cell? ⟨gk,ok,none⟩=some sv:=s0
            obtain ⟨kn,hkn'⟩:∃ kn,rs[k].key.length=kn:=⟨_,rfl⟩
            have hknI:(0:Int)<(kn:Int):=by omega
            rw [hkn'] at hkv
            subst hkv
            obtain ⟨B0,hB0⟩:∃ B0,begB (rs.take k) u=B0:=⟨_,rfl⟩
            obtain ⟨HS1,hHS1⟩:∃ HS1,hasB rs[k].key[0] u=HS1:=⟨_,rfl⟩
            have HNx:Hid (begB (rs.take (k+1)) u=(B0 || HS1)):=by
             show _=_
             rw [begB_succ rs u hkl,hB0,←hHS1]
             rw [headD_get _ _ hk1]
            have HC:Hid (∀ m os,Calls Tryz.prog 18 #[sv,.int .i64 u] (Go.Sort.grow (wr.drewN m) os) fun e w'=>e = .returned (.bool HS1)∧Grown (Go.Sort.grow (wr.drewN m) os) w'):=fun m os=>by
             have:=rhas_any sv rs[k].key[0] u _ (hRs.grown ((Grown.refl wr).quiet m os))
             rw [←hHS1]
             exact this
            obtain ⟨z1,z2,z3,rfl⟩:=hRs.sl
            rw [hB0]
            have p0:=fun m os=>((Grown.refl wr).quiet m os).cellv dq
            have p1:=fun m os=>((Grown.refl wr).quiet m os).cellv q2
            have p2:=fun m os=>((Grown.refl wr).quiet m os).cellv s0
            have p3:=fun m os=>((Grown.refl wr).quiet m os).cellv (HG.out.cellv hu1)
            have HGW:Hid (∀ m os,Grown _ (Go.Sort.grow (wr.drewN m) os)):=fun m os=>HG.out.quiet m os
            clear hB0 hHS1 hRs s0 hSd hkc hk1 hR q0 q1 q2 q3 q4 q5 q6 hP2 hP ha' hkn' HG dr HPr HCk HSk HTk HOr HBr hu1 HI5 HEnd hp0 hps hacc
            cases B0 with
            | true=>
             as_aux_lemma=>
              go_wp2
              refine wp_region_quiet_grown mixed (by kernel_rfl) ?_
              repeat (go_big_quiet_step (fail))
              refine wpQuiet_nil ?_
              intro _ hw'
              obtain ⟨⟨nq,osq⟩,hw''⟩:=hw'
              subst hw''
              go_wp2
              exact ⟨⟨k+1,by rw [HNx.out];rfl,by go_num,by omega,HGW.out _ _⟩,by simp [intOf];omega⟩
            | false=>
             as_aux_lemma=>
              go_wp2
              refine wp_region_quiet_grown mixed (by kernel_rfl) ?_
              repeat (go_big_quiet_step ((go_at_call 18;exact grown_of (HC.out _ _))))
              refine wpQuiet_nil ?_
              intro _ hw'
              obtain ⟨⟨nq,osq⟩,hw''⟩:=hw'
              subst hw''
              go_wp2
              exact ⟨⟨k+1,by rw [HNx.out];rfl,by go_num,by omega,HGW.out _ _⟩,by simp [intOf];omega⟩
  · as_aux_lemma=>
     have hE3:(E2 != 0)=true:=by simpa using hE
     go_wp2
     go_ret
     exact ⟨rfl,HUP.out _ HB3.out⟩
end Go.Proofs
