/-
  Several texts in one (Fd Fe Up2).
-/
import Derived.Test.YtaemgkemlifadaaGreatDoorMgos
import Derived.Test.YtaemgkemlifadaaGreatDoorXps
import Derived.Test.YtaemgkemlifadaaGreatDoorBqs
import Derived.Laws.EntriesVeiled
import Derived.Test.YtaemgkemlifadaaGreatDoorMgss
namespace Go.Proofs
open Go.RowKit Go.Shelf
set_option maxRecDepth 100000
attribute [local go_sem] Oper.semAt_some
attribute [local go_sem ↓] Go.wp_at_zero Go.wp_at_succ
theorem max_len:maxLen=9223372036854775807:=rfl
set_option maxHeartbeats 1000000 in
theorem more_any (n k:Int) (w:World) (hn:0≤n) (hk:0≤k):Calls Tryz.prog 21 #[.int .i64 n,.int .i64 k] w fun e w'=>∃ m,e = .returned (.int .i64 m)∧0≤m∧m≤2147483648∧w'=w:=by
 by_cases h1:2147483647<n
 · go_enter Tryz.func21,Tryz.ntmps21
   go_wp2
   exact bodyPost_ret (v := .int .i64 2147483648) (by simp [results,Tryz.f21,go_sem]) rfl ⟨_,rfl,by decide,by decide,rfl⟩
 · by_cases h2:2147483647 - n<k
   · go_enter Tryz.func21,Tryz.ntmps21
     go_wp2
     exact bodyPost_ret (v := .int .i64 2147483648) (by simp [results,Tryz.f21,go_sem]) rfl ⟨_,rfl,by decide,by decide,rfl⟩
   · have h3:k≤2147483647:=by omega
     go_enter Tryz.func21,Tryz.ntmps21
     go_wp2
     exact bodyPost_ret (v := .int .i64 (n+k)) (by simp [results,Tryz.f21,go_sem]) rfl ⟨_,rfl,by omega,by omega,rfl⟩
set_option maxHeartbeats 2000000 in
theorem setsItems_any (n:Int) (v:Value) (ls:List (List (Int × Int))) (w:World) (h:SR w v ls) (hn:0≤n) (hl:ls.length≤maxLen):Calls Tryz.prog 20 #[.int .i64 n,v] w fun e w'=>∃ m,e = .returned (.int .i64 m)∧0≤m∧m≤2147483648∧w'=w:=by
 obtain ⟨a,c,rfl,_,hr⟩:=h
 have HR:Hid (ls=[]∨∃ g o,a=some ⟨g,o,none⟩∧SRd w g o ls):=hr
 obtain ⟨N,hN⟩:∃ N,ls.length=N:=⟨_,rfl⟩
 have HN:Hid (ls.length=N):=hN
 rw [hN] at hl ⊢
 rw [max_len] at hl
 have hlI:(N:Int)≤9223372036854775807:=by omega
 have hN0:(0:Int)≤(N:Int):=by omega
 have HM:Hid (∀ n k:Int,0≤n→0≤k→Calls Tryz.prog 21 #[.int .i64 n,.int .i64 k] w fun e w'=>∃ m,e = .returned (.int .i64 m)∧0≤m∧m≤2147483648∧w'=w):=fun n k h1 h2=>more_any n k w h1 h2
 clear hN hr
 go_enter Tryz.func20,Tryz.ntmps20
 go_wp2_with fail
 refine (HM.out n N hn hN0).mono ?_
 rintro e w' ⟨m0,rfl,hm0,hm1,hw⟩
 obtain rfl:=hw.symm
 go_wp2
 go_loopw [0,5] (fun vn vi wr=>∃ (k:Nat) (m:Int),vi = .int .i64 k∧vn = .int .i64 m∧k≤N∧0≤m∧m≤2147483648∧wr=w) (fun _ vi _=>N - (intOf vi).toNat)
 case atStart=>exact ⟨0,m0,rfl,rfl,by omega,hm0,hm1,rfl⟩
 case round=>
  obtain ⟨k,m,rfl,rfl,hk,hm,hm',rfl⟩:=hrel
  have hk0:(0:Int)≤(k:Int):=by omega
  by_cases hlt:k<N
  · have hlt':(k:Int)<(N:Int):=by omega
    by_cases hb:m≤2147483647
    · as_aux_lemma=>
       have hkl:k<ls.length:=by rw [HN.out];exact hlt
       obtain ⟨g,o,rfl,hd⟩:=HR.out.resolve_left (fun e=>by rw [e] at hkl;simp at hkl)
       obtain ⟨sv,hs,hsr⟩:=hd k hkl
       obtain ⟨s1,s2,s3,rfl⟩:=hsr.sl
       have hs0:(0:Int)≤(s2:Int):=by omega
       clear hd hsr HR
       go_wp2_with fail
       refine (HM.out m s2 hm hs0).mono ?_
       rintro e w' ⟨m2,rfl,h2,h3,hw⟩
       obtain rfl:=hw.symm
       go_wp2
       exact ⟨⟨k+1,m2,by go_num,rfl,by omega,h2,h3,by first | rfl | trivial⟩,by simp [intOf];omega⟩
    · as_aux_lemma=>
       go_wp2
       exact bodyPost_ret (v := .int .i64 m) (by simp [results,Tryz.f20,go_sem]) rfl ⟨_,rfl,hm,hm',rfl⟩
  · as_aux_lemma=>
     have hge:¬ (k:Int)<(N:Int):=by omega
     go_wp2
     exact bodyPost_ret (v := .int .i64 m) (by simp [results,Tryz.f20,go_sem]) rfl ⟨_,rfl,hm,hm',rfl⟩
theorem pc_at {w:World} {g o:Nat} {ps:List Pc} (h:PRd w g o ps) {j:Nat} (hj:j<ps.length):∃ tv,w.cell? ⟨g,o+j*4,none⟩=some (.int .i64 ps[j].k)∧w.cell? ⟨g,o+j*4+1,none⟩=some (.int .i64 ps[j].u)∧w.cell? ⟨g,o+j*4+2,none⟩=some (.int .i64 ps[j].y)∧w.cell? ⟨g,o+j*4+3,none⟩=some tv∧Rs w tv ps[j].tl:=h j hj
def BeyQ (w:World) (e:Ending) (w':World):Prop:=∃ b:Bool,e = .returned (.bool b)∧Grown w w'
set_option maxHeartbeats 8000000 in
theorem beyond_any (v:Value) (rs:List Rl) (w:World) (h:PsR w v rs) (hl:rs.length≤maxLen) (hz:∀ r∈rs,Go.Proofs.YtaemgkemlifadaaGreatDoor.Lz r):Calls Tryz.prog 7 #[.agg #[v]] w (BeyQ w):=by
 have HP:Hid (∀ W,Grown w W→PsR W v rs):=fun W hW=>h.grown hW
 have HZ:Hid (∀ r∈rs,Go.Proofs.YtaemgkemlifadaaGreatDoor.Lz r):=hz
 obtain ⟨ra,rc,rfl,_,_⟩:=h
 obtain ⟨N,hN⟩:∃ N,rs.length=N:=⟨_,rfl⟩
 have HN:Hid (rs.length=N):=hN
 rw [hN] at hl HP ⊢
 rw [max_len] at hl
 have hlI:(N:Int)≤9223372036854775807:=by omega
 have hN0:(0:Int)≤(N:Int):=by omega
 clear hN hz
 go_enter Tryz.func7,Tryz.ntmps7
 go_wp2
 go_loopw [3,4] (fun vn vi wr=>∃ (k:Nat) (m:Int),vi = .int .i64 k∧vn = .int .i64 m∧k≤N∧0≤m∧m≤9223372036854775807∧Grown (w.alloc (.cells #[.slice ra N rc] 24)) wr) (fun _ vi _=>N - (intOf vi).toNat)
 case atStart=>exact ⟨0,N,rfl,rfl,by omega,by omega,by omega,Grown.refl _⟩
 case round=>
  obtain ⟨k,m,rfl,rfl,hk,hm,hm',hG⟩:=hrel
  have hk0:(0:Int)≤(k:Int):=by omega
  have c0:=hG.cellv (a:=⟨w.heap.size,0,none⟩) (v := .slice ra N rc) (by simp)
  by_cases hlt:k<N
  · have hlt':(k:Int)<(N:Int):=by omega
    by_cases hb:m≤2147483647
    · have hkl:k<rs.length:=by rw [HN.out];exact hlt
      have hG0:Grown w wr:=((Grown.refl w).alloc _).trans hG
      have hLz:=HZ.out _ (List.getElem_mem hkl)
      obtain ⟨a',c',e',_,hPr⟩:=HP.out wr hG0
      obtain ⟨g,o,ha',hRA⟩:=hPr.resolve_left (fun e=>by rw [e] at hkl;simp at hkl)
      injection e' with q1 q2 q3
      clear q2 q3
      rw [ha'] at q1
      subst q1
      obtain ⟨av,kv,pv,rv,r0,r1,r2,r3,r4,r5,r6,hR⟩:=hRA k hkl
      have HRA:Hid (∀ W,Grown wr W→SR W av rs[k].ante∧SR W kv rs[k].key∧SR W pv rs[k].post∧PR W rv rs[k].res):=fun W hW=>⟨hR.a.grown hW,hR.k.grown hW,hR.p.grown hW,hR.r.grown hW⟩
      have HL:Hid (rs[k].ante.length≤maxLen∧rs[k].key.length≤maxLen∧rs[k].post.length≤maxLen∧rs[k].res.length≤maxLen):=⟨hLz.na,hLz.nk,hLz.np,hLz.nr⟩
      obtain ⟨a1,n1,c1,rfl⟩:=hR.a.sl
      obtain ⟨a2,n2,c2,rfl⟩:=hR.k.sl
      obtain ⟨a3,n3,c3,rfl⟩:=hR.p.sl
      obtain ⟨a5,c5,hrv,_,hrr⟩:=hR.r
      subst hrv
      have HRR:Hid (rs[k].res=[]∨∃ g o,a5=some ⟨g,o,none⟩∧PRd wr g o rs[k].res):=hrr
      obtain ⟨n5,hn5⟩:∃ n5,rs[k].res.length=n5:=⟨_,rfl⟩
      have HN5:Hid (rs[k].res.length=n5):=hn5
      rw [hn5] at r5 HRA HL
      have hn5I:(n5:Int)≤9223372036854775807:=by have:=HL.out.2.2.2;rw [max_len] at this;omega
      have hn50:(0:Int)≤(n5:Int):=by omega
      have HG:Hid (Grown (w.alloc (.cells #[.slice (some ⟨g,o,none⟩) N rc] 24)) wr):=hG
      generalize rs[k].bg=xb at *
      generalize rs[k].en=xe at *
      generalize rs[k].cu=xc at *
      obtain ⟨W5,hW5⟩:∃ W5,W5=wr.alloc (.cells #[.bool xb,.slice a1 n1 c1,.slice a2 n2 c2,.slice a3 n3 c3,.bool xe,.slice a5 n5 c5,.int .i64 xc] 53):=⟨_,rfl⟩
      have hG5:Grown wr W5:=by rw [hW5];exact (Grown.refl _).alloc _
      have HS1:Hid (∀ m:Int,0≤m→Calls Tryz.prog 20 #[.int .i64 m,.slice a1 n1 c1] W5 fun e w'=>∃ x,e = .returned (.int .i64 x)∧0≤x∧x≤2147483648∧w'=W5):=fun m h=>setsItems_any m _ _ W5 (HRA.out W5 hG5).1 h HL.out.1
      have HS2:Hid (∀ m:Int,0≤m→Calls Tryz.prog 20 #[.int .i64 m,.slice a2 n2 c2] W5 fun e w'=>∃ x,e = .returned (.int .i64 x)∧0≤x∧x≤2147483648∧w'=W5):=fun m h=>setsItems_any m _ _ W5 (HRA.out W5 hG5).2.1 h HL.out.2.1
      have HS3:Hid (∀ m:Int,0≤m→Calls Tryz.prog 20 #[.int .i64 m,.slice a3 n3 c3] W5 fun e w'=>∃ x,e = .returned (.int .i64 x)∧0≤x∧x≤2147483648∧w'=W5):=fun m h=>setsItems_any m _ _ W5 (HRA.out W5 hG5).2.2.1 h HL.out.2.2.1
      have HM:Hid (∀ n k:Int,0≤n→0≤k→Calls Tryz.prog 21 #[.int .i64 n,.int .i64 k] W5 fun e w'=>∃ m,e = .returned (.int .i64 m)∧0≤m∧m≤2147483648∧w'=W5):=fun n k h1 h2=>more_any n k W5 h1 h2
      have HPR:Hid (rs[k].res=[]∨∃ g o,a5=some ⟨g,o,none⟩∧PRd W5 g o rs[k].res):=HRR.out.imp id fun ⟨g,o,h1,h2⟩=>⟨g,o,h1,h2.grown hG5⟩
      have b5:W5.heap[wr.heap.size]? = some (.cells #[.bool xb,.slice a1 n1 c1,.slice a2 n2 c2,.slice a3 n3 c3,.bool xe,.slice a5 n5 c5,.int .i64 xc] 53 (0,0)):=by rw [hW5];exact heap_alloc_new _ _
      have p1:W5.cell? ⟨wr.heap.size,1,none⟩=some (.slice a1 n1 c1):=by rw [cell_of b5];rfl
      have p2:W5.cell? ⟨wr.heap.size,2,none⟩=some (.slice a2 n2 c2):=by rw [cell_of b5];rfl
      have p3:W5.cell? ⟨wr.heap.size,3,none⟩=some (.slice a3 n3 c3):=by rw [cell_of b5];rfl
      have p5:W5.cell? ⟨wr.heap.size,5,none⟩=some (.slice a5 n5 c5):=by rw [cell_of b5];rfl
      have HG5:Hid (Grown wr W5):=hG5
      clear hR hrr hn5 hRA hPr ha' hG hG5 b5 HRA HRR hLz hG0
      go_wp2_with fail
      rw [←hW5]
      clear hW5 r0 r1 r2 r3 r4 r5 r6 c0
      refine (HS1.out m hm).mono ?_
      rintro e w' ⟨m1,rfl,h10,h11,hw⟩
      obtain rfl:=hw.symm
      go_wp2_with fail
      refine (HS2.out m1 h10).mono ?_
      rintro e w' ⟨m2,rfl,h20,h21,hw⟩
      obtain rfl:=hw.symm
      go_wp2_with fail
      refine (HS3.out m2 h20).mono ?_
      rintro e w' ⟨m3,rfl,h30,h31,hw⟩
      obtain rfl:=hw.symm
      go_wp2_with fail
      refine (HM.out m3 n5 h30 hn50).mono ?_
      rintro e w' ⟨m4,rfl,h40,h41,hw⟩
      obtain rfl:=hw.symm
      obtain ⟨wo,hwo⟩:∃ wo,wo=wr:=⟨_,rfl⟩
      rw [←hwo]
      rw [←hwo] at p1 p2 p3 p5 HG HG5
      clear HS1 HS2 HS3 hwo
      go_wp2
      go_loopw [3,6] (fun vn vj wx=>∃ (j:Nat) (x:Int),vj = .int .i64 j∧vn = .int .i64 x∧j≤n5∧0≤x∧x≤2147483648∧wx=W5) (fun _ vj _=>n5 - (intOf vj).toNat)
      case atStart=>exact ⟨0,m4,rfl,rfl,by omega,h40,h41,rfl⟩
      case round=>
       obtain ⟨j,x,rfl,rfl,hj,hx,hx',hwx⟩:=hrel
       obtain rfl:=hwx.symm
       have hj0:(0:Int)≤(j:Int):=by omega
       have HK:Hid (k+1≤N∧n5 - j ≥ 0):=⟨hlt,by omega⟩
       by_cases hjl:j<n5
       · have hjl':(j:Int)<(n5:Int):=by omega
         by_cases hxb:x≤2147483647
         · as_aux_lemma=>
            have hjr:j<rs[k].res.length:=by rw [HN5.out];exact hjl
            obtain ⟨pg,po,rfl,hd⟩:=HPR.out.resolve_left (fun e=>by rw [e] at hjr;simp at hjr)
            obtain ⟨tv,_,_,_,x3,hrs⟩:=pc_at hd hjr
            obtain ⟨t1,t2,t3,rfl⟩:=hrs.sl
            have ht0:(0:Int)≤(t2:Int):=by omega
            clear hd hrs HPR
            go_wp2_with fail
            refine (HM.out x t2 hx ht0).mono ?_
            rintro e w' ⟨m5,rfl,h50,h51,hw⟩
            obtain rfl:=hw.symm
            go_wp2
            exact ⟨⟨j+1,m5,by go_num,rfl,by omega,h50,h51,by first | rfl | trivial⟩,by simp [intOf];omega⟩
         · as_aux_lemma=>
            go_wp2
            exact ⟨⟨k+1,x,by go_num,rfl,hlt,hx,by omega,HG.out.trans HG5.out⟩,by simp [intOf];omega⟩
       · as_aux_lemma=>
          have hge:¬ (j:Int)<(n5:Int):=by omega
          go_wp2
          exact ⟨⟨k+1,x,by go_num,rfl,hlt,hx,by omega,HG.out.trans HG5.out⟩,by simp [intOf];omega⟩
    · as_aux_lemma=>
       go_wp2
       go_ret
       exact ⟨_,rfl,((Grown.refl w).alloc _).trans hG⟩
  · as_aux_lemma=>
     have hge:¬ (k:Int)<(N:Int):=by omega
     go_wp2
     go_ret
     exact ⟨_,rfl,((Grown.refl w).alloc _).trans hG⟩
theorem repA:(Array.replicate 154 undef:Array Value)=#[undef,undef,undef,undef,undef,undef,undef,undef,undef,undef,undef,undef,undef,undef,undef,undef,undef,undef,undef,undef,undef,undef,undef,undef,undef,undef,undef,undef,undef,undef,undef,undef,undef,undef,undef,undef,undef,undef,undef,undef,undef,undef,undef,undef,undef,undef,undef,undef,undef,undef,undef,undef,undef,undef,undef,undef,undef,undef,undef,undef,undef,undef,undef,undef,undef,undef,undef,undef,undef,undef,undef,undef,undef,undef,undef,undef,undef,undef,undef,undef,undef,undef,undef,undef,undef,undef,undef,undef,undef,undef,undef,undef,undef,undef,undef,undef,undef,undef,undef,undef,undef,undef,undef,undef,undef,undef,undef,undef,undef,undef,undef,undef,undef,undef,undef,undef,undef,undef,undef,undef,undef,undef,undef,undef,undef,undef,undef,undef,undef,undef,undef,undef,undef,undef,undef,undef,undef,undef,undef,undef,undef,undef,undef,undef,undef,undef,undef,undef,undef,undef,undef,undef,undef,undef]:=by kernel_rfl
def LpI (W6:World) (ib i:Nat) (Ds:List Nat) (W:World):Prop:=Below W6.heap.size W6 W∧W6.heap.size≤ib∧W.heap[ib]? = some (.cells #[.int .i64 i] 3 (0,0))∧Ds.Nodup∧∀ D∈Ds,W6.heap.size≤D∧W.heap[D]? = some (.deferred (some []))
theorem LpI.start (W6:World):LpI W6 W6.heap.size 0 [] (W6.alloc (.cells #[.int .i64 0] 3)):=⟨((Grown.refl W6).alloc _).below,Nat.le_refl _,heap_alloc_new _ _,List.nodup_nil,fun D hD=>by simp at hD⟩
theorem LpI.next {W6 wr Wn W V:World} {ib i nb D:Nat} {Ds:List Nat} (h:LpI W6 ib i Ds wr) (hnb:nb=wr.heap.size) (hg:Grown wr Wn) (hf:Fr Wn W (fun k=>k=nb)) (hs:Wn.heap.size=nb+1) (hD:nb+1≤D) (hK:W.heap[D]? = some (.deferred (some []))) (hV:Grown W V):LpI W6 V.heap.size (i+1) (D::Ds) (V.alloc (.cells #[.int .i64 ((i:Int)+1)] 3)):=by
 obtain ⟨l1,l2,l3,l4,l5⟩:=h
 have hz:=l1.size
 have h1:Below W6.heap.size W6 Wn:=l1.trans (hg.below.mono hz)
 have h2:Below W6.heap.size W6 W:=h1.trans (hf.below (fun k hk=>by have hk:k=nb:=hk;omega) (by omega))
 have h3:Below W6.heap.size W6 V:=h2.trans (hV.below.mono h2.size)
 have hga:Grown V (V.alloc (.cells #[.int .i64 ((i:Int)+1)] 3)):=(Grown.refl V).alloc _
 have keep:∀ (k:Nat) (o:Obj),W.heap[k]? = some o→(V.alloc (.cells #[.int .i64 ((i:Int)+1)] 3)).heap[k]? = some o:=fun k o ho=>by
  have e1:=(hV.below.block _ (blk_lt ho)).trans ho
  exact (hga.below.block _ (blk_lt e1)).trans e1
 refine ⟨h3.trans (hga.below.mono h3.size),h3.size,?_,?_,fun E hE => ?_⟩
 · rw [heap_alloc_new];simp
 · rw [List.nodup_cons]
   refine ⟨fun hm => ?_,l4⟩
   have:=blk_lt (l5 D hm).2
   omega
 · simp only [List.mem_cons] at hE
   rcases hE with rfl | hE
   · exact ⟨by omega,keep _ _ hK⟩
   · obtain ⟨e1,e2⟩:=l5 E hE
     have e3:=blk_lt e2
     refine ⟨e1,keep _ _ ?_⟩
     rw [hf.block E (by omega) (by omega)]
     exact (hg.below.block _ e3).trans e2
inductive LpR (W6:World) (ws B8 B9:Nat):Nat→Act→World→Prop
 | mk (k i ib:Nat) (Ds:List Nat) (W:World) (u0 u1 u2 u4 u7 u9 u11 u13 u14 u15 u16 u17 u18 u19 u20 u21 u22 u23 u24 u25 u26 u27 u28 u29 u30 u31 u32 u33 u34 u35 u36 u37 u38 u39 u40 u41 u42 u43 u44 u45 u46 u47 u48 u49 u50 u51 u52 u53 u54 u55 u56 u57 u58 u59 u60 u61 u62 u63 u64 u65 u66 u67 u68 u69 u70 u71 u72 u73 u74 u75 u76 u77 u78 u79 u80 u81 u82 u83 u84 u85 u86 u87 u88 u89 u90 u91 u92 u93 u94 u95 u96 u97 u98 u99 u100 u101 u102 u103 u104 u105 u106 u107 u108 u109 u110 u111 u112 u113 u114 u115 u116 u117 u118 u119 u120 u121 u122 u123 u124 u125 u126 u127 u128 u129 u130 u131 u132 u133 u134 u135 u136 u137 u138 u139 u140 u141 u142 u143 u144 u145 u146 u147 u148 u149 u150 u151 u152 u153 u154 u155 u156:Value):Hid (LpI W6 ib i Ds W)→i+k=12→LpR W6 ws B8 B9 k { tmps:=#[u0,u1,u2,.pointer (some ⟨ws,0,none⟩),u4,.pointer (some ⟨ws+1,0,none⟩),.pointer (some ⟨ws+1+1,0,none⟩),u7,.pointer (some ⟨B8,0,none⟩),u9,.pointer (some ⟨B9,0,none⟩),u11,.pointer (some ⟨ib,0,none⟩),u13,u14,u15,u16,u17,u18,u19,u20,u21,u22,u23,u24,u25,u26,u27,u28,u29,u30,u31,u32,u33,u34,u35,u36,u37,u38,u39,u40,u41,u42,u43,u44,u45,u46,u47,u48,u49,u50,u51,u52,u53,u54,u55,u56,u57,u58,u59,u60,u61,u62,u63,u64,u65,u66,u67,u68,u69,u70,u71,u72,u73,u74,u75,u76,u77,u78,u79,u80,u81,u82,u83,u84,u85,u86,u87,u88,u89,u90,u91,u92,u93,u94,u95,u96,u97,u98,u99,u100,u101,u102,u103,u104,u105,u106,u107,u108,u109,u110,u111,u112,u113,u114,u115,u116,u117,u118,u119,u120,u121,u122,u123,u124,u125,u126,u127,u128,u129,u130,u131,u132,u133,u134,u135,u136,u137,u138,u139,u140,u141,u142,u143,u144,u145,u146,u147,u148,u149,u150,u151,u152,u153,u154,u155,u156],defers:=Ds.map mkD } W
set_option maxHeartbeats 16000000 in
theorem steps_law (v lv:Value) (rs:List Rl) (s:ByteArray) (ls:List Int) (w:World) (hT:Tab w) (hP:PsR w v rs) (hl:rs.length≤1048576) (hz:∀ r∈rs,Go.Proofs.YtaemgkemlifadaaGreatDoor.Small r 1048576) (hL:IR w lv ls) (_hll:ls.length≤1048576) :
 Calls Tryz.prog 4 #[.agg #[v],.string s,lv] w fun e w'=>e = .returned (.bool true)∧Below w.heap.size w w':=by
 have HP:Hid (∀ W,Below w.heap.size w W→PsR W v rs):=fun W hb=>hP.below hb (Nat.le_refl _)
 have HLv:Hid (∀ W,Below w.heap.size w W→IR W lv ls):=fun W hb=>hL.below hb (Nat.le_refl _)
 have HB:Hid (∀ W,Grown w W→Calls Tryz.prog 7 #[.agg #[v]] W (BeyQ W)):=fun W hg=>beyond_any v rs W (hP.grown hg) (by unfold maxLen;omega) (fun r hr=>⟨by have:=(hz r hr).na;unfold maxLen;omega,by have:=(hz r hr).nk;unfold maxLen;omega,by have:=(hz r hr).np;unfold maxLen;omega,by have:=(hz r hr).nr;unfold maxLen;omega⟩)
 have HSh:Hid (∀ W,Below w.heap.size w W→Calls Tryz.prog 8 #[] W fun e w'=>e = .returned (.bool true)∧Below W.heap.size W w'):=fun W hb=>shown_any W (hT.below hb hT.pos) (Nat.lt_of_lt_of_le hT.pos hb.size)
 have H9:=Hid.mk' (fun W (hb:Below w.heap.size w W)=>lend_any v rs W (hP.below hb (Nat.le_refl _)) hl hz)
 have H13:Hid (∀ W u,Below w.heap.size w W→PsR W u rs→Calls Tryz.prog 13 #[.agg #[u],.string s] W (StpQ W rs s)):=fun W u hb hx=>steps_any u rs s W (hT.below hb hT.pos) hx
 have H14:Hid (∀ W,Below w.heap.size w W→Calls Tryz.prog 14 #[.agg #[v],.string s] W (RStQ W rs s)):=fun W hb=>rsteps_any v rs s W (hP.below hb (Nat.le_refl _))
 have HTab:=Hid.mk' hT
 have HZ:=Hid.mk' hz
 obtain ⟨va,vc,hv,hx1,hx2⟩:=hP
 clear hx1 hx2
 obtain ⟨n,hn⟩:∃ n,rs.length=n:=⟨_,rfl⟩
 have HN:Hid (rs.length=n):=hn
 rw [hn] at hv hl H9
 subst hv
 obtain ⟨la,ln,lc,hlv⟩:=hL.sl
 subst hlv
 have hln:ls.length=ln:=(ir_len hL).1
 have HLN:=Hid.mk' hln
 clear hT hn hz hln hL
 refine (callsIn_wide (n:=8)).1 ?_
 refine callsIn_of_wp_marks Tryz.func4 rfl trivial ?_ rfl
 simp only [Tryz.ntmps4,List.size_toArray,List.length_cons,List.length_nil,Nat.reduceAdd,Nat.reduceSub]
 rw [repA]
 simp only [List.append_toArray,List.nil_append,List.cons_append]
 obtain ⟨W0,hW0⟩:∃ W0,W0=((w.alloc (.cells #[.slice va n vc] 24)).alloc (.cells #[.slice la ln lc] 38)).alloc (.cells #[.bool false] 4):=⟨_,rfl⟩
 have HG0:Hid (Grown w W0):=by show Grown _ _;rw [hW0];exact (((Grown.refl _).alloc _).alloc _).alloc _
 have hA0:W0.heap[w.heap.size]? = some (.cells #[.slice va n vc] 24 (0,0))∧W0.heap[w.heap.size+1]? = some (.cells #[.slice la ln lc] 38 (0,0))∧W0.heap[w.heap.size+2]? = some (.cells #[.bool false] 4 (0,0))∧W0.heap.size=w.heap.size+3:=by
  have e1:=heap_alloc_new w (.cells #[.slice va n vc] 24)
  have e2:=heap_alloc_new (w.alloc (.cells #[.slice va n vc] 24)) (.cells #[.slice la ln lc] 38)
  have e3:=heap_alloc_new ((w.alloc (.cells #[.slice va n vc] 24)).alloc (.cells #[.slice la ln lc] 38)) (.cells #[.bool false] 4)
  rw [hW0]
  refine ⟨(Below.heap_alloc _ _ _ (by simp;omega)).trans ((Below.heap_alloc _ _ _ (by simp)).trans e1),(Below.heap_alloc _ _ _ (by simp)).trans (by simpa using e2),by simpa using e3,by simp⟩
 have HA:=Hid.mk' hA0
 clear hA0
 gi_wp2_with fail
 rw [←hW0]
 clear hW0
 refine ⟨trivial,?_⟩
 refine (callsIn_wide.2 (HB.out W0 HG0.out)).mono ?_
 rintro e W1 ⟨bb,rfl,hg1⟩
 have HB1:Hid (Below W0.heap.size W0 W1):=hg1.below
 have HW0:Hid (∀ V,Below W0.heap.size W0 V→Below w.heap.size w V):=fun V hb=>HG0.out.below.trans (hb.mono HG0.out.size)
 have HR:Hid (∀ V,Below W0.heap.size W0 V→V.heap[w.heap.size]? = some (.cells #[.slice va n vc] 24 (0,0))∧V.heap[w.heap.size+1]? = some (.cells #[.slice la ln lc] 38 (0,0))∧V.heap[w.heap.size+2]? = some (.cells #[.bool false] 4 (0,0))):=fun V hb=>⟨(hb.block _ (blk_lt HA.out.1)).trans HA.out.1,(hb.block _ (blk_lt HA.out.2.1)).trans HA.out.2.1,(hb.block _ (blk_lt HA.out.2.2.1)).trans HA.out.2.2.1⟩
 have HRet:Hid (∀ V,Below W0.heap.size W0 V→V.frozen? ⟨w.heap.size+2,0,none⟩=false∧V.cell? ⟨w.heap.size+2,0,none⟩=some (.bool false)∧(V.setCell ⟨w.heap.size+2,0,none⟩ (.bool true)).cell? ⟨w.heap.size+2,0,none⟩=some (.bool true)∧Below w.heap.size w (V.setCell ⟨w.heap.size+2,0,none⟩ (.bool true))):=fun V hb=>by
  have h3:=(HR.out V hb).2.2
  have h4:=set_heap (j:=0) (u:=Value.bool true) h3
  exact ⟨free_of h3,by rw [cell_of h3];rfl,by rw [cell_of h4];rfl,Below.setCell (p:=⟨w.heap.size+2,0,none⟩) (HW0.out V hb) (by show _≤w.heap.size+2;omega) _⟩
 clear hg1 HB HG0
 cases bb with
 | true=>
  obtain ⟨f1,c1,c0,hE1⟩:=HRet.out W1 HB1.out
  have HE1:=Hid.mk' hE1
  clear hE1
  gi_wp2
  refine ⟨.bool true,?_,rfl,HE1.out⟩
  have hr:Tryz.f4.results=#[.cell 6 4]:=rfl
  simp only [results,hr]
  simp [go_sem,c0]
 | false=>
  gi_wp2_with fail
  refine ⟨trivial,?_⟩
  refine (callsIn_wide.2 (HSh.out W1 (HW0.out _ HB1.out))).mono ?_
  rintro e W2 ⟨rfl,hg2⟩
  have HB2:Hid (Below W0.heap.size W0 W2):=HB1.out.trans (hg2.mono HB1.out.size)
  have d2:W2.cell? ⟨w.heap.size,0,none⟩=some (.slice va n vc):=by rw [cell_of (HR.out W2 HB2.out).1];rfl
  clear hg2 HB1 HSh
  gi_wp2_with fail
  refine ⟨trivial,?_⟩
  refine (callsIn_wide.2 (H9.out W2 (HW0.out _ HB2.out))).mono ?_
  rintro e W3 ⟨base,xb,rv,sv,gv,cv,G,S,C,R,rg,c,hbs,rfl,hrv,hLX,hRm,hb3⟩
  subst hrv
  have hRl:R.length=n:=by rw [←HN.out,←hRm];simp
  have HLX:=Hid.mk' hLX
  have HRM:Hid (R.map LRu.rl=rs∧R.length=n):=⟨hRm,hRl⟩
  have HPS:Hid (∀ V,Below W3.heap.size W3 V→PsR V (.slice (some ⟨rg,0,none⟩) n c) rs):=fun V hb=>by
   have hL:=hLX.below hb (Nat.le_refl _)
   have:=LX.psr (w:=V) (base:=base) (xb:=xb) (R:=R) (by rw [hRl];exact hL) (g:=rg) (c:=c) (by rw [hRl])
   rw [hRl,hRm] at this
   exact this
  have HB3:Hid (Below W0.heap.size W0 W3):=HB2.out.trans (hb3.mono HB2.out.size)
  have HBS:Hid (W0.heap.size≤base):=by have:=HB2.out.size;show _≤_;omega
  have x1:W3.cell? ⟨xb,0,none⟩=some (.slice (some ⟨rg,0,none⟩) n c):=by rw [cell_of hLX.x];rfl
  clear hLX hRm hb3 hRl hbs HB2 d2 H9
  gi_wp2_with fail
  refine ⟨trivial,?_⟩
  refine (callsIn_wide.2 (H13.out W3 _ (HW0.out _ HB3.out) (HPS.out W3 (Below.refl _ _)))).mono ?_
  rintro e W4 ⟨hg4,hs4⟩
  have HB4:Hid (Below W3.heap.size W3 W4):=hg4
  have HB04:Hid (Below W0.heap.size W0 W4):=HB3.out.trans (HB4.out.mono HB3.out.size)
  have HNE:Hid (∀ V,Below W3.heap.size W3 V→Below W0.heap.size W0 V):=fun V hb=>HB3.out.trans (hb.mono HB3.out.size)
  have HSL:Hid (∀ V,Below W3.heap.size W3 V→Calls Tryz.prog 12 #[.pointer (some ⟨xb,0,none⟩),.agg #[.slice va n vc]] V fun e w'=>e = .returned (.bool true)∧Fr V w' (fun b=>base≤b∧b<W3.heap.size)):=fun V hb=>(still_lxF (HLX.out.below hb (Nat.le_refl _)) rfl HRM.out.1 HN.out _ (HP.out V (HW0.out _ (HNE.out V hb))) hl HZ.out).mono (by
   rintro e w' ⟨rfl,hf⟩
   exact ⟨rfl,hf.mono fun b _ hb=>HLX.out.touch rfl hb⟩)
  clear hg4 x1 H13
  obtain ⟨E,hE⟩:∃ E,mayE rs s=E:=⟨_,rfl⟩
  have HE:=Hid.mk' hE
  by_cases hE0:E=0
  · subst hE0
    rcases hs4 with ⟨hne,_⟩ | ⟨he0,b1,b2,vv,rfl,hlb1,hlb2,hx1,hx2,hrob⟩
    · exact absurd hE hne
    obtain ⟨st,hM⟩:=made_of HTab.out HTab.out.pos (HW0.out _ HB04.out) he0 hx1 hx2 hrob.now
    have HM:=Hid.mk' hM
    have HMb:=Hid.mk' (And.intro hlb1 (And.intro hlb2 (And.intro hx1 (And.intro hx2 hrob))))
    clear hM hx1 hx2 hrob hlb1 hlb2 he0 hE
    obtain ⟨X8,hX8⟩:∃ X8,X8=W4.alloc (.cells #[.func (.func 35) #[] #[.pointer (some ⟨b1,0,none⟩),.pointer (some ⟨b2,0,none⟩)]] 40):=⟨_,rfl⟩
    obtain ⟨B8,hB8⟩:∃ B8,B8=W4.heap.size:=⟨_,rfl⟩
    have hg8:Grown W4 X8:=by rw [hX8];exact (Grown.refl W4).alloc _
    have h8:X8.heap[B8]? = some (.cells #[.func (.func 35) #[] #[.pointer (some ⟨b1,0,none⟩),.pointer (some ⟨b2,0,none⟩)]] 40 (0,0)):=by rw [hX8,hB8];exact heap_alloc_new _ _
    have HB38:Hid (Below W3.heap.size W3 X8):=HB4.out.trans (hg8.below.mono HB4.out.size)
    have d4:X8.cell? ⟨w.heap.size,0,none⟩=some (.slice va n vc):=by rw [cell_of (HR.out X8 (HNE.out _ HB38.out)).1];rfl
    have HBB:Hid (W3.heap.size≤B8∧B8+1=X8.heap.size):=by
     have:=HB4.out.size
     exact ⟨by omega,by rw [hX8,hB8];simp⟩
    have HG8:=Hid.mk' hg8
    unfold RStQ at H14
    rw [HE.out] at H14
    simp only [if_true] at H14
    rw [hX8] at d4
    gi_wp2_with fail
    rw [←hX8,←hB8]
    rw [←hX8] at d4
    have HX8:=Hid.mk' h8
    clear hX8 hB8 hg8 h8 d4
    refine ⟨trivial,?_⟩
    refine (callsIn_wide.2 (H14.out X8 (HW0.out _ (HNE.out _ HB38.out)))).mono ?_
    rintro e W5 ⟨sv,rfl,hO5,hb5⟩
    obtain ⟨xs,hxs⟩:∃ xs,(endOf rs s).1=xs:=⟨_,rfl⟩
    rw [hxs] at hO5
    obtain ⟨sa,sc,hsv⟩:=hO5.ssl
    have HXS:=Hid.mk' hxs
    have HO5:=Hid.mk' hO5
    have HB85:=Hid.mk' hb5
    have HB35:Hid (Below W3.heap.size W3 W5):=HB38.out.trans (hb5.mono HB38.out.size)
    have h85:=(hb5.block _ (blk_lt HX8.out)).trans HX8.out
    obtain ⟨N,hN⟩:∃ N,xs.length=N:=⟨_,rfl⟩
    have HNN:=Hid.mk' hN
    rw [hN] at hsv
    subst hsv
    clear hxs hO5 hN hb5 H14
    obtain ⟨X9,hX9⟩:∃ X9,X9=W5.alloc (.cells #[.slice sa N sc] 43):=⟨_,rfl⟩
    obtain ⟨B9,hB9⟩:∃ B9,B9=W5.heap.size:=⟨_,rfl⟩
    have hg9:Grown W5 X9:=by rw [hX9];exact (Grown.refl W5).alloc _
    have h9:X9.heap[B9]? = some (.cells #[.slice sa N sc] 43 (0,0)):=by rw [hX9,hB9];exact heap_alloc_new _ _
    have h89:=(hg9.below.block _ (blk_lt h85)).trans h85
    have HB39:Hid (Below W3.heap.size W3 X9):=HB35.out.trans (hg9.below.mono HB35.out.size)
    have c8:X9.cell? ⟨B8,0,none⟩=some (.func (.func 35) #[] #[.pointer (some ⟨b1,0,none⟩),.pointer (some ⟨b2,0,none⟩)]):=by rw [cell_of h89];rfl
    have c9:X9.cell? ⟨w.heap.size,0,none⟩=some (.slice va n vc):=by rw [cell_of (HR.out X9 (HNE.out _ HB39.out)).1];rfl
    have HG9:=Hid.mk' (And.intro hg9 (And.intro h9 h89))
    have HB9:Hid (B9=W5.heap.size∧B9+1=X9.heap.size):=⟨hB9,by rw [hX9,hB9];simp⟩
    have hnf:∀ W,(binOp .neq 40 (.func (.func 35) #[] #[.pointer (some ⟨b1,0,none⟩),.pointer (some ⟨b2,0,none⟩)]) .nilFunc).run Tryz.prog W = .ok (.bool true) W:=fun W=>by kernel_rfl
    rw [hX9] at c8 c9
    gi_wp2_with fail
    rw [←hX9,←hB9]
    clear hX9 hB9 hg9 h9 h89 h85 c8 c9 hnf
    refine ⟨trivial,?_⟩
    refine (callsIn_wide.2 (HSL.out X9 HB39.out)).mono ?_
    rintro e W6 ⟨rfl,hf6⟩
    have HF6:=Hid.mk' hf6
    clear hf6 HSL
    -- what stands there from now on
    have hs3:=HB4.out.size
    have hs8:=HBB.out
    have hs85:=HB85.out.size
    have hs9:=HB9.out
    have hbs:=HBS.out
    have h6:W6.heap[B9]? = some (.cells #[.slice sa N sc] 43 (0,0)):=(HF6.out.block _ (blk_lt HG9.out.2.1) (by omega)).trans HG9.out.2.1
    have h68:W6.heap[B8]? = some (.cells #[.func (.func 35) #[] #[.pointer (some ⟨b1,0,none⟩),.pointer (some ⟨b2,0,none⟩)]] 40 (0,0)):=(HF6.out.block _ (blk_lt HG9.out.2.2) (by omega)).trans HG9.out.2.2
    have hb06:Below W0.heap.size W0 W6:=(HNE.out _ HB39.out).trans (HF6.out.below (fun k hk=>by omega) (by have:=(HNE.out _ HB39.out).size;omega))
    have hf46:Fr W4 W6 (fun k=>k<W3.heap.size):=(((fr_grown HG8.out _).trans (fr_below HB85.out (Nat.le_refl _) _) fun _ _ e=>e).trans (fr_grown HG9.out.1 _) fun _ _ e=>e).trans HF6.out fun _ _ e=>e.2
    obtain ⟨mb1,mb2,mx1,mx2,mrob⟩:=HMb.out
    have hM6:∃ st,Made W6 rs s b1 b2 vv st:=made_of HTab.out HTab.out.pos (HW0.out _ hb06) HE.out ((hf46.block _ (blk_lt mx1) (by omega)).trans mx1) ((hf46.block _ (blk_lt mx2) (by omega)).trans mx2) (mrob _ hf46)
    obtain ⟨st6,hM6⟩:=hM6
    have HM6:=Hid.mk' hM6
    have hSR:0<N→∃ g,sa=some ⟨g,0,none⟩∧∀ W,Below W6.heap.size W6 W→SAt W g xs:=fun h0=>by
     obtain ⟨g,c',e,hg1,hg2,hg3⟩:=HO5.out.at' (by rw [HNN.out];exact h0)
     injection e with e1 _ _
     refine ⟨g,e1,fun W hW=>hg3 W fun b hb => ?_⟩
     subst hb
     rw [hW.block b (by have:=HF6.out.size;omega),HF6.out.block b (by omega) (by omega)]
     exact HG9.out.1.below.block b hg2
    have HSR:=Hid.mk' hSR
    have hNB:(N:Int)≤1048576:=by
     have q1:=hM6.end3.lens hM6.pw.fin hM6.pw.ck
     have q2:(intsU (units s)).length≤16384:=by rw [intsU_length];have:=units_len s;have:=hM6.sz;omega
     rw [HXS.out] at q1
     have:=HNN.out
     omega
    have hR6:=HR.out W6 hb06
    have HH6:=Hid.mk' (And.intro h6 (And.intro h68 (And.intro hb06 hR6)))
    have c8:W6.cell? ⟨B8,0,none⟩=some (.func (.func 35) #[] #[.pointer (some ⟨b1,0,none⟩),.pointer (some ⟨b2,0,none⟩)]):=by rw [cell_of h68];rfl
    have hnf:∀ W,(binOp .eql 40 (.func (.func 35) #[] #[.pointer (some ⟨b1,0,none⟩),.pointer (some ⟨b2,0,none⟩)]) .nilFunc).run Tryz.prog W = .ok (.bool false) W:=fun W=>by kernel_rfl
    have hz6:w.heap.size+3≤W6.heap.size∧B8<W6.heap.size∧B9<W6.heap.size:=⟨by have:=hb06.size;have:=HA.out.2.2.2;omega,blk_lt h68,blk_lt h6⟩
    have HZ6:=Hid.mk' hz6
    clear h6 h68 hb06 hf46 mb1 mb2 mx1 mx2 mrob hM6 hSR hR6 hz6 hs3 hs8 hs85 hs9 hbs HF6 HM HMb HG8 HG9 HB38 HB39 HB35 HB85 HB9 HBB HX8 HO5 HNE HB4 HB04 HPS HLX HRM HBS HB3 HR HRet HA
    gi_wp2_with fail
    have HF:Hid (∀ W,Below W6.heap.size W6 W→W.heap[w.heap.size+1]? = some (.cells #[.slice la ln lc] 38 (0,0))∧W.heap[w.heap.size+1+1]? = some (.cells #[.bool false] 4 (0,0))∧W.heap[B8]? = some (.cells #[.func (.func 35) #[] #[.pointer (some ⟨b1,0,none⟩),.pointer (some ⟨b2,0,none⟩)]] 40 (0,0))∧W.heap[B9]? = some (.cells #[.slice sa N sc] 43 (0,0))∧IR W (.slice la ln lc) ls):=fun W hW=>by
     obtain ⟨a1,a2,a3,a4,a5,a6⟩:=HH6.out
     exact ⟨(hW.block _ (blk_lt a5)).trans a5,(hW.block _ (blk_lt a6)).trans a6,(hW.block _ (blk_lt a2)).trans a2,(hW.block _ (blk_lt a1)).trans a1,HLv.out W (HW0.out _ (a3.trans (hW.mono a3.size)))⟩
    have HW6:Hid (Below w.heap.size w W6):=HW0.out _ HH6.out.2.2.1
    obtain ⟨b6,hb6⟩:∃ b6,b6=W6.heap.size:=⟨_,rfl⟩
    have HB6:=Hid.mk' hb6
    clear HH6 c8 hnf HP HTab HZ HLv HE HN
    refine wpIn_loop_ghost (LpR W6 w.heap.size B8 B9) 12 ?start ?round
    case start=>exact LpR.mk (Ds:=[]) 12 0 W6.heap.size _ _ _ _ _ _ _ _ _ _ _ _ _ _ _ _ _ _ _ _ _ _ _ _ _ _ _ _ _ _ _ _ _ _ _ _ _ _ _ _ _ _ _ _ _ _ _ _ _ _ _ _ _ _ _ _ _ _ _ _ _ _ _ _ _ _ _ _ _ _ _ _ _ _ _ _ _ _ _ _ _ _ _ _ _ _ _ _ _ _ _ _ _ _ _ _ _ _ _ _ _ _ _ _ _ _ _ _ _ _ _ _ _ _ _ _ _ _ _ _ _ _ _ _ _ _ _ _ _ _ _ _ _ _ _ _ _ _ _ _ _ _ _ _ _ _ _ _ _ _ _ _ (LpI.start W6) rfl
    case round=>
     intro kk a' wr hIk
     cases hIk with
     | mk i ib Ds W u0 u1 u2 u4 u7 u9 u11 u13 u14 u15 u16 u17 u18 u19 u20 u21 u22 u23 u24 u25 u26 u27 u28 u29 u30 u31 u32 u33 u34 u35 u36 u37 u38 u39 u40 u41 u42 u43 u44 u45 u46 u47 u48 u49 u50 u51 u52 u53 u54 u55 u56 u57 u58 u59 u60 u61 u62 u63 u64 u65 u66 u67 u68 u69 u70 u71 u72 u73 u74 u75 u76 u77 u78 u79 u80 u81 u82 u83 u84 u85 u86 u87 u88 u89 u90 u91 u92 u93 u94 u95 u96 u97 u98 u99 u100 u101 u102 u103 u104 u105 u106 u107 u108 u109 u110 u111 u112 u113 u114 u115 u116 u117 u118 u119 u120 u121 u122 u123 u124 u125 u126 u127 u128 u129 u130 u131 u132 u133 u134 u135 u136 u137 u138 u139 u140 u141 u142 u143 u144 u145 u146 u147 u148 u149 u150 u151 u152 u153 u154 u155 u156 HI hk=>
     obtain ⟨lb1,lb2,lb3,lb4,lb5⟩:=HI.out
     obtain ⟨f1,f2,f3,f4,f5⟩:=HF.out wr lb1
     have c12:wr.cell? ⟨ib,0,none⟩=some (.int .i64 i):=by rw [cell_of lb3];rfl
     have c5:wr.cell? ⟨w.heap.size+1,0,none⟩=some (.slice la ln lc):=by rw [cell_of f1];rfl
     have c8:wr.cell? ⟨B8,0,none⟩=some (.func (.func 35) #[] #[.pointer (some ⟨b1,0,none⟩),.pointer (some ⟨b2,0,none⟩)]):=by rw [cell_of f3];rfl
     have c8':=fun o=>cell_up c8 o
     have hi0:(0:Int)≤(i:Int):=by omega
     have hmx:Tryz.prog.follows .mixedOrders=true:=by kernel_rfl
     have hzr:W6.heap.size≤wr.heap.size:=lb1.size
     have hir:ib<wr.heap.size:=blk_lt lb3
     clear lb1 lb2 lb3 lb4 lb5 f1 f2 f3 f4 f5
     by_cases hlt:i<ln∧i<12
     · obtain ⟨h1,h2⟩:=hlt
       have h1I:(i:Int)<(ln:Int):=by omega
       have h2I:(i:Int)<12:=by omega
       obtain ⟨lg,lo,hla,hcl⟩:=ir_cell (HF.out W6 (Below.refl _ _)).2.2.2.2 (j:=i) (by rw [HLN.out];exact h1)
       subst hla
       obtain ⟨L,hL⟩:∃ L,bAt ls i=L:=⟨_,rfl⟩
       have HcL:Hid (∀ W,Below W6.heap.size W6 W→W.cell? ⟨lg,lo+i,none⟩=some (.int .i64 L)):=fun W hW=>by
        obtain ⟨g',o',e',hc'⟩:=ir_cell (HF.out W hW).2.2.2.2 (j:=i) (by rw [HLN.out];exact h1)
        injection e' with e'
        injection e' with e1 e2 e3
        subst e1 e2
        rw [hc',hL]
       clear hcl hL
       gi_wp2_with fail
       obtain ⟨Wn,hWn⟩:∃ Wn,Wn=wr.alloc (.cells #[.int .i64 0] 3):=⟨_,rfl⟩
       obtain ⟨nb,hnb⟩:∃ nb,nb=wr.heap.size:=⟨_,rfl⟩
       have hsn:Wn.heap.size=nb+1:=by rw [hWn,hnb];simp
       have hn0:Wn.heap[nb]? = some (.cells #[.int .i64 0] 3 (0,0)):=by rw [hWn,hnb];exact heap_alloc_new _ _
       have hgn:Grown wr Wn:=by rw [hWn];exact (Grown.refl wr).alloc _
       rw [←hWn,←hnb]
       have HNb:Hid (nb=wr.heap.size):=hnb
       have hnz:W6.heap.size≤nb:=by omega
       have hib:ib<nb:=by omega
       have Hn6:Hid (Below W6.heap.size W6 Wn):=HI.out.1.trans (hgn.below.mono hzr)
       have HGn:=Hid.mk' hgn
       clear hWn hnb hgn c12 c5 c8 c8' hzr hir
       have HIX:Hid (∀ X,Fr Wn X (fun k=>k=nb)→Below W6.heap.size W6 X∧X.heap[ib]? = some (.cells #[.int .i64 i] 3 (0,0))):=fun X hX=>by
        have hn:=HNb.out
        have hl3:=HI.out.2.2.1
        refine ⟨Hn6.out.trans (hX.below (fun k hk=>by have hk:k=nb:=hk;omega) (by omega)),?_⟩
        rw [hX.block ib (by omega) (by omega)]
        exact (HGn.out.below.block _ (blk_lt hl3)).trans hl3
       have hVs:∀ r:Loop,((Wn.alloc (.deferred (some []))).alloc (.loop r)).heap.size=nb+1+2:=fun r=>by simp [hsn]
       refine wpIn_overQ (enc:=encS) (by omega) (gf:=35) (pa:=#[]) (lb:=#[.pointer (some ⟨b1,0,none⟩),.pointer (some ⟨b2,0,none⟩)]) rfl (enters_of Tryz.func35 (by kernel_rfl) rfl) (xf:=xs) (b:=W6.heap.size) (h:=nb+1) (Z:=fun k=>nb+1+2≤k) (E:=fun _=>True) hsn.symm (by omega) (by omega) (by omega)
        (fun r=>by
         have:=steps1_seq (V:=(Wn.alloc (.deferred (some []))).alloc (.loop r)) HM6.out (Hn6.out.trans ((((Grown.refl Wn).alloc _).alloc _).below.mono (by omega))) 7 (nb+1+1) (by omega)
         rw [HXS.out,hVs r] at this
         exact this)
        (fun _ _ _=>trivial) (fun _=>rfl)
        (fun pre W=>Fr Wn W (fun k=>k=nb)∧W.heap[nb]? = some (.cells #[.int .i64 pre.length] 3 (0,0)))
        (fun c pre W=>c = .exit 2∧(pre.length:Int)=L∧Fr Wn W (fun k=>k=nb)∧W.heap[nb]? = some (.cells #[.int .i64 pre.length] 3 (0,0)))
        (fun pre X Y hX hf=>⟨hX.1.trans hf fun k hk e=>by omega,(hf.block _ (blk_lt hX.2) (by omega)).trans hX.2⟩)
        (fun c pre X Y hX hf=>⟨hX.1,hX.2.1,hX.2.2.1.trans hf fun k hk e=>by omega,(hf.block _ (blk_lt hX.2.2.2) (by omega)).trans hX.2.2.2⟩)
        ⟨Fr.refl _ _,hn0⟩ ?rnd ?done ?stop
       case rnd=>
        as_aux_lemma=>
        intro pre x W hpre hW
        obtain ⟨hkN,hxk⟩:=pre_at hpre
        obtain ⟨xr,xd,xl,xt,xa,xc⟩:=x
        rw [show (#[69]:Array Tmp).zip (encS ⟨xr,xd,xl,xt,xa,xc⟩)=#[(69,Value.agg (fs1 ⟨xr,xd,xl,xt,xa,xc⟩).toArray)] from zip1 _ _]
        unfold fs1
        gi_wp2
        refine ⟨(Grown.refl _).alloc _,?_⟩
        rintro X ⟨hIf,hIn⟩ hXs hXk ⟨rl,hrl⟩
        have hcx:X.heap[W.heap.size]? = some (.cells #[.int .i64 xr,.int .i64 xd,.int .i64 xl,.int .i64 xt,.int .i64 xa,.int .i64 xc] 47 (0,0)):=by rw [hXk _ (by omega)];exact heap_alloc_new W _
        have hkN2:pre.length<N:=by rw [←HNN.out];exact hkN
        obtain ⟨g,hsa,hS⟩:=HSR.out (by omega)
        subst hsa
        obtain ⟨hb6X,hiX⟩:=HIX.out X hIf
        obtain ⟨e0,e1,e2,e3,e4,e5⟩:=hS X hb6X pre.length hkN
        rw [hxk] at e0 e1 e2 e3 e4 e5
        simp only at e0 e1 e2 e3 e4 e5
        obtain ⟨k,hk2⟩:∃ k,pre.length=k:=⟨_,rfl⟩
        have HPL:Hid ((pre++[(⟨xr,xd,xl,xt,xa,xc⟩:Stp)]).length=k+1):=by show _=_;simp [hk2]
        rw [hk2] at hkN2 e0 e1 e2 e3 e4 e5 hIn
        have hk0:(0:Int)≤(k:Int):=by omega
        have hkI:(k:Int)<(N:Int):=by omega
        have hge:decide (N≤k)=false:=by simp;omega
        have hge2:decide ((N:Int)≤(k:Int))=false:=by simp;omega
        have hXW:W.heap.size+1=X.heap.size:=by rw [hXs];simp
        obtain ⟨f1,f2,f3,f4,f5⟩:=HF.out X hb6X
        have cn:X.cell? ⟨nb,0,none⟩=some (.int .i64 k):=by rw [cell_of hIn];rfl
        have cw:X.cell? ⟨B9,0,none⟩=some (.slice (some ⟨g,0,none⟩) N sc):=by rw [cell_of f4];rfl
        have k0:X.cell? ⟨W.heap.size,0,none⟩=some (.int .i64 xr):=by rw [cell_of hcx];rfl
        have k1:X.cell? ⟨W.heap.size,1,none⟩=some (.int .i64 xd):=by rw [cell_of hcx];rfl
        have k2:X.cell? ⟨W.heap.size,2,none⟩=some (.int .i64 xl):=by rw [cell_of hcx];rfl
        have k3:X.cell? ⟨W.heap.size,3,none⟩=some (.int .i64 xt):=by rw [cell_of hcx];rfl
        have k4:X.cell? ⟨W.heap.size,4,none⟩=some (.int .i64 xa):=by rw [cell_of hcx];rfl
        have k5:X.cell? ⟨W.heap.size,5,none⟩=some (.int .i64 xc):=by rw [cell_of hcx];rfl
        have hns:=fun W=>neq_stp2 W xr xd xl xt xa xc
        have HX:=Hid.mk' (And.intro hIf (And.intro hIn (And.intro hb6X (And.intro hXW hrl))))
        have yb:=W.heap.size
        clear hcx hXs hXk hIf hIn hb6X hiX f1 f2 f3 f4 f5 hpre hxk hS hrl hXW
        have p0:=fun m os=>((Grown.refl X).quiet m os).cellv cn
        have p1:=fun m os=>((Grown.refl X).quiet m os).cellv cw
        have p2:=fun m os=>((Grown.refl X).quiet m os).cellv k0
        have p3:=fun m os=>((Grown.refl X).quiet m os).cellv k1
        have p4:=fun m os=>((Grown.refl X).quiet m os).cellv k2
        have p5:=fun m os=>((Grown.refl X).quiet m os).cellv k3
        have p6:=fun m os=>((Grown.refl X).quiet m os).cellv k4
        have p7:=fun m os=>((Grown.refl X).quiet m os).cellv k5
        have q0:=fun m os=>((Grown.refl X).quiet m os).cellv e0
        have q1:=fun m os=>((Grown.refl X).quiet m os).cellv e1
        have q2:=fun m os=>((Grown.refl X).quiet m os).cellv e2
        have q3:=fun m os=>((Grown.refl X).quiet m os).cellv e3
        have q4:=fun m os=>((Grown.refl X).quiet m os).cellv e4
        have q5:=fun m os=>((Grown.refl X).quiet m os).cellv e5
        clear e0 e1 e2 e3 e4 e5 k0 k1 k2 k3 k4 k5 cn cw
        gi_wp2
        refine wpIn_region_plain hmx (by kernel_rfl) (by kernel_rfl) ?_
        repeat (go_big_quiet_step (fail))
        refine wpQuiet_nil ?_
        intro _ hw'
        obtain ⟨⟨nq,osq⟩,hw''⟩:=hw'
        subst hw''
        have hg1:Grown X (Go.Sort.grow (X.drewN nq) osq):=(Grown.refl X).quiet nq osq
        generalize Go.Sort.grow (X.drewN nq) osq=V1 at *
        clear p0 p1 p2 p3 p4 p5 p6 p7 q0 q1 q2 q3 q4 q5 hns
        obtain ⟨hIf,hIn,hb6X,hXW,hrl⟩:=HX.out
        have HFIN:Hid (∀ Y,Fr X Y (fun k=>k=nb)→Y.heap[nb]? = some (.cells #[.int .i64 ((k:Int)+1)] 3 (0,0))→KAll (fun k=>nb+1+2≤k∨nb+1≤k) W6.heap.size X Y∧Fr Wn Y (fun k=>k=nb)∧Y.heap[nb]? = some (.cells #[.int .i64 ((pre++[(⟨xr,xd,xl,xt,xa,xc⟩:Stp)]).length:Int)] 3 (0,0))):=fun Y h1 h2=>⟨kall_of h1 hnz (by omega) hb6X.size,hIf.trans h1 fun _ _ e=>e,by rw [HPL.out,h2];simp⟩
        have n1:=(hg1.below.block _ (blk_lt hIn)).trans hIn
        have cn1:V1.cell? ⟨nb,0,none⟩=some (.int .i64 k):=by rw [cell_of n1];rfl
        have fn1:V1.frozen? ⟨nb,0,none⟩=false:=free_of n1
        obtain ⟨V2,hV2⟩:∃ V2,V2=V1.setCell ⟨nb,0,none⟩ (.int .i64 ((k:Int)+1)):=⟨_,rfl⟩
        have n2:V2.heap[nb]? = some (.cells #[.int .i64 ((k:Int)+1)] 3 (0,0)):=by rw [hV2];exact set_heap n1
        have HV2:Hid (Fr X V2 (fun k=>k=nb)∧V2.heap[nb]? = some (.cells #[.int .i64 ((k:Int)+1)] 3 (0,0))):=⟨(fr_grown hg1 _).trans (by rw [hV2];exact fr_cell) (fun _ _ e=>e),n2⟩
        obtain ⟨h26,hi2⟩:=HIX.out V2 (hIf.trans HV2.out.1 fun _ _ e=>e)
        obtain ⟨f1,f2,f3,f4,f5⟩:=HF.out V2 h26
        have cn2:V2.cell? ⟨nb,0,none⟩=some (.int .i64 ((k:Int)+1)):=by rw [cell_of n2];rfl
        have cl2:V2.cell? ⟨w.heap.size+1,0,none⟩=some (.slice (some ⟨lg,lo,none⟩) ln lc):=by rw [cell_of f1];rfl
        have ci2:V2.cell? ⟨ib,0,none⟩=some (.int .i64 i):=by rw [cell_of hi2];rfl
        have cL2:=HcL.out V2 h26
        have HRL:=Hid.mk' hrl
        clear n1 n2 hg1 hIf hIn hb6X hXW hrl f1 f2 f3 f4 f5 h26 hi2
        gi_wp2
        rw [←hV2]
        clear hV2 cn1 fn1
        have p0:=fun m os=>((Grown.refl V2).quiet m os).cellv cn2
        have p1:=fun m os=>((Grown.refl V2).quiet m os).cellv cl2
        have p2:=fun m os=>((Grown.refl V2).quiet m os).cellv ci2
        have p3:=fun m os=>((Grown.refl V2).quiet m os).cellv cL2
        clear cn2 cl2 ci2 cL2
        by_cases hL:L=(k:Int)+1
        · subst hL
          refine wpIn_region_plain hmx (by kernel_rfl) (by kernel_rfl) ?_
          repeat (go_big_quiet_step (fail))
          refine wpQuiet_nil ?_
          intro _ hw'
          obtain ⟨⟨nq,osq⟩,hw''⟩:=hw'
          subst hw''
          have hg3:Grown V2 (Go.Sort.grow (V2.drewN nq) osq):=(Grown.refl V2).quiet nq osq
          generalize Go.Sort.grow (V2.drewN nq) osq=V3 at *
          clear p0 p1 p2 p3
          have HE3:=Hid.mk' (HFIN.out V3 (HV2.out.1.trans (fr_grown hg3 _) fun _ _ e=>e) ((hg3.below.block _ (blk_lt HV2.out.2)).trans HV2.out.2))
          clear hg3
          gi_wp2
          exact ⟨HE3.out.1,rfl,by rw [HPL.out];simp,HE3.out.2⟩
        · have hLf:((k:Int)+1 == L)=false:=by simp;omega
          have hLf2:decide ((k:Int)+1=L)=false:=by simp;omega
          refine wpIn_region_plain hmx (by kernel_rfl) (by kernel_rfl) ?_
          repeat (go_big_quiet_step (fail))
          refine wpQuiet_nil ?_
          intro _ hw'
          obtain ⟨⟨nq,osq⟩,hw''⟩:=hw'
          subst hw''
          have hg3:Grown V2 (Go.Sort.grow (V2.drewN nq) osq):=(Grown.refl V2).quiet nq osq
          generalize Go.Sort.grow (V2.drewN nq) osq=V3 at *
          clear p0 p1 p2 p3 hLf hLf2
          have HV3:Hid (Fr X V3 (fun k=>k=nb)∧V3.heap[nb]? = some (.cells #[.int .i64 ((k:Int)+1)] 3 (0,0))):=⟨HV2.out.1.trans (fr_grown hg3 _) fun _ _ e=>e,(hg3.below.block _ (blk_lt HV2.out.2)).trans HV2.out.2⟩
          have HE3:=Hid.mk' (HFIN.out V3 HV3.out.1 HV3.out.2)
          have h3:=HIX.out V3 (HX.out.1.trans HV3.out.1 fun _ _ e=>e)
          have ci3:V3.cell? ⟨ib,0,none⟩=some (.int .i64 i):=by rw [cell_of h3.2];rfl
          have cn3:V3.cell? ⟨nb,0,none⟩=some (.int .i64 ((k:Int)+1)):=by rw [cell_of HV3.out.2];rfl
          clear hg3 h3 HV2
          by_cases hi1:1<i
          · have hi1I:(1:Int)<(i:Int):=by omega
            gi_wp2
            exact HE3.out
          · have hi1I:¬ (1:Int)<(i:Int):=by omega
            by_cases hk1:k=1
            · have hk1b:((k:Int)+1 != 2)=false:=by simp;omega
              have h3:=HIX.out V3 (HX.out.1.trans HV3.out.1 fun _ _ e=>e)
              have c8:V3.cell? ⟨B8,0,none⟩=some (.func (.func 35) #[] #[.pointer (some ⟨b1,0,none⟩),.pointer (some ⟨b2,0,none⟩)]):=by rw [cell_of (HF.out V3 h3.1).2.2.1];rfl
              have c8':=fun o=>cell_up c8 o
              have HB3:=Hid.mk' h3.1
              clear h3
              gi_wp2_with fail
              obtain ⟨Vm,hVm⟩:∃ Vm,Vm=V3.alloc (.cells #[.int .i64 0] 3):=⟨_,rfl⟩
              obtain ⟨mb,hmb⟩:∃ mb,mb=V3.heap.size:=⟨_,rfl⟩
              have hsm:Vm.heap.size=mb+1:=by rw [hVm,hmb];simp
              have hm0:Vm.heap[mb]? = some (.cells #[.int .i64 0] 3 (0,0)):=by rw [hVm,hmb];exact heap_alloc_new _ _
              have hgm:Grown V3 Vm:=by rw [hVm];exact (Grown.refl V3).alloc _
              rw [←hVm,←hmb]
              have HMbb:Hid (mb=V3.heap.size∧X.heap.size≤mb):=⟨hmb,by have:=HV3.out.1.size;omega⟩
              have hmz:W6.heap.size≤mb:=by have:=HB3.out.size;omega
              have Hm6:Hid (Below W6.heap.size W6 Vm):=HB3.out.trans (hgm.below.mono HB3.out.size)
              have hFXm:Fr X Vm (fun k=>k=nb):=HV3.out.1.trans (fr_grown hgm _) fun _ _ e=>e
              have hrm:∃ r,Vm.heap[nb+1+1]? = some (.loop r):=by
               exact ⟨_,(hFXm.block _ (blk_lt HRL.out) (by omega)).trans HRL.out⟩
              obtain ⟨r0,hr0⟩:=hrm
              have HEM:Hid (∀ Y,Fr Vm Y (fun k=>k=mb)→KAll (fun k=>nb+1+2≤k∨nb+1≤k) W6.heap.size X Y∧Fr Wn Y (fun k=>k=nb)∧Y.heap[nb]? = some (.cells #[.int .i64 ((pre++[(⟨xr,xd,xl,xt,xa,xc⟩:Stp)]).length:Int)] 3 (0,0))):=fun Y hY=>by
               have q1:=HMbb.out
               have q2:=blk_lt HX.out.2.1
               refine HFIN.out Y (hFXm.trans hY fun k hk e => ?_) ?_
               · have e:k=mb:=e
                 omega
               · have e3:=HV3.out.2
                 have e4:=(hgm.below.block _ (blk_lt e3)).trans e3
                 exact (hY.block _ (blk_lt e4) (fun e=>by have e:nb=mb:=e;omega)).trans e4
              have hVm2:∀ r:Loop,(Vm.alloc (.loop r)).heap.size=mb+1+1:=fun r=>by simp [hsm]
              clear hVm hmb hgm hFXm c8 c8' ci3 cn3 HE3 HV3
              refine wpIn_overN (enc:=encS) (r0:=r0) (by omega) (gf:=35) (pa:=#[]) (lb:=#[.pointer (some ⟨b1,0,none⟩),.pointer (some ⟨b2,0,none⟩)]) hr0 rfl (enters_of Tryz.func35 (by kernel_rfl) rfl) (xf:=xs) (b:=W6.heap.size) (h:=mb+1) (Z:=fun k=>mb+1+1≤k) (E:=fun _=>True) hsm.symm (by omega) (by omega)
               (fun r=>by
                have:=steps1_seq (V:=Vm.alloc (.loop r)) HM6.out (Hm6.out.trans (((Grown.refl Vm).alloc _).below.mono (by omega))) 5 (mb+1) (by omega)
                rw [HXS.out,hVm2 r] at this
                exact this)
               (fun _ _ _=>trivial) (fun _=>rfl)
               (fun pre W=>Fr Vm W (fun k=>k=mb)∧W.heap[mb]? = some (.cells #[.int .i64 pre.length] 3 (0,0)))
               (fun _ _ _=>False)
               (fun pre X Y hX hf=>⟨hX.1.trans hf fun k hk e=>by omega,(hf.block _ (blk_lt hX.2) (by omega)).trans hX.2⟩)
               (fun _ _ _ _ hX _=>hX)
               ⟨Fr.refl _ _,hm0⟩ ?rnd2 ?done2 ?stop2
              case stop2=>intro c pre W _ h;exact h.elim
              case done2=>
               intro W hI _
               have hW6:Below W6.heap.size W6 W:=Hm6.out.trans (hI.1.below (fun k hk=>by have hk:k=mb:=hk;omega) (by omega))
               have cm:W.cell? ⟨mb,0,none⟩=some (.int .i64 N):=by rw [cell_of hI.2,HNN.out];rfl
               have cw:W.cell? ⟨B9,0,none⟩=some (.slice (some ⟨g,0,none⟩) N sc):=by rw [cell_of (HF.out W hW6).2.2.2.1];rfl
               have HE4:=Hid.mk' (HEM.out W hI.1)
               clear hI hW6
               gi_wp2
               exact HE4.out
              case rnd2=>
               as_aux_lemma=>
               intro pre2 z W2 hpre2 hW2
               obtain ⟨hkN3,hxk3⟩:=pre_at hpre2
               obtain ⟨zr,zd,zl,zt,za,zc⟩:=z
               rw [show (#[97]:Array Tmp).zip (encS ⟨zr,zd,zl,zt,za,zc⟩)=#[(97,Value.agg (fs1 ⟨zr,zd,zl,zt,za,zc⟩).toArray)] from zip1 _ _]
               unfold fs1
               gi_wp2
               refine ⟨(Grown.refl _).alloc _,?_⟩
               rintro Y ⟨hJf,hJn⟩ hYs hYk _
               have hcy:Y.heap[W2.heap.size]? = some (.cells #[.int .i64 zr,.int .i64 zd,.int .i64 zl,.int .i64 zt,.int .i64 za,.int .i64 zc] 47 (0,0)):=by rw [hYk _ (by omega)];exact heap_alloc_new W2 _
               have hjN:pre2.length<N:=by rw [←HNN.out];exact hkN3
               have hb6Y:Below W6.heap.size W6 Y:=Hm6.out.trans (hJf.below (fun k hk=>by have hk:k=mb:=hk;omega) (by omega))
               obtain ⟨g2,hsa2,hS2⟩:=HSR.out (by omega)
               injection hsa2 with hsa2
               injection hsa2 with hsa2 _ _
               subst hsa2
               obtain ⟨e0,e1,e2,e3,e4,e5⟩:=hS2 Y hb6Y pre2.length hkN3
               rw [hxk3] at e0 e1 e2 e3 e4 e5
               simp only at e0 e1 e2 e3 e4 e5
               obtain ⟨j,hj2⟩:∃ j,pre2.length=j:=⟨_,rfl⟩
               have HPL2:Hid ((pre2++[(⟨zr,zd,zl,zt,za,zc⟩:Stp)]).length=j+1):=by show _=_;simp [hj2]
               rw [hj2] at hjN e0 e1 e2 e3 e4 e5 hJn
               have hj0:(0:Int)≤(j:Int):=by omega
               have hjI:(j:Int)<(N:Int):=by omega
               have hgj:decide (N≤j)=false:=by simp;omega
               have hgj2:decide ((N:Int)≤(j:Int))=false:=by simp;omega
               have cn:Y.cell? ⟨mb,0,none⟩=some (.int .i64 j):=by rw [cell_of hJn];rfl
               have cw:Y.cell? ⟨B9,0,none⟩=some (.slice (some ⟨g,0,none⟩) N sc):=by rw [cell_of (HF.out Y hb6Y).2.2.2.1];rfl
               have k0:Y.cell? ⟨W2.heap.size,0,none⟩=some (.int .i64 zr):=by rw [cell_of hcy];rfl
               have k1:Y.cell? ⟨W2.heap.size,1,none⟩=some (.int .i64 zd):=by rw [cell_of hcy];rfl
               have k2:Y.cell? ⟨W2.heap.size,2,none⟩=some (.int .i64 zl):=by rw [cell_of hcy];rfl
               have k3:Y.cell? ⟨W2.heap.size,3,none⟩=some (.int .i64 zt):=by rw [cell_of hcy];rfl
               have k4:Y.cell? ⟨W2.heap.size,4,none⟩=some (.int .i64 za):=by rw [cell_of hcy];rfl
               have k5:Y.cell? ⟨W2.heap.size,5,none⟩=some (.int .i64 zc):=by rw [cell_of hcy];rfl
               have hns:=fun W=>neq_stp2 W zr zd zl zt za zc
               have HY:=Hid.mk' (And.intro hJf (And.intro hJn hb6Y))
               clear hcy hYs hYk hJf hJn hb6Y hpre2 hxk3 hS2
               have p0:=fun m os=>((Grown.refl Y).quiet m os).cellv cn
               have p1:=fun m os=>((Grown.refl Y).quiet m os).cellv cw
               have p2:=fun m os=>((Grown.refl Y).quiet m os).cellv k0
               have p3:=fun m os=>((Grown.refl Y).quiet m os).cellv k1
               have p4:=fun m os=>((Grown.refl Y).quiet m os).cellv k2
               have p5:=fun m os=>((Grown.refl Y).quiet m os).cellv k3
               have p6:=fun m os=>((Grown.refl Y).quiet m os).cellv k4
               have p7:=fun m os=>((Grown.refl Y).quiet m os).cellv k5
               have q0:=fun m os=>((Grown.refl Y).quiet m os).cellv e0
               have q1:=fun m os=>((Grown.refl Y).quiet m os).cellv e1
               have q2:=fun m os=>((Grown.refl Y).quiet m os).cellv e2
               have q3:=fun m os=>((Grown.refl Y).quiet m os).cellv e3
               have q4:=fun m os=>((Grown.refl Y).quiet m os).cellv e4
               have q5:=fun m os=>((Grown.refl Y).quiet m os).cellv e5
               clear e0 e1 e2 e3 e4 e5 k0 k1 k2 k3 k4 k5 cn cw
               gi_wp2
               refine wpIn_region_plain hmx (by kernel_rfl) (by kernel_rfl) ?_
               repeat (go_big_quiet_step (fail))
               refine wpQuiet_nil ?_
               intro _ hw'
               obtain ⟨⟨nq,osq⟩,hw''⟩:=hw'
               subst hw''
               have hg1:Grown Y (Go.Sort.grow (Y.drewN nq) osq):=(Grown.refl Y).quiet nq osq
               generalize Go.Sort.grow (Y.drewN nq) osq=Y1 at *
               clear p0 p1 p2 p3 p4 p5 p6 p7 q0 q1 q2 q3 q4 q5 hns
               obtain ⟨hJf,hJn,hb6Y⟩:=HY.out
               have n1:=(hg1.below.block _ (blk_lt hJn)).trans hJn
               have cn1:Y1.cell? ⟨mb,0,none⟩=some (.int .i64 j):=by rw [cell_of n1];rfl
               have fn1:Y1.frozen? ⟨mb,0,none⟩=false:=free_of n1
               have HE5:Hid (Fr Y (Y1.setCell ⟨mb,0,none⟩ (.int .i64 ((j:Int)+1))) (fun k=>k=mb)∧(Y1.setCell ⟨mb,0,none⟩ (.int .i64 ((j:Int)+1))).heap[mb]? = some (.cells #[.int .i64 ((pre2++[(⟨zr,zd,zl,zt,za,zc⟩:Stp)]).length:Int)] 3 (0,0))):=⟨(fr_grown hg1 _).trans fr_cell fun _ _ e=>e,by rw [set_heap n1,HPL2.out];simp⟩
               have hyz:=hb6Y.size
               clear n1 hg1 hJn
               gi_wp2
               exact ⟨kall_of1 HE5.out.1 hmz (by omega) hyz,hJf.trans HE5.out.1 fun _ _ e=>e,HE5.out.2⟩
            · have hk1I:¬ (k:Int)+1=2:=by omega
              gi_wp2
              exact HE3.out
       case stop=>
        as_aux_lemma=>
        rintro D c pre W hD hpre ⟨rfl,hpl,hI,hIn⟩ hK
        obtain ⟨k,hk2⟩:∃ k,pre.length=k:=⟨_,rfl⟩
        have hk3:1≤k:=by have:=List.length_pos_iff.2 hpre.2;omega
        have hk4:k≤N:=by have:=hpre.1.length_le;rw [←HNN.out];omega
        rw [hk2] at hpl hIn
        subst hpl
        have cn:W.cell? ⟨nb,0,none⟩=some (.int .i64 k):=by rw [cell_of hIn];rfl
        have d1:¬ (k:Int)<1:=by omega
        have d2:¬ (N:Int)<(k:Int):=by omega
        have d3:decide (k<1)=false:=by simp;omega
        have d4:decide (N<k)=false:=by simp;omega
        have d5:decide ((k:Int)<1)=false:=by simp;omega
        have d6:decide ((N:Int)<(k:Int))=false:=by simp;omega
        clear hIn hpre
        have h6:=HIX.out W hI
        obtain ⟨f1,f2,f3,f4,f5⟩:=HF.out W h6.1
        have cl:W.cell? ⟨w.heap.size+1,0,none⟩=some (.slice (some ⟨lg,lo,none⟩) ln lc):=by rw [cell_of f1];rfl
        have ci:W.cell? ⟨ib,0,none⟩=some (.int .i64 i):=by rw [cell_of h6.2];rfl
        have cw:W.cell? ⟨B9,0,none⟩=some (.slice sa N sc):=by rw [cell_of f4];rfl
        have cL:=HcL.out W h6.1
        have HWI:=Hid.mk' (And.intro hI (And.intro hD (And.intro hK h6.2)))
        clear f1 f2 f3 f4 f5 h6
        have p0:=fun m os=>((Grown.refl W).quiet m os).cellv cl
        have p1:=fun m os=>((Grown.refl W).quiet m os).cellv ci
        have p2:=fun m os=>((Grown.refl W).quiet m os).cellv cw
        have p3:=fun m os=>((Grown.refl W).quiet m os).cellv cL
        have p4:=fun m os=>((Grown.refl W).quiet m os).cellv cn
        clear cl ci cw cL cn hI hD hK
        gi_wp2
        refine wpIn_region_plain hmx (by kernel_rfl) (by kernel_rfl) ?_
        repeat (go_big_quiet_step (fail))
        refine wpQuiet_nil ?_
        intro _ hw'
        obtain ⟨⟨nq,osq⟩,hw''⟩:=hw'
        subst hw''
        have hgv:Grown W (Go.Sort.grow (W.drewN nq) osq):=(Grown.refl W).quiet nq osq
        generalize Go.Sort.grow (W.drewN nq) osq=V at *
        clear p0 p1 p2 p3 p4
        have hiv:=(hgv.below.block _ (blk_lt HWI.out.2.2.2)).trans HWI.out.2.2.2
        have civ:V.cell? ⟨ib,0,none⟩=some (.int .i64 i):=by rw [cell_of hiv];rfl
        have HL6:=Hid.mk' (HI.out.next HNb.out HGn.out HWI.out.1 hsn HWI.out.2.1 HWI.out.2.2.1 hgv)
        clear hgv hiv
        gi_wp2
        exact ⟨kk - 1,by omega,LpR.mk (Ds:=D::Ds) (kk - 1) (i+1) V.heap.size _ _ _ _ _ _ _ _ _ _ _ _ _ _ _ _ _ _ _ _ _ _ _ _ _ _ _ _ _ _ _ _ _ _ _ _ _ _ _ _ _ _ _ _ _ _ _ _ _ _ _ _ _ _ _ _ _ _ _ _ _ _ _ _ _ _ _ _ _ _ _ _ _ _ _ _ _ _ _ _ _ _ _ _ _ _ _ _ _ _ _ _ _ _ _ _ _ _ _ _ _ _ _ _ _ _ _ _ _ _ _ _ _ _ _ _ _ _ _ _ _ _ _ _ _ _ _ _ _ _ _ _ _ _ _ _ _ _ _ _ _ _ _ _ _ _ _ _ _ _ _ _ HL6 (by omega)⟩
       case done=>
        as_aux_lemma=>
        rintro D W hD ⟨hI,hIn⟩ _ hK
        have cn:W.cell? ⟨nb,0,none⟩=some (.int .i64 N):=by rw [cell_of hIn,HNN.out];rfl
        clear hIn
        have h6:=HIX.out W hI
        obtain ⟨f1,f2,f3,f4,f5⟩:=HF.out W h6.1
        have cl:W.cell? ⟨w.heap.size+1,0,none⟩=some (.slice (some ⟨lg,lo,none⟩) ln lc):=by rw [cell_of f1];rfl
        have ci:W.cell? ⟨ib,0,none⟩=some (.int .i64 i):=by rw [cell_of h6.2];rfl
        have cw:W.cell? ⟨B9,0,none⟩=some (.slice sa N sc):=by rw [cell_of f4];rfl
        have cL:=HcL.out W h6.1
        have HWI:=Hid.mk' (And.intro hI (And.intro hD (And.intro hK h6.2)))
        clear f1 f2 f3 f4 f5 h6
        have p0:=fun m os=>((Grown.refl W).quiet m os).cellv cl
        have p1:=fun m os=>((Grown.refl W).quiet m os).cellv ci
        have p2:=fun m os=>((Grown.refl W).quiet m os).cellv cw
        have p3:=fun m os=>((Grown.refl W).quiet m os).cellv cL
        have p4:=fun m os=>((Grown.refl W).quiet m os).cellv cn
        clear cl ci cw cL cn hI hD hK
        gi_wp2
        rcases (show L<1∨(¬ L<1∧(N:Int)<L)∨(¬ L<1∧¬ (N:Int)<L) by omega) with d1 | ⟨d1,d3⟩ | ⟨d1,d3⟩
        all_goals
         first | (have d2:=decide_eq_true d1) | (have d2:=decide_eq_false d1)
         first | (have d4:=decide_eq_true d3) | (have d4:=decide_eq_false d3) | skip
         refine wpIn_region_plain hmx (by kernel_rfl) (by kernel_rfl) ?_
         repeat (go_big_quiet_step (fail))
         refine wpQuiet_nil ?_
         intro _ hw'
         obtain ⟨⟨nq,osq⟩,hw''⟩:=hw'
         subst hw''
         have hgv:Grown W (Go.Sort.grow (W.drewN nq) osq):=(Grown.refl W).quiet nq osq
         generalize Go.Sort.grow (W.drewN nq) osq=V at *
         clear p0 p1 p2 p3 p4
         have hiv:=(hgv.below.block _ (blk_lt HWI.out.2.2.2)).trans HWI.out.2.2.2
         have civ:V.cell? ⟨ib,0,none⟩=some (.int .i64 i):=by rw [cell_of hiv];rfl
         have HL6:=Hid.mk' (HI.out.next HNb.out HGn.out HWI.out.1 hsn HWI.out.2.1 HWI.out.2.2.1 hgv)
         clear hgv hiv
         gi_wp2
         exact ⟨kk - 1,by omega,LpR.mk (Ds:=D::Ds) (kk - 1) (i+1) V.heap.size _ _ _ _ _ _ _ _ _ _ _ _ _ _ _ _ _ _ _ _ _ _ _ _ _ _ _ _ _ _ _ _ _ _ _ _ _ _ _ _ _ _ _ _ _ _ _ _ _ _ _ _ _ _ _ _ _ _ _ _ _ _ _ _ _ _ _ _ _ _ _ _ _ _ _ _ _ _ _ _ _ _ _ _ _ _ _ _ _ _ _ _ _ _ _ _ _ _ _ _ _ _ _ _ _ _ _ _ _ _ _ _ _ _ _ _ _ _ _ _ _ _ _ _ _ _ _ _ _ _ _ _ _ _ _ _ _ _ _ _ _ _ _ _ _ _ _ _ _ _ _ _ HL6 (by omega)⟩
     · have hend:Hid (∀ (D:Nat) (W:World),wr.heap.size+1≤D→Fr (wr.alloc (.cells #[.int .i64 0] 3)) W (fun k=>k=wr.heap.size)→W.heap[D]? = some (.deferred (some []))→W.heap[w.heap.size+1+1]? = some (.cells #[.bool false] 4 (0,0))∧(D::Ds).Nodup∧(∀ E∈D::Ds,W6.heap.size≤E∧W.heap[E]? = some (.deferred (some [])))∧Below W6.heap.size W6 W):=fun D W hD hf hK=>by
        obtain ⟨l1,l2,l3,l4,l5⟩:=HI.out
        have hga:Grown wr (wr.alloc (.cells #[.int .i64 0] 3)):=(Grown.refl wr).alloc _
        have h6:Below W6.heap.size W6 W:=(l1.trans (hga.below.mono l1.size)).trans (hf.below (fun k hk=>by have hk:k=wr.heap.size:=hk;omega) (by simp;omega))
        refine ⟨(HF.out W h6).2.1,?_,fun E hE => ?_,h6⟩
        · rw [List.nodup_cons]
          refine ⟨fun hm => ?_,l4⟩
          have:=blk_lt (l5 D hm).2
          omega
        · simp only [List.mem_cons] at hE
          rcases hE with rfl | hE
          · exact ⟨by omega,hK⟩
          · obtain ⟨e1,e2⟩:=l5 E hE
            have e3:=blk_lt e2
            refine ⟨e1,?_⟩
            rw [hf.block E (by simp;omega) (by omega)]
            exact (hga.below.block _ e3).trans e2
       have hsplit:(i:Int)<(ln:Int)∧¬ (i:Int)<12∨¬ (i:Int)<(ln:Int):=by omega
       clear hlt
       rcases hsplit with ⟨d1,d2⟩ | d1
       all_goals
        first | (have d3:=decide_eq_true d1) | (have d3:=decide_eq_false d1)
        first | (have d4:=decide_eq_false d2) | skip
        first | (have d5:decide (i<ln)=true:=decide_eq_true (by omega)) | (have d5:decide (i<ln)=false:=decide_eq_false (by omega))
        first | (have d6:decide (i<12)=false:=decide_eq_false (by omega)) | skip
        gi_wp2_with fail
        obtain ⟨Wn,hWn⟩:∃ Wn,Wn=wr.alloc (.cells #[.int .i64 0] 3):=⟨_,rfl⟩
        obtain ⟨nb,hnb⟩:∃ nb,nb=wr.heap.size:=⟨_,rfl⟩
        have hsn:Wn.heap.size=nb+1:=by rw [hWn,hnb];simp
        have hn0:Wn.heap[nb]? = some (.cells #[.int .i64 0] 3 (0,0)):=by rw [hWn,hnb];exact heap_alloc_new _ _
        have hgn:Grown wr Wn:=by rw [hWn];exact (Grown.refl wr).alloc _
        rw [←hWn,←hnb]
        rw [←hWn,←hnb] at hend
        have hnz:W6.heap.size≤nb:=by omega
        have Hn6:Hid (Below W6.heap.size W6 Wn):=HI.out.1.trans (hgn.below.mono hzr)
        clear hWn hgn c12 c5 c8 c8' hir
        have HIX:Hid (∀ X,Fr Wn X (fun k=>k=nb)→Below W6.heap.size W6 X):=fun X hX=>Hn6.out.trans (hX.below (fun k hk=>by have hk:k=nb:=hk;omega) (by omega))
        have hVs:∀ r:Loop,((Wn.alloc (.deferred (some []))).alloc (.loop r)).heap.size=nb+1+2:=fun r=>by simp [hsn]
        have HNb:Hid (nb=wr.heap.size):=hnb
        clear hnb hzr
        refine wpIn_overQ (enc:=encS) (by omega) (gf:=35) (pa:=#[]) (lb:=#[.pointer (some ⟨b1,0,none⟩),.pointer (some ⟨b2,0,none⟩)]) rfl (enters_of Tryz.func35 (by kernel_rfl) rfl) (xf:=xs) (b:=W6.heap.size) (h:=nb+1) (Z:=fun k=>nb+1+2≤k) (E:=fun _=>True) hsn.symm (by omega) (by omega) (by omega)
         (fun r=>by
          have:=steps1_seq (V:=(Wn.alloc (.deferred (some []))).alloc (.loop r)) HM6.out (Hn6.out.trans ((((Grown.refl Wn).alloc _).alloc _).below.mono (by omega))) 7 (nb+1+1) (by omega)
          rw [HXS.out,hVs r] at this
          exact this)
         (fun _ _ _=>trivial) (fun _=>rfl)
         (fun pre W=>Fr Wn W (fun k=>k=nb)∧W.heap[nb]? = some (.cells #[.int .i64 pre.length] 3 (0,0)))
         (fun _ _ _=>False)
         (fun pre X Y hX hf=>⟨hX.1.trans hf fun k hk e=>by omega,(hf.block _ (blk_lt hX.2) (by omega)).trans hX.2⟩)
         (fun _ _ _ _ hX _=>hX)
         ⟨Fr.refl _ _,hn0⟩ ?rnd ?done ?stop
        case stop=>intro _ _ _ _ _ _ h;exact h.elim
        case rnd=>
         as_aux_lemma=>
         intro pre2 z W2 hpre2 hW2
         obtain ⟨hkN3,hxk3⟩:=pre_at hpre2
         obtain ⟨zr,zd,zl,zt,za,zc⟩:=z
         rw [show (#[138]:Array Tmp).zip (encS ⟨zr,zd,zl,zt,za,zc⟩)=#[(138,Value.agg (fs1 ⟨zr,zd,zl,zt,za,zc⟩).toArray)] from zip1 _ _]
         unfold fs1
         gi_wp2
         refine ⟨(Grown.refl _).alloc _,?_⟩
         rintro Y ⟨hJf,hJn⟩ hYs hYk _
         have hcy:Y.heap[W2.heap.size]? = some (.cells #[.int .i64 zr,.int .i64 zd,.int .i64 zl,.int .i64 zt,.int .i64 za,.int .i64 zc] 47 (0,0)):=by rw [hYk _ (by omega)];exact heap_alloc_new W2 _
         have hjN:pre2.length<N:=by rw [←HNN.out];exact hkN3
         have hb6Y:Below W6.heap.size W6 Y:=HIX.out Y hJf
         obtain ⟨g,hsa2,hS2⟩:=HSR.out (by omega)
         subst hsa2
         obtain ⟨e0,e1,e2,e3,e4,e5⟩:=hS2 Y hb6Y pre2.length hkN3
         rw [hxk3] at e0 e1 e2 e3 e4 e5
         simp only at e0 e1 e2 e3 e4 e5
         obtain ⟨j,hj2⟩:∃ j,pre2.length=j:=⟨_,rfl⟩
         have HPL2:Hid ((pre2++[(⟨zr,zd,zl,zt,za,zc⟩:Stp)]).length=j+1):=by show _=_;simp [hj2]
         rw [hj2] at hjN e0 e1 e2 e3 e4 e5 hJn
         have hj0:(0:Int)≤(j:Int):=by omega
         have hjI:(j:Int)<(N:Int):=by omega
         have hgj:decide (N≤j)=false:=by simp;omega
         have hgj2:decide ((N:Int)≤(j:Int))=false:=by simp;omega
         have cn:Y.cell? ⟨nb,0,none⟩=some (.int .i64 j):=by rw [cell_of hJn];rfl
         have cw:Y.cell? ⟨B9,0,none⟩=some (.slice (some ⟨g,0,none⟩) N sc):=by rw [cell_of (HF.out Y hb6Y).2.2.2.1];rfl
         have k0:Y.cell? ⟨W2.heap.size,0,none⟩=some (.int .i64 zr):=by rw [cell_of hcy];rfl
         have k1:Y.cell? ⟨W2.heap.size,1,none⟩=some (.int .i64 zd):=by rw [cell_of hcy];rfl
         have k2:Y.cell? ⟨W2.heap.size,2,none⟩=some (.int .i64 zl):=by rw [cell_of hcy];rfl
         have k3:Y.cell? ⟨W2.heap.size,3,none⟩=some (.int .i64 zt):=by rw [cell_of hcy];rfl
         have k4:Y.cell? ⟨W2.heap.size,4,none⟩=some (.int .i64 za):=by rw [cell_of hcy];rfl
         have k5:Y.cell? ⟨W2.heap.size,5,none⟩=some (.int .i64 zc):=by rw [cell_of hcy];rfl
         have hns:=fun W=>neq_stp2 W zr zd zl zt za zc
         have HY:=Hid.mk' (And.intro hJf (And.intro hJn hb6Y))
         clear hcy hYs hYk hJf hJn hb6Y hpre2 hxk3 hS2
         have p0:=fun m os=>((Grown.refl Y).quiet m os).cellv cn
         have p1:=fun m os=>((Grown.refl Y).quiet m os).cellv cw
         have p2:=fun m os=>((Grown.refl Y).quiet m os).cellv k0
         have p3:=fun m os=>((Grown.refl Y).quiet m os).cellv k1
         have p4:=fun m os=>((Grown.refl Y).quiet m os).cellv k2
         have p5:=fun m os=>((Grown.refl Y).quiet m os).cellv k3
         have p6:=fun m os=>((Grown.refl Y).quiet m os).cellv k4
         have p7:=fun m os=>((Grown.refl Y).quiet m os).cellv k5
         have q0:=fun m os=>((Grown.refl Y).quiet m os).cellv e0
         have q1:=fun m os=>((Grown.refl Y).quiet m os).cellv e1
         have q2:=fun m os=>((Grown.refl Y).quiet m os).cellv e2
         have q3:=fun m os=>((Grown.refl Y).quiet m os).cellv e3
         have q4:=fun m os=>((Grown.refl Y).quiet m os).cellv e4
         have q5:=fun m os=>((Grown.refl Y).quiet m os).cellv e5
         clear e0 e1 e2 e3 e4 e5 k0 k1 k2 k3 k4 k5 cn cw
         gi_wp2
         refine wpIn_region_plain hmx (by kernel_rfl) (by kernel_rfl) ?_
         repeat (go_big_quiet_step (fail))
         refine wpQuiet_nil ?_
         intro _ hw'
         obtain ⟨⟨nq,osq⟩,hw''⟩:=hw'
         subst hw''
         have hg1:Grown Y (Go.Sort.grow (Y.drewN nq) osq):=(Grown.refl Y).quiet nq osq
         generalize Go.Sort.grow (Y.drewN nq) osq=Y1 at *
         clear p0 p1 p2 p3 p4 p5 p6 p7 q0 q1 q2 q3 q4 q5 hns
         obtain ⟨hJf,hJn,hb6Y⟩:=HY.out
         have n1:=(hg1.below.block _ (blk_lt hJn)).trans hJn
         have cn1:Y1.cell? ⟨nb,0,none⟩=some (.int .i64 j):=by rw [cell_of n1];rfl
         have fn1:Y1.frozen? ⟨nb,0,none⟩=false:=free_of n1
         have HE5:Hid (Fr Y (Y1.setCell ⟨nb,0,none⟩ (.int .i64 ((j:Int)+1))) (fun k=>k=nb)∧(Y1.setCell ⟨nb,0,none⟩ (.int .i64 ((j:Int)+1))).heap[nb]? = some (.cells #[.int .i64 ((pre2++[(⟨zr,zd,zl,zt,za,zc⟩:Stp)]).length:Int)] 3 (0,0))):=⟨(fr_grown hg1 _).trans fr_cell fun _ _ e=>e,by rw [set_heap n1,HPL2.out];simp⟩
         have hyz:=hb6Y.size
         clear n1 hg1 hJn
         gi_wp2
         exact ⟨kall_of HE5.out.1 hnz (by omega) hyz,hJf.trans HE5.out.1 fun _ _ e=>e,HE5.out.2⟩
        case done=>
         rintro D W hD ⟨hI,hIn⟩ _ hK
         have cn:W.cell? ⟨nb,0,none⟩=some (.int .i64 N):=by rw [cell_of hIn,HNN.out];rfl
         have cw:W.cell? ⟨B9,0,none⟩=some (.slice sa N sc):=by rw [cell_of (HF.out W (HIX.out W hI)).2.2.2.1];rfl
         obtain ⟨hr,hnd,hmk,h6⟩:=hend.out D W hD hI hK
         have cr:W.cell? ⟨w.heap.size+1+1,0,none⟩=some (.bool false):=by rw [cell_of hr];rfl
         have fr:W.frozen? ⟨w.heap.size+1+1,0,none⟩=false:=free_of hr
         have HWW:=Hid.mk' (And.intro hr (And.intro hnd (And.intro hmk h6)))
         clear hr hnd hmk h6 hI hIn hK
         gi_wp2
         refine leaves_marks (base:=W6.heap.size) (D::Ds) _ HWW.out.2.1 (fun E hE => ?_) (fun W' hk hb => ?_)
         · obtain ⟨e1,e2⟩:=HWW.out.2.2.1 E hE
           exact ⟨e1,(Below.heap_setCell W ⟨w.heap.size+1+1,0,none⟩ _ E (by have:=HZ6.out;show E≠w.heap.size+1+1;omega)).trans e2⟩
         · have hR:=set_heap (j:=0) (u:=Value.bool true) HWW.out.1
           have hR3:=(hb.block (w.heap.size+1+1) (by have:=HZ6.out;omega)).trans hR
           have c0:W'.cell? ⟨w.heap.size+1+1,0,none⟩=some (.bool true):=(cell_of hR3).trans rfl
           refine ⟨.bool true,?_,rfl,?_⟩
           · have hr:Tryz.f4.results=#[.cell 6 4]:=rfl
             simp only [results,hr]
             simp [go_sem,c0]
           · have hbw:Below w.heap.size w W:=HW6.out.trans (HWW.out.2.2.2.mono HW6.out.size)
             exact (Below.setCell (p:=⟨w.heap.size+1+1,0,none⟩) hbw (by show _≤w.heap.size+1+1;omega) _).trans (hb.mono HW6.out.size)
  · rw [hE] at hs4
    rcases hs4 with ⟨_,rfl⟩ | ⟨he0,_⟩
    rotate_left
    · exact absurd he0 hE0
    have hE3:(E == 0)=false:=by simpa using hE0
    obtain ⟨X8,hX8⟩:∃ X8,X8=W4.alloc (.cells #[.nilFunc] 40):=⟨_,rfl⟩
    obtain ⟨B8,hB8⟩:∃ B8,B8=W4.heap.size:=⟨_,rfl⟩
    have hg8:Grown W4 X8:=by rw [hX8];exact (Grown.refl W4).alloc _
    have h8:X8.heap[B8]? = some (.cells #[.nilFunc] 40 (0,0)):=by rw [hX8,hB8];exact heap_alloc_new _ _
    have HB38:Hid (Below W3.heap.size W3 X8):=HB4.out.trans (hg8.below.mono HB4.out.size)
    have d4:X8.cell? ⟨w.heap.size,0,none⟩=some (.slice va n vc):=by rw [cell_of (HR.out X8 (HNE.out _ HB38.out)).1];rfl
    have HBB:Hid (W3.heap.size≤B8∧B8+1=X8.heap.size):=by
     have:=HB4.out.size
     exact ⟨by omega,by rw [hX8,hB8];simp⟩
    unfold RStQ at H14
    rw [HE.out] at H14
    rw [if_neg hE0] at H14
    rw [hX8] at d4
    gi_wp2_with fail
    rw [←hX8,←hB8]
    rw [←hX8] at d4
    have HX8:=Hid.mk' h8
    clear hX8 hB8 hg8 h8 d4
    refine ⟨trivial,?_⟩
    refine (callsIn_wide.2 (H14.out X8 (HW0.out _ (HNE.out _ HB38.out)))).mono ?_
    rintro e W5 ⟨sv,rfl,hO5,hb5⟩
    obtain ⟨sa,sc,hsv⟩:=hO5.ssl
    have HB35:Hid (Below W3.heap.size W3 W5):=HB38.out.trans (hb5.mono HB38.out.size)
    have h85:=(hb5.block _ (blk_lt HX8.out)).trans HX8.out
    have hz5:=hb5.size
    simp only [List.length_nil] at hsv
    subst hsv
    clear hO5 hb5 H14
    obtain ⟨X9,hX9⟩:∃ X9,X9=W5.alloc (.cells #[.slice sa 0 sc] 43):=⟨_,rfl⟩
    have hg9:Grown W5 X9:=by rw [hX9];exact (Grown.refl W5).alloc _
    have h89:=(hg9.below.block _ (blk_lt h85)).trans h85
    have HB39:Hid (Below W3.heap.size W3 X9):=HB35.out.trans (hg9.below.mono HB35.out.size)
    have c8:X9.cell? ⟨B8,0,none⟩=some .nilFunc:=by rw [cell_of h89];rfl
    have c9:X9.cell? ⟨w.heap.size,0,none⟩=some (.slice va n vc):=by rw [cell_of (HR.out X9 (HNE.out _ HB39.out)).1];rfl
    have hnf:∀ W,(binOp .neq 40 .nilFunc .nilFunc).run Tryz.prog W = .ok (.bool false) W:=fun W=>by kernel_rfl
    have hnf2:∀ W,(binOp .eql 40 .nilFunc .nilFunc).run Tryz.prog W = .ok (.bool true) W:=fun W=>by kernel_rfl
    have H89:=Hid.mk' h89
    rw [hX9] at c8 c9
    gi_wp2_with fail
    rw [←hX9]
    clear hX9 hg9 h89 h85 c8 c9
    refine ⟨trivial,?_⟩
    refine (callsIn_wide.2 (HSL.out X9 HB39.out)).mono ?_
    rintro e W6 ⟨rfl,hf6⟩
    have hs8:=HBB.out
    have hbs:=HBS.out
    have h68:=(hf6.block _ (blk_lt H89.out) (by omega)).trans H89.out
    have hb06:Below W0.heap.size W0 W6:=(HNE.out _ HB39.out).trans (hf6.below (fun k hk=>by omega) (by have:=(HNE.out _ HB39.out).size;omega))
    obtain ⟨f1,c1,c0,hE1⟩:=HRet.out W6 hb06
    have c8:W6.cell? ⟨B8,0,none⟩=some .nilFunc:=by rw [cell_of h68];rfl
    have HE1:=Hid.mk' hE1
    clear hE1 hb06 h68 hf6 hs8 hbs
    gi_wp2
    refine ⟨.bool true,?_,rfl,HE1.out⟩
    have hr:Tryz.f4.results=#[.cell 6 4]:=rfl
    simp only [results,hr]
    simp [go_sem,c0]
end Go.Proofs
