/-
  Several texts in one (X8k X9k U0k).
-/
import Derived.Test.YtknaoahokopplaaGreatDoorX7k
import Derived.Deep.RegionLaw
namespace Go.Proofs
open Go.RowKit Go.Shelf
set_option maxRecDepth 100000
attribute [local go_sem] Oper.semAt_some
noncomputable def resW (q:Nat) (l:List It):List ByteArray:=((l.take q).map texS++(if q<l.length then [⟨#[124]⟩]++(l.drop q).map texS else []))++[⟨#[59]⟩]
set_option maxHeartbeats 8000000 in
theorem resultWords_any (d:Nat) (k a:Int) (t:ByteArray) (bg en:Bool) (s1 s2 s3:SL) (A4:Option Addr) (n4 c4 q:Nat) (rs:List It) (w:World) (hE:Env w) (h4:RowCk d 386 w ⟨A4,n4,c4⟩ rs) (hq:q≤n4) (hc:n4≤c4) :
 Calls Tryz.prog 71 #[mla ⟨k,a,t,bg,en,s1,s2,s3,⟨A4,n4,c4⟩,(q:Int)⟩] w fun x w'=>∃ v,x = .returned v∧OwnX w' (w.heap.size+1) v (resW q rs)∧Below w.heap.size w w':=by
 have e4:n4=rs.length:=h4.1.len
 have hn:n4≤512:=by have:=h4.2.1;omega
 obtain ⟨T1,hT1⟩:∃ T1,(rs.take q).map texS=T1:=⟨_,rfl⟩
 obtain ⟨T2,hT2⟩:∃ T2,(rs.drop q).map texS=T2:=⟨_,rfl⟩
 have HT:Hid ((T1.length≤512∧T2.length≤512)∧resW q rs=(T1++(if q<n4 then [⟨#[124]⟩]++T2 else []))++[⟨#[59]⟩]):=⟨⟨by rw [←hT1,List.length_map,List.length_take];omega,by rw [←hT2,List.length_map,List.length_drop];omega⟩,by rw [resW,hT1,hT2,←e4]⟩
 have HC1:Hid (∀ wr,Below w.heap.size w wr→Calls Tryz.prog 119 #[.slice A4 q c4] wr fun x w'=>∃ v,x = .returned v∧OwnX w' wr.heap.size v T1∧Below wr.heap.size wr w'):=fun wr hb=>by
  rw [←hT1]
  exact texts_row ((h4.1.take q hq).ck (ck_below hb)) (by rw [List.length_take];omega) (fun i hi=>h4.2.2 i (List.mem_of_mem_take hi)) (hE.below hb)
 have HC2:Hid (q<n4→∃ g z,A4=some ⟨g,z,none⟩∧∀ wr,Below w.heap.size w wr→Calls Tryz.prog 119 #[.slice (some ⟨g,z+q*8,none⟩) (n4 - q) (c4 - q)] wr fun x w'=>∃ v,x = .returned v∧OwnX w' wr.heap.size v T2∧Below wr.heap.size wr w'):=fun hlt=>by
  have h41:=h4.1
  obtain ⟨ms,⟨_,_,hr⟩,_⟩:=h4.1
  have hr:n4=0∨∃ g z,A4=some ⟨g,z,none⟩∧ReadsI w g z ms:=hr
  obtain ⟨g,z,rfl,_⟩:=hr.resolve_left (by omega)
  refine ⟨g,z,rfl,fun wr hb => ?_⟩
  rw [←hT2]
  exact texts_row ((h41.drop q hq).ck (ck_below hb)) (by rw [List.length_drop];omega) (fun i hi=>h4.2.2 i (List.mem_of_mem_drop hi)) (hE.below hb)
 have H68:Hid (∀ W,(Calls Tryz.prog 68 #[.int .i64 14] W fun e w'=>e = .returned (.string ⟨#[124]⟩)∧w'=W)∧(Calls Tryz.prog 68 #[.int .i64 11] W fun e w'=>e = .returned (.string ⟨#[59]⟩)∧w'=W)):=fun W=>⟨sign_r 14 124 (by decide +kernel) W,sign_r 11 59 (by decide +kernel) W⟩
 have HS0:Hid (SWd w (w.alloc (.cells (ml1 ⟨k,a,t,bg,en,s1,s2,s3,⟨A4,n4,c4⟩,(q:Int)⟩).toArray 44)) ⟨k,a,t,bg,en,s1,s2,s3,⟨A4,n4,c4⟩,(q:Int)⟩ (.slice none 0 0) []):=SWd.new _ _
 have hqc:q≤c4:=by omega
 have hqI:(q:Int)≤(c4:Int):=by omega
 have hq0:(0:Int)≤(q:Int):=by omega
 have HN:Hid (A4=none→n4=0):=fun e=>by
  obtain ⟨ms,⟨_,_,hr⟩,_⟩:=h4.1
  rcases hr with hr | ⟨g,z,e2,_⟩
  · exact hr
  · have e2:A4=some _:=e2
    rw [e] at e2
    cases e2
 clear hE e4 hT1 hT2
 clear h4
 go_enter Tryz.func71,Tryz.ntmps71
 obtain ⟨k0,k1,k2,k3,k4,k5,k6,k7,k8,k9⟩:=HS0.out.lb.cells
 go_wp2_with fail
 refine (HC1.out _ HS0.out.bl).mono ?_
 rintro x w2 ⟨y,rfl,hO,hb⟩
 have hs2:=HS0.out.after hb
 have HS:Hid (SWd w w2 ⟨k,a,t,bg,en,s1,s2,s3,⟨A4,n4,c4⟩,(q:Int)⟩ y T1):=⟨hs2.lb,hs2.bl,hO.le (by simp),hs2.sz⟩
 clear hs2 hO hb HS0 k0 k1 k2 k3 k4 k5 k6 k7 k8 k9 HC1 hqI
 obtain ⟨k0,k1,k2,k3,k4,k5,k6,k7,k8,k9⟩:=HS.out.lb.cells
 go_upto_if 15 with fail
 clear k0 k1 k2 k3 k4 k5 k6 k7 k8 k9
 go_cut [3] (fun v3 wx=>Hid (SWd w wx ⟨k,a,t,bg,en,s1,s2,s3,⟨A4,n4,c4⟩,(q:Int)⟩ v3 (T1++(if q<n4 then [⟨#[124]⟩]++T2 else []))))
 case first=>
  have hzX:=HS.out.sz
  have hT:=HT.out.1
  by_cases hlt:q<n4
  · have dn:decide ((q:Int)<(n4:Int))=true:=by simpa using hlt
    obtain ⟨g,z,hA,hC⟩:=HC2.out hlt
    subst hA
    have HC:=Hid.mk2 hC
    have hqn:(q:Int)≤(n4:Int):=by omega
    clear hC HC2
    go_wp2_with fail
    refine (H68.out _).1.mono ?_
    rintro x w4 ⟨rfl,rfl⟩
    go_upto_region 4 with (first | (at_builtin;go_must (refine push_XX rfl _ _ rfl (w.heap.size+1) _ T1 rfl (HS.out.alloc _).own _ [⟨#[124]⟩] rfl (RdT.new (by simp)) (by first | (simp;done) | (simp;omega) | omega) (by first | (simp;done) | (simp;omega) | omega) ?_);intro A8 n8 c8 w8 hO8 hg8) | fail)
    have H8:=Hid.mk2 ((HS.out.alloc _).app hO8 hg8)
    clear hO8 hg8 HS
    obtain ⟨k0,k1,k2,k3,k4,k5,k6,k7,k8,k9⟩:=H8.out.lb.cells
    go_wp2_with fail
    refine (HC.out _ H8.out.bl).mono ?_
    rintro x w5 ⟨y5,rfl,hO5,hb5⟩
    have H9:=Hid.mk2 (And.intro (H8.out.after hb5) hO5.rdT)
    have hz9:=H9.out.1.sz
    clear hO5 hb5 H8 k0 k1 k2 k3 k4 k5 k6 k7 k8 k9 hzX
    go_wp2_with (first | (at_builtin;go_must (refine push_XX rfl _ _ rfl (w.heap.size+1) _ (T1++[(⟨#[124]⟩:ByteArray)]) rfl H9.out.1.own _ T2 rfl H9.out.2 (by first | (simp;done) | (simp;omega) | omega) (by first | (simp;done) | (simp;omega) | omega) ?_);intro A8 n8 c8 w8 hO8 hg8) | fail)
    have HX:=Hid.mk2 (H9.out.1.app hO8 hg8)
    clear hO8 hg8 H9
    go_wp2
    go_meet
    show SWd _ _ _ _ _
    rw [if_pos hlt,←List.append_assoc]
    exact HX.out
  · have dn:decide ((q:Int)<(n4:Int))=false:=by simpa using hlt
    go_wp2
    go_meet
    show SWd _ _ _ _ _
    rw [if_neg hlt,List.append_nil]
    exact HS.out
 case rest=>
  have hzX:=hcut.out.sz
  have hT:=HT.out.1
  obtain ⟨X,hX⟩:∃ X,(T1++(if q<n4 then [(⟨#[124]⟩:ByteArray)]++T2 else []))=X:=⟨_,rfl⟩
  have HX:Hid ((T1++(if q<n4 then [(⟨#[124]⟩:ByteArray)]++T2 else []))=X):=hX
  have hXl:X.length≤2000:=by
   rw [←hX,List.length_append]
   split
   · simp only [List.length_append,List.length_cons,List.length_nil];omega
   · simp only [List.length_nil];omega
  rw [hX] at hcut
  clear hX HS hT
  go_wp2_with fail
  refine (H68.out _).2.mono ?_
  rintro x w4 ⟨rfl,rfl⟩
  go_wp2_with (first | (at_builtin;go_must (refine push_XX rfl _ _ rfl (w.heap.size+1) _ X rfl (hcut.out.alloc _).own _ [⟨#[59]⟩] rfl (RdT.new (by simp)) (by first | (simp;done) | (simp;omega) | omega) (by first | (simp;done) | (simp;omega) | omega) ?_);intro A8 n8 c8 w8 hO8 hg8) | fail)
  have HF:Hid (OwnX w8 (w.heap.size+1) (.slice A8 n8 c8) (resW q rs)∧Below w.heap.size w w8):=⟨by rw [HT.out.2,HX.out];exact hO8,((hcut.out.alloc _).app hO8 hg8).bl⟩
  clear hO8 hg8 hcut
  go_wp2
  go_ret
  exact ⟨_,rfl,HF.out.1,HF.out.2⟩
end Go.Proofs
namespace Go.Proofs
open Go.RowKit Go.Shelf
set_option maxRecDepth 100000
attribute [local go_sem] Oper.semAt_some
noncomputable def lineW (l:Ln):List ByteArray:=
 if l.k=3 then [⟨#[116,104,101,110]⟩,⟨#[59]⟩] else if l.k=1 then [(⟨#[36]⟩:ByteArray)++l.t,⟨#[61]⟩,texS (l.key.headD nIt),⟨#[59]⟩] else sideW l.bg l.en l.ante l.key l.post++[⟨#[62]⟩]++resW l.cur.toNat l.res
def LwQ (w:World) (ws:List ByteArray) (x:Ending) (w':World):Prop:=∃ v,x = .returned v∧RdT w' v ws∧Below w.heap.size w w'
theorem RdT.many {W:World} {g n:Nat} {ts:List ByteArray} (h:W.heap[g]? = some (.cells (ts.map Value.string).toArray 9 (0,0))) (hn:n=ts.length):RdT W (.slice (some ⟨g,0,none⟩) n n) ts:=by
 subst hn
 refine ⟨_,_,rfl,Nat.le_refl _,.inr ⟨g,0,rfl,fun j x hj => ?_⟩⟩
 rw [Nat.zero_add]
 simp only [World.cell?,h]
 simp [hj]
set_option maxHeartbeats 2000000 in
theorem lineWords_3 (a:Int) (t:ByteArray) (bg en:Bool) (s1 s2 s3 s4:SL) (cur:Int) (w:World):Calls Tryz.prog 38 #[mla ⟨3,a,t,bg,en,s1,s2,s3,s4,cur⟩] w (LwQ w [⟨#[116,104,101,110]⟩,⟨#[59]⟩]):=by
 have H68:Hid (∀ W,Calls Tryz.prog 68 #[.int .i64 11] W fun e w'=>e = .returned (.string ⟨#[59]⟩)∧w'=W):=fun W=>sign_r 11 59 (by decide +kernel) W
 go_enter Tryz.func38,Tryz.ntmps38
 go_wp2_with fail
 refine (H68.out _).mono ?_
 rintro x w2 ⟨rfl,rfl⟩
 go_wp2
 go_ret
 have hn:=World.alloc_heap_new (w.alloc (.cells (ml1 ⟨3,a,t,bg,en,s1,s2,s3,s4,cur⟩).toArray 44)) (.cells #[.string ⟨#[116,104,101,110]⟩,.string ⟨#[59]⟩] 9)
 rw [World.size_alloc] at hn
 exact ⟨_,rfl,RdT.many (ts:=[⟨#[116,104,101,110]⟩,⟨#[59]⟩]) hn rfl,((Below.refl _ w).alloc (Nat.le_refl _) _).alloc (by simp) _⟩
def IL1 (L:List Value) (ts:List ByteArray) (i:Nat) (v:Value) (w:World):Prop:=if i<10 then v=L.getD i undef else ∃ g,v = .slice (some ⟨g,0,none⟩) ts.length ts.length∧w.heap[g]? = some (.cells (ts.map Value.string).toArray 9 (0,0))
theorem IL1.ext {L:List Value} {ts:List ByteArray} {i:Nat} {v:Value} {w w':World} (h:IL1 L ts i v w) (hE:Ext w w'):IL1 L ts i v w':=by
 unfold IL1 at h ⊢
 split
 · rwa [if_pos (by assumption)] at h
 · rw [if_neg (by assumption)] at h
   obtain ⟨g,e,hg⟩:=h
   exact ⟨g,e,(hE.block g (Array.getElem?_eq_some_iff.1 hg).1).trans hg⟩
set_option maxHeartbeats 8000000 in
theorem lineWords_1 (a:Int) (t:ByteArray) (bg en:Bool) (s1 s3 s4:SL) (g z n2 c2:Nat) (cur:Int) (w:World) (m1:MI) (P:ByteArray) (hn:1≤n2) (ht:t.size≤1000)
 (hpart:∀ i v,(mi1 m1)[i]? = some v→w.cell? ⟨g,z+i,none⟩=some v)
 (h69:∀ W,Below w.heap.size w W→Calls Tryz.prog 69 #[mia m1] W fun x w'=>x = .returned (.string P)∧Below W.heap.size W w') :
 Calls Tryz.prog 38 #[mla ⟨1,a,t,bg,en,s1,⟨some ⟨g,z,none⟩,n2,c2⟩,s3,s4,cur⟩] w (LwQ w [(⟨#[36]⟩:ByteArray)++t,⟨#[61]⟩,P,⟨#[59]⟩]):=by
 have H68:Hid (∀ W,(Calls Tryz.prog 68 #[.int .i64 21] W fun e w'=>e = .returned (.string ⟨#[61]⟩)∧Below W.heap.size W w')∧(Calls Tryz.prog 68 #[.int .i64 11] W fun e w'=>e = .returned (.string ⟨#[59]⟩)∧Below W.heap.size W w')):=fun W=>⟨(sign_r 21 61 (by decide +kernel) W).mono fun e w' h=>⟨h.1,by rw [h.2];exact Below.refl _ _⟩,(sign_r 11 59 (by decide +kernel) W).mono fun e w' h=>⟨h.1,by rw [h.2];exact Below.refl _ _⟩⟩
 have H:Hid (∀ i v,(mi1 m1)[i]? = some v→w.cell? ⟨g,z+i,none⟩=some v):=hpart
 have H69:Hid (∀ W,Below w.heap.size w W→Calls Tryz.prog 69 #[mia m1] W fun x w'=>x = .returned (.string P)∧Below W.heap.size W w'):=h69
 have hx:((⟨#[36]⟩:ByteArray)++t).size=1+t.size:=by rw [ByteArray.size_append];rfl
 have HB0:Hid (Below w.heap.size w (w.alloc (.cells (ml1 ⟨1,a,t,bg,en,s1,⟨some ⟨g,z,none⟩,n2,c2⟩,s3,s4,cur⟩).toArray 44))):=(Below.refl _ w).alloc (Nat.le_refl _) _
 have HI0:Hid (LB (w.alloc (.cells (ml1 ⟨1,a,t,bg,en,s1,⟨some ⟨g,z,none⟩,n2,c2⟩,s3,s4,cur⟩).toArray 44)) w.heap.size ⟨1,a,t,bg,en,s1,⟨some ⟨g,z,none⟩,n2,c2⟩,s3,s4,cur⟩):=LB.new _ _
 clear hpart h69
 go_enter Tryz.func38,Tryz.ntmps38
 go_upto_region 5 with fail
 rename_i Kx hKx
 have HE:Hid (∀ wx,Ext (w.alloc (.cells (ml1 ⟨1,a,t,bg,en,s1,⟨some ⟨g,z,none⟩,n2,c2⟩,s3,s4,cur⟩).toArray 44)) wx→Below w.heap.size w wx):=fun wx hE=>HB0.out.trans (hE.mono (by simp))
 refine wp_region_grows (by kernel_rfl) (by kernel_rfl) (by kernel_rfl) (by kernel_rfl) (IL1 [.pointer (some ⟨w.heap.size,2,none⟩),.string t,.string ((⟨#[36]⟩:ByteArray)++t),.string ⟨#[61]⟩,.pointer (some ⟨w.heap.size,6,none⟩),.slice (some ⟨g,z,none⟩) n2 c2,.pointer (some ⟨g,z,none⟩),mia m1,.string P,.string ⟨#[59]⟩] [(⟨#[36]⟩:ByteArray)++t,⟨#[61]⟩,P,⟨#[59]⟩]) (fun _ _ _ _ h hE=>h.ext hE) ⟨?_,?_,?_,?_,?_,?_,?_,?_,?_,?_,?_,?_,trivial⟩ ?_
 · as_aux_lemma=>
    intro A wx hE hd hfr K hK
    have f0:A.tmps.getD 1 undef = .pointer (some ⟨w.heap.size,0,none⟩):=hfr 1 (by kernel_rfl)
    simp only [Array.getD_eq_getD_getElem?] at f0
    have hK1:=hK (.pointer (some ⟨w.heap.size,2,none⟩)) wx (Below.refl _ _) rfl
    clear hfr hd hE hK
    go_simp
    exact hK1
 · as_aux_lemma=>
    intro A wx hE hd hfr K hK
    have d0:A.tmps.getD 11 undef = .pointer (some ⟨w.heap.size,2,none⟩):=hd 0 (by kernel_rfl) _ _ (by rfl) rfl
    obtain ⟨r0,r1,r2,r3,r4,r5,r6,r7,r8,r9⟩:=(HI0.out.same (hE.block _ HI0.out.lt)).cells
    simp only [Array.getD_eq_getD_getElem?] at d0
    have hK1:=hK (.string t) wx (Below.refl _ _) rfl
    clear hfr hd hE hK
    go_simp
    exact hK1
 · as_aux_lemma=>
    intro A wx hE hd hfr K hK
    have d0:A.tmps.getD 12 undef = .string t:=hd 1 (by kernel_rfl) _ _ (by rfl) rfl
    simp only [Array.getD_eq_getD_getElem?] at d0
    have hK1:=hK (.string ((⟨#[36]⟩:ByteArray)++t)) wx (Below.refl _ _) rfl
    clear hfr hd hE hK
    go_simp
    rw [if_neg (by omega)];exact hK1
 · as_aux_lemma=>
    intro A wx hE hd hfr K hK
    have hCall:=(H68.out wx).1
    clear hfr hd hE
    go_simp
    refine hCall.mono ?_
    rintro e w' ⟨rfl,hg⟩
    exact hK _ _ hg rfl
 · as_aux_lemma=>
    intro A wx hE hd hfr K hK
    have f0:A.tmps.getD 1 undef = .pointer (some ⟨w.heap.size,0,none⟩):=hfr 1 (by kernel_rfl)
    simp only [Array.getD_eq_getD_getElem?] at f0
    have hK1:=hK (.pointer (some ⟨w.heap.size,6,none⟩)) wx (Below.refl _ _) rfl
    clear hfr hd hE hK
    go_simp
    exact hK1
 · as_aux_lemma=>
    intro A wx hE hd hfr K hK
    have d0:A.tmps.getD 15 undef = .pointer (some ⟨w.heap.size,6,none⟩):=hd 4 (by kernel_rfl) _ _ (by rfl) rfl
    obtain ⟨r0,r1,r2,r3,r4,r5,r6,r7,r8,r9⟩:=(HI0.out.same (hE.block _ HI0.out.lt)).cells
    simp only [Array.getD_eq_getD_getElem?] at d0
    have hK1:=hK (.slice (some ⟨g,z,none⟩) n2 c2) wx (Below.refl _ _) rfl
    clear hfr hd hE hK
    go_simp
    exact hK1
 · as_aux_lemma=>
    intro A wx hE hd hfr K hK
    have d0:A.tmps.getD 16 undef = .slice (some ⟨g,z,none⟩) n2 c2:=hd 5 (by kernel_rfl) _ _ (by rfl) rfl
    simp only [Array.getD_eq_getD_getElem?] at d0
    have hK1:=hK (.pointer (some ⟨g,z,none⟩)) wx (Below.refl _ _) rfl
    clear hfr hd hE hK
    go_simp
    rw [if_pos (by omega)];exact hK1
 · as_aux_lemma=>
    intro A wx hE hd hfr K hK
    have d0:A.tmps.getD 17 undef = .pointer (some ⟨g,z,none⟩):=hd 6 (by kernel_rfl) _ _ (by rfl) rfl
    have ck:=ck_below (HE.out wx hE)
    have q0:=ck _ _ (H.out 0 _ rfl)
    have q1:=ck _ _ (H.out 1 _ rfl)
    have q2:=ck _ _ (H.out 2 _ rfl)
    have q3:=ck _ _ (H.out 3 _ rfl)
    have q4:=ck _ _ (H.out 4 _ rfl)
    have q5:=ck _ _ (H.out 5 _ rfl)
    have q6:=ck _ _ (H.out 6 _ rfl)
    have q7:=ck _ _ (H.out 7 _ rfl)
    simp only [Nat.add_zero] at q0
    clear ck
    simp only [Array.getD_eq_getD_getElem?] at d0
    have hK1:=hK (mia m1) wx (Below.refl _ _) rfl
    clear hfr hd hE hK
    go_simp
    exact hK1
 · as_aux_lemma=>
    intro A wx hE hd hfr K hK
    have d0:A.tmps.getD 18 undef=mia m1:=hd 7 (by kernel_rfl) _ _ (by rfl) rfl
    have hCall:=H69.out wx (HE.out wx hE)
    simp only [Array.getD_eq_getD_getElem?] at d0
    clear hfr hd hE
    go_simp
    refine hCall.mono ?_
    rintro e w' ⟨rfl,hg⟩
    exact hK _ _ hg rfl
 · as_aux_lemma=>
    intro A wx hE hd hfr K hK
    have hCall:=(H68.out wx).2
    clear hfr hd hE
    go_simp
    refine hCall.mono ?_
    rintro e w' ⟨rfl,hg⟩
    exact hK _ _ hg rfl
 · as_aux_lemma=>
    intro A wx hE hd hfr K hK
    have d0:A.tmps.getD 13 undef = .string ((⟨#[36]⟩:ByteArray)++t):=hd 2 (by kernel_rfl) _ _ (by rfl) rfl
    have d1:A.tmps.getD 14 undef = .string ⟨#[61]⟩:=hd 3 (by kernel_rfl) _ _ (by rfl) rfl
    have d2:A.tmps.getD 19 undef = .string P:=hd 8 (by kernel_rfl) _ _ (by rfl) rfl
    have d3:A.tmps.getD 20 undef = .string ⟨#[59]⟩:=hd 9 (by kernel_rfl) _ _ (by rfl) rfl
    simp only [Array.getD_eq_getD_getElem?] at d0 d1 d2 d3
    clear hfr hd hE
    go_simp
    exact hK _ _ ((Below.refl _ wx).alloc (Nat.le_refl _) _) ⟨_,rfl,World.alloc_heap_new _ _⟩
 · as_aux_lemma=>
    intro A wx hE hd hfr K hK
    obtain ⟨g8,e8,h8⟩:∃ g8,A.tmps.getD 21 undef = .slice (some ⟨g8,0,none⟩) 4 4∧wx.heap[g8]? = some (.cells #[.string ((⟨#[36]⟩:ByteArray)++t),.string ⟨#[61]⟩,.string P,.string ⟨#[59]⟩] 9 (0,0)):=hd 10 (by kernel_rfl) _ _ (by rfl) rfl
    have hK1:=hK (.slice (some ⟨g8,0,none⟩) 4 4) wx (Below.refl _ _) ⟨_,rfl,h8⟩
    simp only [Array.getD_eq_getD_getElem?] at e8
    clear hfr hd hE hK
    go_simp
    exact hK1
 · intro vs w5 hE hv
   have HB:Hid (Below w.heap.size w w5):=HE.out w5 hE
   obtain ⟨g8,e8,h8⟩:∃ g8,vs 11 = .slice (some ⟨g8,0,none⟩) 4 4∧w5.heap[g8]? = some (.cells #[.string ((⟨#[36]⟩:ByteArray)++t),.string ⟨#[61]⟩,.string P,.string ⟨#[59]⟩] 9 (0,0)):=hv 11 (by decide)
   have H8:Hid (w5.heap[g8]? = some (.cells #[.string ((⟨#[36]⟩:ByteArray)++t),.string ⟨#[61]⟩,.string P,.string ⟨#[59]⟩] 9 (0,0))):=h8
   rw [putL_eq]
   simp only [putsL,List.set_cons_zero,List.set_cons_succ,Nat.zero_add,Nat.reduceAdd]
   rw [e8]
   clear hE HE HI0 HB0 H H69 H68 hv h8 e8
   generalize vs 0=y0
   generalize vs 1=y1
   generalize vs 2=y2
   generalize vs 3=y3
   generalize vs 4=y4
   generalize vs 5=y5
   generalize vs 6=y6
   generalize vs 7=y7
   generalize vs 8=y8
   generalize vs 9=y9
   generalize vs 10=y10
   clear vs
   refine hKx _ _ ?_
   clear hKx
   go_wp2
   go_ret
   exact ⟨_,rfl,RdT.many (ts:=[(⟨#[36]⟩:ByteArray)++t,⟨#[61]⟩,P,⟨#[59]⟩]) H8.out rfl,HB.out⟩
end Go.Proofs
namespace Go.Proofs
open Go.RowKit Go.Shelf
set_option maxRecDepth 100000
attribute [local go_sem] Oper.semAt_some
set_option maxHeartbeats 8000000 in
theorem lineWords_2 (k a:Int) (hk3:k≠3) (hk1:k≠1) (t:ByteArray) (bg en:Bool) (s1 s2 s3 s4:SL) (cur:Int) (w:World) (S R:List ByteArray) (hS:S.length≤5000) (hR:R.length≤5000)
 (h70:∀ W,Below w.heap.size w W→Calls Tryz.prog 70 #[mla ⟨k,a,t,bg,en,s1,s2,s3,s4,cur⟩] W fun x w'=>∃ v,x = .returned v∧OwnX w' (W.heap.size+1) v S∧Below W.heap.size W w')
 (h71:∀ W,Below w.heap.size w W→Calls Tryz.prog 71 #[mla ⟨k,a,t,bg,en,s1,s2,s3,s4,cur⟩] W fun x w'=>∃ v,x = .returned v∧OwnX w' (W.heap.size+1) v R∧Below W.heap.size W w') :
 Calls Tryz.prog 38 #[mla ⟨k,a,t,bg,en,s1,s2,s3,s4,cur⟩] w (LwQ w (S++[⟨#[62]⟩]++R)):=by
 have H68:Hid (∀ W,Calls Tryz.prog 68 #[.int .i64 10] W fun e w'=>e = .returned (.string ⟨#[62]⟩)∧w'=W):=fun W=>sign_r 10 62 (by decide +kernel) W
 have H70:Hid (∀ W,Below w.heap.size w W→Calls Tryz.prog 70 #[mla ⟨k,a,t,bg,en,s1,s2,s3,s4,cur⟩] W fun x w'=>∃ v,x = .returned v∧OwnX w' (W.heap.size+1) v S∧Below W.heap.size W w'):=h70
 have H71:Hid (∀ W,Below w.heap.size w W→Calls Tryz.prog 71 #[mla ⟨k,a,t,bg,en,s1,s2,s3,s4,cur⟩] W fun x w'=>∃ v,x = .returned v∧OwnX w' (W.heap.size+1) v R∧Below W.heap.size W w'):=h71
 have HS0:Hid (SWd w (w.alloc (.cells (ml1 ⟨k,a,t,bg,en,s1,s2,s3,s4,cur⟩).toArray 44)) ⟨k,a,t,bg,en,s1,s2,s3,s4,cur⟩ (.slice none 0 0) []):=SWd.new _ _
 have e3:(k == 3)=false:=by simpa using hk3
 have e1:(k == 1)=false:=by simpa using hk1
 clear h70 h71 hk3 hk1
 go_enter Tryz.func38,Tryz.ntmps38
 go_upto_region 6 with fail
 have hz0:=HS0.out.sz
 obtain ⟨k0,k1,k2,k3,k4,k5,k6,k7,k8,k9⟩:=HS0.out.lb.cells
 go_region_law (first
  | (go_simp;go_at_call 70;go_must (refine (H70.out _ ?_).mono ?_;(first | exact HS0.out.bl | exact HS0.out.bl.drew);rintro x w2 ⟨y2,rfl,hO2,hb2⟩;have H2:=Hid.mk2 (SWd.mk ((HS0.out.after (Below.trans (by first | exact Below.refl _ _ | exact (Below.refl _ _).drew) hb2)).lb) ((HS0.out.after (Below.trans (by first | exact Below.refl _ _ | exact (Below.refl _ _).drew) hb2)).bl) (hO2.le (by simp)) ((HS0.out.after (Below.trans (by first | exact Below.refl _ _ | exact (Below.refl _ _).drew) hb2)).sz));(obtain ⟨p0,p1,p2,p3,p4,p5,p6,p7,p8,p9⟩:=H2.out.lb.cells);clear hO2 hb2))
  | (go_simp;go_at_call 68;go_must (refine (H68.out _).mono ?_;rintro x w3 ⟨rfl,rfl⟩;have a0:=fun o=>cell_up p0 o;have a1:=fun o=>cell_up p1 o;have a2:=fun o=>cell_up p2 o;have a3:=fun o=>cell_up p3 o;have a4:=fun o=>cell_up p4 o;have a5:=fun o=>cell_up p5 o;have a6:=fun o=>cell_up p6 o;have a7:=fun o=>cell_up p7 o;have a8:=fun o=>cell_up p8 o;have a9:=fun o=>cell_up p9 o))
  | (go_simp;go_at_call 71;go_must (refine (H71.out _ H8.out.bl).mono ?_;rintro x w5 ⟨y5,rfl,hO5,hb5⟩;have H5:=Hid.mk2 (And.intro (H8.out.after hb5) hO5.rdT);clear hO5 hb5))
  | (refine step_appX rfl (.tmp 23) (.tmp 25) rfl (w.heap.size+1) _ S rfl (H2.out.alloc _).own _ [⟨#[62]⟩] rfl (RdT.new (by simp)) (by simp;omega) (by have:=H2.out.sz;simp;omega) ?_;intro v8 w8 hO8 hg8;have H8:=Hid.mk2 ((H2.out.alloc _).app hO8 hg8);(obtain ⟨b0,b1,b2,b3,b4,b5,b6,b7,b8,b9⟩:=H8.out.lb.cells);clear hO8 hg8)
  | (refine step_appX rfl (.tmp 26) (.tmp 28) rfl (w.heap.size+1) _ (S++[(⟨#[62]⟩:ByteArray)]) rfl H5.out.1.own _ R rfl H5.out.2 (by simp;omega) H5.out.1.sz ?_;intro v9 w9 hO9 hg9;have H9:=Hid.mk2 (And.intro hO9.rdT (H5.out.1.app hO9 hg9).bl);clear hO9 hg9))
 all_goals go_wp2
 all_goals go_ret
 all_goals exact ⟨_,rfl,(by have h:=H9.out.1;rw [List.append_assoc] at h;exact h),H9.out.2⟩
end Go.Proofs
