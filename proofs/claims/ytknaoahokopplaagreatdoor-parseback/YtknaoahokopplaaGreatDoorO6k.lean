/-
  Whether lines have too many items, however many.
-/
import Derived.Test.YtknaoahokopplaaGreatDoorMhlk
namespace Go.Proofs
open Go.RowKit Go.Shelf
set_option maxRecDepth 100000
attribute [local go_sem] Oper.semAt_some
def GrG (L:List Value) (i:Nat) (v:Value) (_:World):Prop:=if i=6∨i=13∨i=20∨i=27 then ∃ q:Int,v = .int .i64 q else if i=7∨i=14∨i=21∨i=28∨i=29 then ∃ q:Int,v = .int .i64 q else v=L.getD i undef
def GrQ (n:Nat) (x:Ending):Prop:=∃ b,x = .returned (.bool b)∧(b=false→n≤20000)
set_option maxHeartbeats 8000000 in
theorem greatG_any (d:Nat) (W:World) (A:Option Addr) (n c:Nat) (ls:List Ln) (hI:RdLs d W A n ls) (hn:n≤9223372036854775807) :
 Calls Tryz.prog 17 #[.slice A n c] W fun x W'=>GrQ n x∧Below W.heap.size W W':=by
 have hln:=hI.len
 obtain ⟨ms0,hn0,hr,hA⟩:=hI
 have H:Hid (n=ls.length∧n=ms0.length∧(n=0∨∃ g z,A=some ⟨g,z,none⟩∧ReadsL W g z ms0)∧All2 (RdLn d W) ms0 ls):=⟨hln,hn0,hr,hA⟩
 clear hr hA hln hn0
 go_enter Tryz.func17,Tryz.ntmps17
 go_wp2
 go_loopw [3,4] (fun vr vi wr=>∃ (r:Int) (i:Nat),vr = .int .i64 r∧vi = .int .i64 i∧i≤n∧(n≤20000∨(i=0∧r=(n:Int)))∧Hid (Below W.heap.size W wr)) (fun _ vi _=>n - (intOf vi).toNat)
 case atStart=>exact ⟨n,0,rfl,rfl,by omega,.inr ⟨rfl,rfl⟩,Below.refl _ _⟩
 case round=>
  obtain ⟨r,i,rfl,rfl,hi,hr0',HB⟩:=hrel
  have hr0:Hid (n≤20000∨(i=0∧r=(n:Int))):=hr0'
  clear hr0'
  obtain ⟨wo,rfl⟩:∃ wo,wo=wr:=⟨_,rfl⟩
  by_cases hin:i<n
  · have e1:decide ((i:Int)<(n:Int))=true:=by simpa using hin
    by_cases hr2:r≤20000
    · have e2:decide (r≤(20000:Int))=true:=by simpa using hr2
      obtain ⟨m,hm⟩:∃ m,ms0[i]? = some m:=⟨ms0[i]'(by have:=H.out.2.1;omega),List.getElem?_eq_getElem _⟩
      obtain ⟨x,hx⟩:∃ x,ls[i]? = some x:=⟨ls[i]'(by have:=H.out.1;omega),List.getElem?_eq_getElem _⟩
      obtain ⟨g,z,hA,hr⟩:=H.out.2.2.1.resolve_left (by omega)
      subst hA
      have hRd:=H.out.2.2.2.get hm hx
      have HC:Hid (∀ (s:SL) (rl:List It),RdI d W s.A s.n rl→∀ w2,Below W.heap.size W w2→Calls Tryz.prog 33 #[.slice s.A s.n s.c,.int .i64 20000,.int .i64 9] w2 fun y W'=>(∃ q:Int,y = .returned (.int .i64 q))∧Below w2.heap.size w2 W'):=by
       intro s rl h1 w2 hb
       exact countedG_any 9 (by omega) d w2 s.A s.n s.c rl (h1.ck (ck_below hb))
      have HM:Hid ((∀ k v,(ml1 m)[k]? = some v→∀ w2,Below W.heap.size W w2→w2.cell? ⟨g,z+i*10+k,none⟩=some v)∧RdLn d W m x):=⟨fun k v hv w2 hb=>ck_below hb _ _ (hr i m hm k v hv),hRd⟩
      clear hm hx hr hRd
      go_upto_region 5 with fail
      rename_i Kx hKx
      have HE:Hid (∀ wx,Ext wo wx→Below W.heap.size W wx):=fun wx hE=>HB.out.trans (hE.mono HB.out.size)
      refine wp_region_waits (by kernel_rfl) (by kernel_rfl) (by kernel_rfl) (by kernel_rfl) (GrG [.int .i64 r,.slice (some ⟨g,z,none⟩) n c,.int .i64 i,.pointer (some ⟨g,z+i*10,none⟩),.pointer (some ⟨g,z+i*10+5,none⟩),.slice m.s1.A m.s1.n m.s1.c,undef,undef,.slice (some ⟨g,z,none⟩) n c,.int .i64 i,.pointer (some ⟨g,z+i*10,none⟩),.pointer (some ⟨g,z+i*10+6,none⟩),.slice m.s2.A m.s2.n m.s2.c,undef,undef,.slice (some ⟨g,z,none⟩) n c,.int .i64 i,.pointer (some ⟨g,z+i*10,none⟩),.pointer (some ⟨g,z+i*10+7,none⟩),.slice m.s3.A m.s3.n m.s3.c,undef,undef,.slice (some ⟨g,z,none⟩) n c,.int .i64 i,.pointer (some ⟨g,z+i*10,none⟩),.pointer (some ⟨g,z+i*10+8,none⟩),.slice m.s4.A m.s4.n m.s4.c,undef,undef,undef]) (fun _ _ _ _ h _=>h) ⟨?_,?_,?_,?_,?_,?_,?_,?_,?_,?_,?_,?_,?_,?_,?_,?_,?_,?_,?_,?_,?_,?_,?_,?_,?_,?_,?_,?_,?_,?_,trivial⟩ ?_
      · as_aux_lemma=>
         intro A wx hE hd hfr K hK
         have f0:A.tmps.getD 3 undef = .int .i64 r:=hfr 3 (by kernel_rfl)
         simp only [Array.getD_eq_getD_getElem?] at f0
         have hK1:=hK (.int .i64 r) wx (Below.refl _ _) rfl
         clear hfr hd hE hK
         go_simp
         exact hK1
      · as_aux_lemma=>
         intro A wx hE hd hfr K hK
         have f0:A.tmps.getD 0 undef = .slice (some ⟨g,z,none⟩) n c:=hfr 0 (by kernel_rfl)
         simp only [Array.getD_eq_getD_getElem?] at f0
         have hK1:=hK (.slice (some ⟨g,z,none⟩) n c) wx (Below.refl _ _) rfl
         clear hfr hd hE hK
         go_simp
         exact hK1
      · as_aux_lemma=>
         intro A wx hE hd hfr K hK
         have f0:A.tmps.getD 4 undef = .int .i64 i:=hfr 4 (by kernel_rfl)
         simp only [Array.getD_eq_getD_getElem?] at f0
         have hK1:=hK (.int .i64 i) wx (Below.refl _ _) rfl
         clear hfr hd hE hK
         go_simp
         exact hK1
      · as_aux_lemma=>
         intro A wx hE hd hfr K hK
         have d0:A.tmps.getD 18 undef = .slice (some ⟨g,z,none⟩) n c:=hd 1 (by kernel_rfl) _ _ (by rfl) rfl
         have d1:A.tmps.getD 19 undef = .int .i64 i:=hd 2 (by kernel_rfl) _ _ (by rfl) rfl
         simp only [Array.getD_eq_getD_getElem?] at d0 d1
         have hK1:=hK (.pointer (some ⟨g,z+i*10,none⟩)) wx (Below.refl _ _) rfl
         clear hfr hd hE hK
         go_simp
         exact hK1
      · as_aux_lemma=>
         intro A wx hE hd hfr K hK
         have d0:A.tmps.getD 20 undef = .pointer (some ⟨g,z+i*10,none⟩):=hd 3 (by kernel_rfl) _ _ (by rfl) rfl
         simp only [Array.getD_eq_getD_getElem?] at d0
         have hK1:=hK (.pointer (some ⟨g,z+i*10+5,none⟩)) wx (Below.refl _ _) rfl
         clear hfr hd hE hK
         go_simp
         exact hK1
      · as_aux_lemma=>
         intro A wx hE hd hfr K hK
         have d0:A.tmps.getD 21 undef = .pointer (some ⟨g,z+i*10+5,none⟩):=hd 4 (by kernel_rfl) _ _ (by rfl) rfl
         have c5:=HM.out.1 5 _ rfl wx (HE.out wx hE)
         simp only [Array.getD_eq_getD_getElem?] at d0
         have hK1:=hK (.slice m.s1.A m.s1.n m.s1.c) wx (Below.refl _ _) rfl
         clear hfr hd hE hK
         go_simp
         exact hK1
      · as_aux_lemma=>
         intro A wx hE hd hfr K hK
         have d0:A.tmps.getD 22 undef = .slice m.s1.A m.s1.n m.s1.c:=hd 5 (by kernel_rfl) _ _ (by rfl) rfl
         have hCall:=HC.out m.s1 x.ante HM.out.2.2.1 wx (HE.out wx hE)
         simp only [Array.getD_eq_getD_getElem?] at d0
         clear hfr hd
         go_simp
         refine hCall.mono ?_
         rintro e w' ⟨⟨q,rfl⟩,hb'⟩
         exact hK _ _ hb' ⟨q,rfl⟩
      · as_aux_lemma=>
         intro A wx hE hd hfr K hK
         have f0:A.tmps.getD 17 undef = .int .i64 r:=hd 0 (by kernel_rfl) _ _ (by rfl) rfl
         obtain ⟨q,f1⟩:∃ q:Int,A.tmps.getD 23 undef = .int .i64 q:=hd 6 (by kernel_rfl) _ _ (by rfl) rfl
         obtain ⟨o,hw⟩:∃ o:Int,IntKind.i64.wrap (r+q)=o:=⟨_,rfl⟩
         have hK1:=hK (.int .i64 o) wx (Below.refl _ _) ⟨o,rfl⟩
         simp only [Array.getD_eq_getD_getElem?] at f0 f1
         clear hfr hd hE hK
         go_simp
         exact hK1
      · as_aux_lemma=>
         intro A wx hE hd hfr K hK
         have f0:A.tmps.getD 0 undef = .slice (some ⟨g,z,none⟩) n c:=hfr 0 (by kernel_rfl)
         simp only [Array.getD_eq_getD_getElem?] at f0
         have hK1:=hK (.slice (some ⟨g,z,none⟩) n c) wx (Below.refl _ _) rfl
         clear hfr hd hE hK
         go_simp
         exact hK1
      · as_aux_lemma=>
         intro A wx hE hd hfr K hK
         have f0:A.tmps.getD 4 undef = .int .i64 i:=hfr 4 (by kernel_rfl)
         simp only [Array.getD_eq_getD_getElem?] at f0
         have hK1:=hK (.int .i64 i) wx (Below.refl _ _) rfl
         clear hfr hd hE hK
         go_simp
         exact hK1
      · as_aux_lemma=>
         intro A wx hE hd hfr K hK
         have d0:A.tmps.getD 25 undef = .slice (some ⟨g,z,none⟩) n c:=hd 8 (by kernel_rfl) _ _ (by rfl) rfl
         have d1:A.tmps.getD 26 undef = .int .i64 i:=hd 9 (by kernel_rfl) _ _ (by rfl) rfl
         simp only [Array.getD_eq_getD_getElem?] at d0 d1
         have hK1:=hK (.pointer (some ⟨g,z+i*10,none⟩)) wx (Below.refl _ _) rfl
         clear hfr hd hE hK
         go_simp
         exact hK1
      · as_aux_lemma=>
         intro A wx hE hd hfr K hK
         have d0:A.tmps.getD 27 undef = .pointer (some ⟨g,z+i*10,none⟩):=hd 10 (by kernel_rfl) _ _ (by rfl) rfl
         simp only [Array.getD_eq_getD_getElem?] at d0
         have hK1:=hK (.pointer (some ⟨g,z+i*10+6,none⟩)) wx (Below.refl _ _) rfl
         clear hfr hd hE hK
         go_simp
         exact hK1
      · as_aux_lemma=>
         intro A wx hE hd hfr K hK
         have d0:A.tmps.getD 28 undef = .pointer (some ⟨g,z+i*10+6,none⟩):=hd 11 (by kernel_rfl) _ _ (by rfl) rfl
         have c5:=HM.out.1 6 _ rfl wx (HE.out wx hE)
         simp only [Array.getD_eq_getD_getElem?] at d0
         have hK1:=hK (.slice m.s2.A m.s2.n m.s2.c) wx (Below.refl _ _) rfl
         clear hfr hd hE hK
         go_simp
         exact hK1
      · as_aux_lemma=>
         intro A wx hE hd hfr K hK
         have d0:A.tmps.getD 29 undef = .slice m.s2.A m.s2.n m.s2.c:=hd 12 (by kernel_rfl) _ _ (by rfl) rfl
         have hCall:=HC.out m.s2 x.key HM.out.2.2.2.1 wx (HE.out wx hE)
         simp only [Array.getD_eq_getD_getElem?] at d0
         clear hfr hd
         go_simp
         refine hCall.mono ?_
         rintro e w' ⟨⟨q,rfl⟩,hb'⟩
         exact hK _ _ hb' ⟨q,rfl⟩
      · as_aux_lemma=>
         intro A wx hE hd hfr K hK
         obtain ⟨p,f0⟩:∃ p:Int,A.tmps.getD 24 undef = .int .i64 p:=hd 7 (by kernel_rfl) _ _ (by rfl) rfl
         obtain ⟨q,f1⟩:∃ q:Int,A.tmps.getD 30 undef = .int .i64 q:=hd 13 (by kernel_rfl) _ _ (by rfl) rfl
         obtain ⟨o,hw⟩:∃ o:Int,IntKind.i64.wrap (p+q)=o:=⟨_,rfl⟩
         have hK1:=hK (.int .i64 o) wx (Below.refl _ _) ⟨o,rfl⟩
         simp only [Array.getD_eq_getD_getElem?] at f0 f1
         clear hfr hd hE hK
         go_simp
         exact hK1
      · as_aux_lemma=>
         intro A wx hE hd hfr K hK
         have f0:A.tmps.getD 0 undef = .slice (some ⟨g,z,none⟩) n c:=hfr 0 (by kernel_rfl)
         simp only [Array.getD_eq_getD_getElem?] at f0
         have hK1:=hK (.slice (some ⟨g,z,none⟩) n c) wx (Below.refl _ _) rfl
         clear hfr hd hE hK
         go_simp
         exact hK1
      · as_aux_lemma=>
         intro A wx hE hd hfr K hK
         have f0:A.tmps.getD 4 undef = .int .i64 i:=hfr 4 (by kernel_rfl)
         simp only [Array.getD_eq_getD_getElem?] at f0
         have hK1:=hK (.int .i64 i) wx (Below.refl _ _) rfl
         clear hfr hd hE hK
         go_simp
         exact hK1
      · as_aux_lemma=>
         intro A wx hE hd hfr K hK
         have d0:A.tmps.getD 32 undef = .slice (some ⟨g,z,none⟩) n c:=hd 15 (by kernel_rfl) _ _ (by rfl) rfl
         have d1:A.tmps.getD 33 undef = .int .i64 i:=hd 16 (by kernel_rfl) _ _ (by rfl) rfl
         simp only [Array.getD_eq_getD_getElem?] at d0 d1
         have hK1:=hK (.pointer (some ⟨g,z+i*10,none⟩)) wx (Below.refl _ _) rfl
         clear hfr hd hE hK
         go_simp
         exact hK1
      · as_aux_lemma=>
         intro A wx hE hd hfr K hK
         have d0:A.tmps.getD 34 undef = .pointer (some ⟨g,z+i*10,none⟩):=hd 17 (by kernel_rfl) _ _ (by rfl) rfl
         simp only [Array.getD_eq_getD_getElem?] at d0
         have hK1:=hK (.pointer (some ⟨g,z+i*10+7,none⟩)) wx (Below.refl _ _) rfl
         clear hfr hd hE hK
         go_simp
         exact hK1
      · as_aux_lemma=>
         intro A wx hE hd hfr K hK
         have d0:A.tmps.getD 35 undef = .pointer (some ⟨g,z+i*10+7,none⟩):=hd 18 (by kernel_rfl) _ _ (by rfl) rfl
         have c5:=HM.out.1 7 _ rfl wx (HE.out wx hE)
         simp only [Array.getD_eq_getD_getElem?] at d0
         have hK1:=hK (.slice m.s3.A m.s3.n m.s3.c) wx (Below.refl _ _) rfl
         clear hfr hd hE hK
         go_simp
         exact hK1
      · as_aux_lemma=>
         intro A wx hE hd hfr K hK
         have d0:A.tmps.getD 36 undef = .slice m.s3.A m.s3.n m.s3.c:=hd 19 (by kernel_rfl) _ _ (by rfl) rfl
         have hCall:=HC.out m.s3 x.post HM.out.2.2.2.2.1 wx (HE.out wx hE)
         simp only [Array.getD_eq_getD_getElem?] at d0
         clear hfr hd
         go_simp
         refine hCall.mono ?_
         rintro e w' ⟨⟨q,rfl⟩,hb'⟩
         exact hK _ _ hb' ⟨q,rfl⟩
      · as_aux_lemma=>
         intro A wx hE hd hfr K hK
         obtain ⟨p,f0⟩:∃ p:Int,A.tmps.getD 31 undef = .int .i64 p:=hd 14 (by kernel_rfl) _ _ (by rfl) rfl
         obtain ⟨q,f1⟩:∃ q:Int,A.tmps.getD 37 undef = .int .i64 q:=hd 20 (by kernel_rfl) _ _ (by rfl) rfl
         obtain ⟨o,hw⟩:∃ o:Int,IntKind.i64.wrap (p+q)=o:=⟨_,rfl⟩
         have hK1:=hK (.int .i64 o) wx (Below.refl _ _) ⟨o,rfl⟩
         simp only [Array.getD_eq_getD_getElem?] at f0 f1
         clear hfr hd hE hK
         go_simp
         exact hK1
      · as_aux_lemma=>
         intro A wx hE hd hfr K hK
         have f0:A.tmps.getD 0 undef = .slice (some ⟨g,z,none⟩) n c:=hfr 0 (by kernel_rfl)
         simp only [Array.getD_eq_getD_getElem?] at f0
         have hK1:=hK (.slice (some ⟨g,z,none⟩) n c) wx (Below.refl _ _) rfl
         clear hfr hd hE hK
         go_simp
         exact hK1
      · as_aux_lemma=>
         intro A wx hE hd hfr K hK
         have f0:A.tmps.getD 4 undef = .int .i64 i:=hfr 4 (by kernel_rfl)
         simp only [Array.getD_eq_getD_getElem?] at f0
         have hK1:=hK (.int .i64 i) wx (Below.refl _ _) rfl
         clear hfr hd hE hK
         go_simp
         exact hK1
      · as_aux_lemma=>
         intro A wx hE hd hfr K hK
         have d0:A.tmps.getD 39 undef = .slice (some ⟨g,z,none⟩) n c:=hd 22 (by kernel_rfl) _ _ (by rfl) rfl
         have d1:A.tmps.getD 40 undef = .int .i64 i:=hd 23 (by kernel_rfl) _ _ (by rfl) rfl
         simp only [Array.getD_eq_getD_getElem?] at d0 d1
         have hK1:=hK (.pointer (some ⟨g,z+i*10,none⟩)) wx (Below.refl _ _) rfl
         clear hfr hd hE hK
         go_simp
         exact hK1
      · as_aux_lemma=>
         intro A wx hE hd hfr K hK
         have d0:A.tmps.getD 41 undef = .pointer (some ⟨g,z+i*10,none⟩):=hd 24 (by kernel_rfl) _ _ (by rfl) rfl
         simp only [Array.getD_eq_getD_getElem?] at d0
         have hK1:=hK (.pointer (some ⟨g,z+i*10+8,none⟩)) wx (Below.refl _ _) rfl
         clear hfr hd hE hK
         go_simp
         exact hK1
      · as_aux_lemma=>
         intro A wx hE hd hfr K hK
         have d0:A.tmps.getD 42 undef = .pointer (some ⟨g,z+i*10+8,none⟩):=hd 25 (by kernel_rfl) _ _ (by rfl) rfl
         have c5:=HM.out.1 8 _ rfl wx (HE.out wx hE)
         simp only [Array.getD_eq_getD_getElem?] at d0
         have hK1:=hK (.slice m.s4.A m.s4.n m.s4.c) wx (Below.refl _ _) rfl
         clear hfr hd hE hK
         go_simp
         exact hK1
      · as_aux_lemma=>
         intro A wx hE hd hfr K hK
         have d0:A.tmps.getD 43 undef = .slice m.s4.A m.s4.n m.s4.c:=hd 26 (by kernel_rfl) _ _ (by rfl) rfl
         have hCall:=HC.out m.s4 x.res HM.out.2.2.2.2.2 wx (HE.out wx hE)
         simp only [Array.getD_eq_getD_getElem?] at d0
         clear hfr hd
         go_simp
         refine hCall.mono ?_
         rintro e w' ⟨⟨q,rfl⟩,hb'⟩
         exact hK _ _ hb' ⟨q,rfl⟩
      · as_aux_lemma=>
         intro A wx hE hd hfr K hK
         obtain ⟨p,f0⟩:∃ p:Int,A.tmps.getD 38 undef = .int .i64 p:=hd 21 (by kernel_rfl) _ _ (by rfl) rfl
         obtain ⟨q,f1⟩:∃ q:Int,A.tmps.getD 44 undef = .int .i64 q:=hd 27 (by kernel_rfl) _ _ (by rfl) rfl
         obtain ⟨o,hw⟩:∃ o:Int,IntKind.i64.wrap (p+q)=o:=⟨_,rfl⟩
         have hK1:=hK (.int .i64 o) wx (Below.refl _ _) ⟨o,rfl⟩
         simp only [Array.getD_eq_getD_getElem?] at f0 f1
         clear hfr hd hE hK
         go_simp
         exact hK1
      · as_aux_lemma=>
         intro A wx hE hd hfr K hK
         obtain ⟨p,f0⟩:∃ p:Int,A.tmps.getD 45 undef = .int .i64 p:=hd 28 (by kernel_rfl) _ _ (by rfl) rfl
         have hK1:=hK (.int .i64 p) wx (Below.refl _ _) ⟨p,rfl⟩
         simp only [Array.getD_eq_getD_getElem?] at f0
         clear hfr hd hE hK
         go_simp
         exact hK1
      · intro vs w5 hE hv
        have HB5:Hid (Below W.heap.size W w5):=HE.out w5 hE
        obtain ⟨q7,v29⟩:∃ q:Int,vs 29 = .int .i64 q:=hv 29 (by decide)
        have hn7:Hid (n≤20000):=by
         show n≤20000
         rcases hr0.out with h | ⟨_,h⟩ <;> omega
        rw [putL_eq]
        simp only [putsL,List.set_cons_zero,List.set_cons_succ,Nat.zero_add,Nat.reduceAdd]
        rw [v29]
        clear hE HE hv v29 HM HC
        generalize vs 0=y0
        generalize vs 1=y1
        generalize vs 2=y2
        generalize vs 3=y3
        generalize vs 4=y4
        generalize vs 5=y5
        generalize vs 6=y6
        generalize vs 7=y7
        generalize vs 8=y8
        generalize vs 9=y9
        generalize vs 10=y10
        generalize vs 11=y11
        generalize vs 12=y12
        generalize vs 13=y13
        generalize vs 14=y14
        generalize vs 15=y15
        generalize vs 16=y16
        generalize vs 17=y17
        generalize vs 18=y18
        generalize vs 19=y19
        generalize vs 20=y20
        generalize vs 21=y21
        generalize vs 22=y22
        generalize vs 23=y23
        generalize vs 24=y24
        generalize vs 25=y25
        generalize vs 26=y26
        generalize vs 27=y27
        generalize vs 28=y28
        clear vs
        refine hKx _ _ ?_
        clear hKx
        go_wp2
        exact ⟨⟨q7,i+1,rfl,by go_num,by omega,.inl hn7.out,HB5⟩,by simp [intOf];omega⟩
    · have e2:decide (r≤(20000:Int))=false:=by simpa using hr2
      have e3:decide ((20000:Int)<r)=true:=by simp;omega
      go_wp2
      go_ret
      exact ⟨⟨true,rfl,fun h=>by cases h⟩,HB.out⟩
  · have e1:decide ((i:Int)<(n:Int))=false:=by simpa using hin
    by_cases hr2:r≤20000
    · have e3:decide ((20000:Int)<r)=false:=by simp;omega
      go_wp2
      go_ret
      exact ⟨⟨false,rfl,fun _=>by rcases hr0.out with h | ⟨_,h⟩ <;> omega⟩,HB.out⟩
    · have e3:decide ((20000:Int)<r)=true:=by simp;omega
      go_wp2
      go_ret
      exact ⟨⟨true,rfl,fun h=>by cases h⟩,HB.out⟩
end Go.Proofs
