/-
  Several texts in one (U7p U8p).
-/
import Derived.Test.YtknaoahokopplaaGreatDoorU6p
import Derived.Test.YtknaoahokopplaaGreatDoorMgtp
namespace Go.Proofs
open Go.RowKit Go.Shelf
set_option maxRecDepth 100000
attribute [local go_sem] Oper.semAt_some
set_option maxHeartbeats 4000000 in
theorem qitem_8 (u:Int) (t:ByteArray) (A:Option Addr) (n c:Nat) (lo hi:Int) (nt:Bool) (key:Int) (part piece:Bool) (k0:Int) {W:World} {R:Nat} {bs:List UInt8} (h:WR W R bs 0) (P:World→Prop)
 (hpart:n=1→∃ g z,A=some ⟨g,z,none⟩∧∀ W',Below R W W'→W'.cell? ⟨g,z,none⟩=some (.int .i64 k0))
 (hok:(((cpB key && decide (n=1)) && blankB ⟨8,u,t,A,0,c,lo,hi,nt,0⟩) && (piece && !(k0 == 1)))=true→∀ W2,WR W2 R bs 0→MvW W W2 R→Calls Tryz.prog 121 #[.pointer (some ⟨R,0,none⟩),mia ⟨8,u,t,A,n,c,lo,hi,nt,key⟩] W2 fun x W'=>x = .returned (.tuple #[])∧P W')
 (hno:(((cpB key && decide (n=1)) && blankB ⟨8,u,t,A,0,c,lo,hi,nt,0⟩) && (piece && !(k0 == 1)))=false→∀ W2,WR W2 R bs 50→MvW W W2 R→P W2) :
 Calls Tryz.prog 74 #[.pointer (some ⟨R,0,none⟩),mia ⟨8,u,t,A,n,c,lo,hi,nt,key⟩,.bool part,.bool piece] W fun x W'=>x = .returned (.tuple #[])∧P W':=by
 have hlt:=h.lt
 obtain ⟨al,hal⟩:∃ al,alikeB ⟨8,u,t,A,n,c,lo,hi,nt,key⟩ ⟨8,0,⟨#[]⟩,none,0,0,0,0,false,key⟩=al:=⟨_,rfl⟩
 have H120:Hid (∀ w:World,Calls Tryz.prog 120 #[mia ⟨8,u,t,A,n,c,lo,hi,nt,key⟩,mia ⟨0,0,⟨#[]⟩,none,0,0,0,0,false,key⟩] w fun e w'=>e = .returned (.bool al)∧Grown w w'):=fun w=>by
  have:=qbare_any ⟨8,u,t,A,n,c,lo,hi,nt,key⟩ ⟨0,0,⟨#[]⟩,none,0,0,0,0,false,key⟩ w
  rwa [show alikeB ⟨8,u,t,A,n,c,lo,hi,nt,key⟩ { (⟨0,0,⟨#[]⟩,none,0,0,0,0,false,key⟩:MI) with k:=8 } = al from hal] at this
 have HAL:Hid (alikeB ⟨8,u,t,A,n,c,lo,hi,nt,key⟩ ⟨8,0,⟨#[]⟩,none,0,0,0,0,false,key⟩=al):=hal
 have HPT:Hid (n=1→∃ g z,A=some ⟨g,z,none⟩∧∀ W',Below R W W'→W'.cell? ⟨g,z,none⟩=some (.int .i64 k0)):=hpart
 have HOK:Hid ((((cpB key && decide (n=1)) && blankB ⟨8,u,t,A,0,c,lo,hi,nt,0⟩) && (piece && !(k0 == 1)))=true→∀ W2,WR W2 R bs 0→MvW W W2 R→Calls Tryz.prog 121 #[.pointer (some ⟨R,0,none⟩),mia ⟨8,u,t,A,n,c,lo,hi,nt,key⟩] W2 fun x W'=>x = .returned (.tuple #[])∧P W'):=hok
 have HNO:Hid ((((cpB key && decide (n=1)) && blankB ⟨8,u,t,A,0,c,lo,hi,nt,0⟩) && (piece && !(k0 == 1)))=false→∀ W2,WR W2 R bs 50→MvW W W2 R→P W2):=hno
 have H1:Hid (WR (W.alloc (.cells (mi1 ⟨8,u,t,A,n,c,lo,hi,nt,key⟩).toArray 58)) R bs 0∧MvW W (W.alloc (.cells (mi1 ⟨8,u,t,A,n,c,lo,hi,nt,key⟩).toArray 58)) R∧IB (W.alloc (.cells (mi1 ⟨8,u,t,A,n,c,lo,hi,nt,key⟩).toArray 58)) W.heap.size ⟨8,u,t,A,n,c,lo,hi,nt,key⟩):=⟨h.below ((Below.refl _ W).alloc (Nat.le_refl _) _),MvW.of_below (by omega) ((Below.refl _ W).alloc (Nat.le_refl _) _),IB.new _ _⟩
 clear hok hno h hal hpart
 go_enter Tryz.func74,Tryz.ntmps74
 go_wp2_with fail
 refine (H120.out _).mono ?_
 rintro x w2 ⟨rfl,hg⟩
 have H2:Hid (WR w2 R bs 0∧MvW W w2 R∧IB w2 W.heap.size ⟨8,u,t,A,n,c,lo,hi,nt,key⟩):=⟨H1.out.1.below hg.below,H1.out.2.1.trans (MvW.of_below (by have:=H1.out.1.lt;omega) hg.below),H1.out.2.2.same (hg.below.block _ H1.out.2.2.lt)⟩
 obtain ⟨c0,c1,c2,c3,c4,c5,c6,c7⟩:=H2.out.2.2.cells
 clear hg H1 H120
 cases al with
 | false=>
  go_wp2_with fail
  refine (qfail_any 50 H2.out.1).mono ?_
  rintro x w3 ⟨rfl,h3,m3⟩
  have HF:Hid (P w3):=HNO.out (by have hall:=HAL.out;clear HPT;clear HAL HOK HNO H2;simp [alikeB,blankB,cpB] at *;(first | done | omega | (simp_all;done) | (simp_all;omega) | grind)) _ h3 (H2.out.2.1.trans m3)
  clear h3 m3
  go_wp2
  first | refine bodyPost_end (results_none rfl _ _ _) rfl ?_ | refine bodyPost_ret (results_none rfl _ _ _) rfl ?_
  exact ⟨rfl,HF.out⟩
 | true=>
  by_cases hn:n=1
  · subst hn
    obtain ⟨g,z,hA,hc⟩:=HPT.out rfl
    subst hA
    have e0:=hc w2 H2.out.2.1.bel
    clear hc HPT
    cases piece with
    | false=>
     go_wp2_with fail
     refine (qfail_any 50 H2.out.1).mono ?_
     rintro x w3 ⟨rfl,h3,m3⟩
     have HF:Hid (P w3):=HNO.out (by have hall:=HAL.out;clear e0;clear HAL HOK HNO H2;simp [alikeB,blankB,cpB] at *;(first | done | omega | (simp_all;done) | (simp_all;omega) | grind)) _ h3 (H2.out.2.1.trans m3)
     clear h3 m3
     go_wp2
     first | refine bodyPost_end (results_none rfl _ _ _) rfl ?_ | refine bodyPost_ret (results_none rfl _ _ _) rfl ?_
     exact ⟨rfl,HF.out⟩
    | true=>
     by_cases h1:1≤key
     · have d1:decide ((1:Int)≤key)=true:=by simpa using h1
       have HP1:=Hid.mk2 h1
       clear h1
       by_cases h2:key≤999999999
       · have d2:decide (key≤(999999999:Int))=true:=by simpa using h2
         have HP2:=Hid.mk2 h2
         clear h2
         by_cases h3:k0=1
         · have d3:(k0 == 1)=true:=by simpa using h3
           have d4:(k0 != 1)=false:=by simpa using h3
           have HP3:=Hid.mk2 h3
           clear h3
           go_wp2_with fail
           refine (qfail_any 50 H2.out.1).mono ?_
           rintro x w3 ⟨rfl,h3,m3⟩
           have HF:Hid (P w3):=HNO.out (by have hall:=HAL.out;have g1:=HP1.out;have g2:=HP2.out;have g3:=HP3.out;clear e0;clear HAL HOK HNO H2;simp [alikeB,blankB,cpB] at *;(first | done | omega | (simp_all;done) | (simp_all;omega) | grind)) _ h3 (H2.out.2.1.trans m3)
           clear h3 m3
           go_wp2
           first | refine bodyPost_end (results_none rfl _ _ _) rfl ?_ | refine bodyPost_ret (results_none rfl _ _ _) rfl ?_
           exact ⟨rfl,HF.out⟩
         · have d3:(k0 == 1)=false:=by simpa using h3
           have d4:(k0 != 1)=true:=by simpa using h3
           have HP3:=Hid.mk2 h3
           clear h3
           go_wp2_with fail
           refine (HOK.out (by have hall:=HAL.out;have g1:=HP1.out;have g2:=HP2.out;have g3:=HP3.out;clear e0;clear HAL HOK HNO H2;simp [alikeB,blankB,cpB] at *;(first | done | omega | (simp_all;done) | (simp_all;omega) | grind)) _ H2.out.1 H2.out.2.1).mono ?_
           rintro x w3 ⟨rfl,hp3⟩
           have HF:Hid (P w3):=hp3
           clear hp3
           go_wp2
           refine bodyPost_end (results_none rfl _ _ _) rfl ?_
           exact ⟨rfl,HF.out⟩
       · have d2:decide (key≤(999999999:Int))=false:=by simpa using h2
         have HP2:=Hid.mk2 h2
         clear h2
         go_wp2_with fail
         refine (qfail_any 50 H2.out.1).mono ?_
         rintro x w3 ⟨rfl,h3,m3⟩
         have HF:Hid (P w3):=HNO.out (by have hall:=HAL.out;have g1:=HP1.out;have g2:=HP2.out;clear e0;clear HAL HOK HNO H2;simp [alikeB,blankB,cpB] at *;(first | done | omega | (simp_all;done) | (simp_all;omega) | grind)) _ h3 (H2.out.2.1.trans m3)
         clear h3 m3
         go_wp2
         first | refine bodyPost_end (results_none rfl _ _ _) rfl ?_ | refine bodyPost_ret (results_none rfl _ _ _) rfl ?_
         exact ⟨rfl,HF.out⟩
     · have d1:decide ((1:Int)≤key)=false:=by simpa using h1
       have HP1:=Hid.mk2 h1
       clear h1
       go_wp2_with fail
       refine (qfail_any 50 H2.out.1).mono ?_
       rintro x w3 ⟨rfl,h3,m3⟩
       have HF:Hid (P w3):=HNO.out (by have hall:=HAL.out;have g1:=HP1.out;clear e0;clear HAL HOK HNO H2;simp [alikeB,blankB,cpB] at *;(first | done | omega | (simp_all;done) | (simp_all;omega) | grind)) _ h3 (H2.out.2.1.trans m3)
       clear h3 m3
       go_wp2
       first | refine bodyPost_end (results_none rfl _ _ _) rfl ?_ | refine bodyPost_ret (results_none rfl _ _ _) rfl ?_
       exact ⟨rfl,HF.out⟩
  · have dn:((n:Int) == 1)=false:=by simp;omega
    have HP0:=Hid.mk2 hn
    clear hn HPT
    go_wp2_with fail
    refine (qfail_any 50 H2.out.1).mono ?_
    rintro x w3 ⟨rfl,h3,m3⟩
    have HF:Hid (P w3):=HNO.out (by have hall:=HAL.out;have g0:=HP0.out;clear HAL HOK HNO H2;simp [alikeB,blankB,cpB] at *;(first | done | omega | (simp_all;done) | (simp_all;omega) | grind)) _ h3 (H2.out.2.1.trans m3)
    clear h3 m3
    go_wp2
    first | refine bodyPost_end (results_none rfl _ _ _) rfl ?_ | refine bodyPost_ret (results_none rfl _ _ _) rfl ?_
    exact ⟨rfl,HF.out⟩
set_option maxHeartbeats 4000000 in
theorem qitem_else (k u:Int) (t:ByteArray) (A:Option Addr) (n c:Nat) (lo hi:Int) (nt:Bool) (key:Int) (part piece:Bool) (hk:k<1∨8<k) {W:World} {R:Nat} {bs:List UInt8} (h:WR W R bs 0):Calls Tryz.prog 74 #[.pointer (some ⟨R,0,none⟩),mia ⟨k,u,t,A,n,c,lo,hi,nt,key⟩,.bool part,.bool piece] W (WQ W R bs 50):=by
 have hlt:=h.lt
 have H1:Hid (WR (W.alloc (.cells (mi1 ⟨k,u,t,A,n,c,lo,hi,nt,key⟩).toArray 58)) R bs 0∧MvW W (W.alloc (.cells (mi1 ⟨k,u,t,A,n,c,lo,hi,nt,key⟩).toArray 58)) R):=⟨h.below ((Below.refl _ W).alloc (Nat.le_refl _) _),MvW.of_below (by omega) ((Below.refl _ W).alloc (Nat.le_refl _) _)⟩
 have e1:(k == 1)=false:=by simp;omega
 have e2:(k == 2)=false:=by simp;omega
 have e3:(k == 3)=false:=by simp;omega
 have e4:(k == 4)=false:=by simp;omega
 have e5:(k == 5)=false:=by simp;omega
 have e6:(k == 6)=false:=by simp;omega
 have e7:(k == 7)=false:=by simp;omega
 have e8:(k == 8)=false:=by simp;omega
 clear h hk
 go_enter Tryz.func74,Tryz.ntmps74
 go_wp2_with fail
 refine (qfail_any 50 H1.out.1).mono ?_
 rintro x w3 ⟨rfl,h3,m3⟩
 have HF:Hid (WR w3 R bs 50∧MvW W w3 R):=⟨h3,H1.out.2.trans m3⟩
 clear h3 m3
 go_wp2
 first | refine bodyPost_end (results_none rfl _ _ _) rfl ?_ | refine bodyPost_ret (results_none rfl _ _ _) rfl ?_
 exact ⟨rfl,HF.out.1,HF.out.2⟩
end Go.Proofs
namespace Go.Proofs
open Go.RowKit Go.Shelf
set_option maxRecDepth 100000
attribute [local go_sem] Oper.semAt_some
def sepB (cur:Int) (k:Nat):List UInt8:=(if 0<k then [32] else [])++(if (k:Int)=cur then [124,32] else [])
noncomputable def rwJ (cur:Int) (l:List It) (j:Nat):List UInt8:=((List.range j).map fun k=>sepB cur k++(texS (l.getD k nIt)).data.toList).flatten
theorem rwJ_succ {cur:Int} {l:List It} {j:Nat} {i:It} (h:l[j]? = some i):rwJ cur l (j+1)=rwJ cur l j++(sepB cur j++(texS i).data.toList):=by
 unfold rwJ
 rw [List.range_succ,List.map_append,List.flatten_append]
 simp [List.getD,h]
def WP (W:World) (R:Nat) (bs ts:List UInt8) (B:Nat) (o:Option Int) (W':World):Prop:=MvW W W' R∧match o with
 | none=>WR W' R (bs++ts) 0
 | some e=>∃ bs',WR W' R bs' e∧bs'.length≤bs.length+B
theorem WP.trans {W W1 W2:World} {R:Nat} {bs ts:List UInt8} {B:Nat} {o:Option Int} (h:WP W1 R bs ts B o W2) (hm:MvW W W1 R):WP W R bs ts B o W2:=⟨hm.trans h.1,h.2⟩
theorem WR.cells {W:World} {R:Nat} {bs:List UInt8} {c:Int} (h:WR W R bs c):W.cell? ⟨R,1,none⟩=some (.int .i64 c):=by
 obtain ⟨v,h1,_⟩:=h
 rw [Lib.cell_of_heap h1]
 rfl
theorem sepB_len (cur:Int) (k:Nat):(sepB cur k).length≤3:=by
 unfold sepB
 rw [List.length_append]
 split <;> split <;> simp
def RwS (f:It→Option Int) (l:List It) (W:World) (R:Nat) (bs:List UInt8) (cur:Int) (B j:Nat) (wr:World):Prop:=MvW W wr R ∧
 (((l.take j).findSome? f=none∧WR wr R (bs++rwJ cur l j) 0∧(rwJ cur l j).length≤j*(B+3))∨∃ e bs',l.findSome? f=some e∧e≠0∧WR wr R bs' e∧bs'.length≤bs.length+512*(B+3))
set_option maxHeartbeats 8000000 in
theorem qrow_any (f:It→Option Int) (hnz:∀ i e,f i=some e→e≠0) (B:Nat) (hB:B≤10000000) (W:World) (R:Nat) (bs:List UInt8) (A:Option Addr) (n c:Nat) (ms:List MI) (l:List It) (hR:RdR W A n ms) (hl:ms.length=l.length) (hAR:∀ g z,A=some ⟨g,z,none⟩→n≠0→g<R) (part piece:Bool) (cur:Int) (h:WR W R bs 0) (L:Nat) (hL:L≤100000000000000) (hbs:bs.length≤L)
 (hI:∀ (j:Nat) (m:MI) (i:It),ms[j]? = some m→l[j]? = some i→∀ W2 bs2,Below R W W2→WR W2 R bs2 0→bs2.length≤L+6000000000→Calls Tryz.prog 74 #[.pointer (some ⟨R,0,none⟩),mia m,.bool part,.bool piece] W2 fun x W'=>x = .returned (.tuple #[])∧WP W2 R bs2 (texS i).data.toList B (f i) W') (hts:∀ i∈l,f i=none→(texS i).size≤B) :
 Calls Tryz.prog 122 #[.pointer (some ⟨R,0,none⟩),.slice A n c,.bool part,.bool piece,.int .i64 cur] W fun x W'=>x = .returned (.tuple #[])∧WP W R bs (rwJ cur l l.length) (512*(B+3)) (ckRw f l) W':=by
 obtain ⟨hn,hnm,hr⟩:=hR
 have hln:n=l.length:=by omega
 by_cases h512:512<n
 · have d1:decide ((512:Int)<(n:Int))=true:=by simp;omega
   have HS:Hid (ckRw f l=some 52):=by show _=_;rw [ckRw,if_pos (by omega)]
   have H:Hid (WR W R bs 0):=h
   clear hr hn hl hI hnz hAR hts h h512 hln
   go_enter Tryz.func122,Tryz.ntmps122
   go_wp2_with fail
   refine (qfail_any 52 H.out).mono ?_
   rintro x w2 ⟨rfl,h2,m2⟩
   have HF:Hid (WP W R bs (rwJ cur l l.length) (512*(B+3)) (ckRw f l) w2):=by
    show WP _ _ _ _ _ _ _
    rw [HS.out]
    exact ⟨m2,bs,h2,by omega⟩
   clear h2 m2
   go_wp2
   first | refine bodyPost_end (results_none rfl _ _ _) rfl ?_ | refine bodyPost_ret (results_none rfl _ _ _) rfl ?_
   exact ⟨rfl,HF.out⟩
 · have d1:decide ((512:Int)<(n:Int))=false:=by simp;omega
   have HS:Hid (ckRw f l=l.findSome? f):=by show _=_;rw [ckRw,if_neg (by omega)]
   have HL:Hid (n=l.length∧n=ms.length∧n≤512∧(n=0∨∃ g z,A=some ⟨g,z,none⟩∧ReadsI W g z ms)∧(∀ g z,A=some ⟨g,z,none⟩→n≠0→g<R)∧bs.length≤L):=⟨hln,hn,by omega,hr,hAR,hbs⟩
   have HI:Hid (∀ (j:Nat) (m:MI) (i:It),ms[j]? = some m→l[j]? = some i→∀ W2 bs2,Below R W W2→WR W2 R bs2 0→bs2.length≤L+6000000000→Calls Tryz.prog 74 #[.pointer (some ⟨R,0,none⟩),mia m,.bool part,.bool piece] W2 fun x W'=>x = .returned (.tuple #[])∧WP W2 R bs2 (texS i).data.toList B (f i) W'):=hI
   have HZ:Hid ((∀ i e,f i=some e→e≠0)∧(∀ i∈l,f i=none→(texS i).size≤B)∧B≤10000000):=⟨hnz,hts,hB⟩
   have H0:Hid (RwS f l W R bs cur B 0 W):=⟨MvW.refl _ _,.inl ⟨by simp,by simpa [rwJ] using h,by simp [rwJ]⟩⟩
   have hN512:=HL.out.2.2.1
   clear hr hn hl hI hnz hAR hts h h512 hln hbs hnm hB
   go_enter Tryz.func122,Tryz.ntmps122
   go_wp2_with fail
   go_loopw [10] (fun vi wr=>∃ j:Nat,vi = .int .i64 j∧j≤n∧Hid (RwS f l W R bs cur B j wr)) (fun vi _=>n - (intOf vi).toNat)
   case atStart=>exact ⟨0,rfl,by omega,H0⟩
   case round=>
    obtain ⟨j,rfl,hj,HR⟩:=hrel
    obtain ⟨wo,rfl⟩:∃ wo,wo=wr:=⟨_,rfl⟩
    clear H0
    by_cases hjn:j<n
    · have e1:decide ((j:Int)<(n:Int))=true:=by simpa using hjn
      rcases HR.out.2 with ⟨hf,hw,hlen⟩ | ⟨e,bs',hf,he,hw,hlen⟩
      · have r1:=hw.cells
        obtain ⟨m,hm⟩:∃ m,ms[j]? = some m:=⟨ms[j]'(by have:=HL.out.2.1;omega),List.getElem?_eq_getElem _⟩
        obtain ⟨i,hi⟩:∃ i,l[j]? = some i:=⟨l[j]'(by have:=HL.out.1;omega),List.getElem?_eq_getElem _⟩
        obtain ⟨g,z,hA,hr⟩:=HL.out.2.2.2.1.resolve_left (by omega)
        subst hA
        have hgR:=HL.out.2.2.2.2.1 g z rfl (by omega)
        have hj3:j*(B+3)≤512*(B+3):=Nat.mul_le_mul_right _ (by have:=HL.out.2.2.1;omega)
        have hB:=HZ.out.2.2
        have hb0:=HL.out.2.2.2.2.2
        have hbl:(bs++rwJ cur l j).length≤L+512*10000003:=by
         rw [List.length_append]
         have:512*(B+3)≤512*10000003:=Nat.mul_le_mul_left _ (by omega)
         omega
        have HB:Hid ((bs++rwJ cur l j).length≤L+512*10000003):=hbl
        have HW:Hid (WR wo R (bs++rwJ cur l j) 0∧(l.take j).findSome? f=none∧(rwJ cur l j).length≤j*(B+3)∧ms[j]? = some m∧l[j]? = some i∧ReadsI W g z ms∧g<R):=⟨hw,hf,hlen,hm,hi,hr,hgR⟩
        clear hw hf hlen hm hi hr hgR hj3 hB hb0 hbl
        -- what stands ahead
        have HS1:Hid (∀ W2 b2,WR W2 R b2 0→b2.length≤L+512*10000003+1→(Calls Tryz.prog 72 #[.pointer (some ⟨R,0,none⟩),.string ⟨#[32]⟩] W2 (WQ W2 R (b2++[32]) 0))∧(Calls Tryz.prog 72 #[.pointer (some ⟨R,0,none⟩),.string ⟨#[124,32]⟩] W2 (WQ W2 R (b2++[124,32]) 0))):=fun W2 b2 hb hbz=>⟨qput_any ⟨#[32]⟩ hb (by show b2.length+1≤_;omega),qput_any ⟨#[124,32]⟩ hb (by show b2.length+2≤_;omega)⟩
        have hend:∀ wz b3,b3=bs++rwJ cur l j++sepB cur j→WR wz R b3 0→MvW wo wz R→(∀ k v,(mi1 m)[k]? = some v→wz.cell? ⟨g,z+j*8+k,none⟩=some v)∧Calls Tryz.prog 74 #[.pointer (some ⟨R,0,none⟩),mia m,.bool part,.bool piece] wz fun x W'=>x = .returned (.tuple #[])∧RwS f l W R bs cur B (j+1) W':=by
         intro wz b3 e3 h3 m3
         have hbel:Below R W wz:=HR.out.1.bel.trans m3.bel
         have h3l:b3.length≤L+6000000000:=by
          rw [e3,List.length_append]
          have:=HB.out
          have:=sepB_len cur j
          omega
         refine ⟨fun k v hv => ?_,(HI.out j m i HW.out.2.2.2.1 HW.out.2.2.2.2.1 wz b3 hbel h3 h3l).mono ?_⟩
         · have h0:=HW.out.2.2.2.2.2.1 j m HW.out.2.2.2.1 k v hv
           rw [←h0]
           exact hbel.cell (p:=⟨g,z+j*8+k,none⟩) HW.out.2.2.2.2.2.2
         · rintro x W' ⟨rfl,hm4,hx⟩
           refine ⟨rfl,HR.out.1.trans (m3.trans hm4),?_⟩
           cases hfi:f i with
           | none=>
            rw [hfi] at hx
            simp only at hx
            refine .inl ⟨find_more f l j i HW.out.2.1 HW.out.2.2.2.2.1 hfi,?_,?_⟩
            · rw [rwJ_succ HW.out.2.2.2.2.1,←List.append_assoc,←List.append_assoc,←e3]
              exact hx
            · rw [rwJ_succ HW.out.2.2.2.2.1,List.length_append,List.length_append]
              have h1:=HW.out.2.2.1
              have h2:=sepB_len cur j
              have h4:=HZ.out.2.1 i (List.mem_of_getElem? HW.out.2.2.2.2.1) hfi
              have h5:(texS i).data.toList.length=(texS i).size:=Array.length_toList
              rw [Nat.add_mul]
              omega
           | some e=>
            rw [hfi] at hx
            obtain ⟨bs',hb',hbl'⟩:=hx
            refine .inr ⟨e,bs',find_at f l j i e HW.out.2.1 HW.out.2.2.2.2.1 hfi,HZ.out.1 i e hfi,hb',?_⟩
            rw [e3,List.length_append,List.length_append] at hbl'
            have h1:=HW.out.2.2.1
            have h2:=sepB_len cur j
            have hjj:(j+1)*(B+3)≤512*(B+3):=Nat.mul_le_mul_right _ (by have:=HL.out.2.2.1;omega)
            rw [Nat.add_mul] at hjj
            omega
        have HE:=Hid.mk2 hend
        clear hend HI HZ
        have hsplit:(0<j∧(j:Int)=cur)∨(0<j∧(j:Int)≠cur)∨(j=0∧(0:Int)=cur)∨(j=0∧(0:Int)≠cur):=by omega
        rcases hsplit with ⟨s1,s2⟩ | ⟨s1,s2⟩ | ⟨s1,s2⟩ | ⟨s1,s2⟩
        · have g1:decide ((0:Int)<(j:Int))=true:=by simpa using s1
          have g2:((j:Int) == cur)=true:=by simpa using s2
          have HSP:Hid (sepB cur j=[32]++[124,32]):=by show _=_;rw [sepB,if_pos s1,if_pos s2]
          clear s2
          go_wp2_with fail
          refine ((HS1.out _ _ HW.out.1 (by have:=HB.out;omega)).1).mono ?_
          rintro x wa ⟨rfl,ha,ma⟩
          have HA:=Hid.mk2 (And.intro ha ma)
          clear ha ma
          go_wp2_with fail
          refine ((HS1.out _ _ HA.out.1 (by have:=HB.out;rw [List.length_append,List.length_singleton];omega)).2).mono ?_
          rintro x wb ⟨rfl,hb,mb⟩
          obtain ⟨hce,hca⟩:=HE.out wb _ (by rw [HSP.out,←List.append_assoc]) hb (HA.out.2.trans mb)
          have q0:=hce 0 _ rfl
          have q1:=hce 1 _ rfl
          have q2:=hce 2 _ rfl
          have q3:=hce 3 _ rfl
          have q4:=hce 4 _ rfl
          have q5:=hce 5 _ rfl
          have q6:=hce 6 _ rfl
          have q7:=hce 7 _ rfl
          simp only [Nat.add_zero] at q0
          have HC:=Hid.mk2 hca
          clear hce hca hb mb HA HS1 HE
          go_wp2_with fail
          refine HC.out.mono ?_
          rintro x wc ⟨rfl,hs⟩
          have HF:=Hid.mk2 hs
          clear hs HC q0 q1 q2 q3 q4 q5 q6 q7
          go_wp2
          exact ⟨⟨j+1,by go_num,by omega,HF⟩,by simp [intOf];omega⟩
        · have g1:decide ((0:Int)<(j:Int))=true:=by simpa using s1
          have g2:((j:Int) == cur)=false:=by simpa using s2
          have HSP:Hid (sepB cur j=[32]):=by show _=_;rw [sepB,if_pos s1,if_neg s2];rfl
          clear s2
          go_wp2_with fail
          refine ((HS1.out _ _ HW.out.1 (by have:=HB.out;omega)).1).mono ?_
          rintro x wb ⟨rfl,hb,mb⟩
          obtain ⟨hce,hca⟩:=HE.out wb _ (by rw [HSP.out]) hb mb
          have q0:=hce 0 _ rfl
          have q1:=hce 1 _ rfl
          have q2:=hce 2 _ rfl
          have q3:=hce 3 _ rfl
          have q4:=hce 4 _ rfl
          have q5:=hce 5 _ rfl
          have q6:=hce 6 _ rfl
          have q7:=hce 7 _ rfl
          simp only [Nat.add_zero] at q0
          have HC:=Hid.mk2 hca
          clear hce hca hb mb HS1 HE
          go_wp2_with fail
          refine HC.out.mono ?_
          rintro x wc ⟨rfl,hs⟩
          have HF:=Hid.mk2 hs
          clear hs HC q0 q1 q2 q3 q4 q5 q6 q7
          go_wp2
          exact ⟨⟨j+1,by go_num,by omega,HF⟩,by simp [intOf];omega⟩
        · subst s1
          have g2:((0:Int) == cur)=true:=by simpa using s2
          have HSP:Hid (sepB cur 0=[124,32]):=by show _=_;rw [sepB,if_neg (by omega),if_pos (show ((0:Nat):Int)=cur from s2)];rfl
          clear s2
          go_wp2_with fail
          refine ((HS1.out _ _ HW.out.1 (by have:=HB.out;omega)).2).mono ?_
          rintro x wb ⟨rfl,hb,mb⟩
          obtain ⟨hce,hca⟩:=HE.out wb _ (by rw [HSP.out]) hb mb
          have q0:=hce 0 _ rfl
          have q1:=hce 1 _ rfl
          have q2:=hce 2 _ rfl
          have q3:=hce 3 _ rfl
          have q4:=hce 4 _ rfl
          have q5:=hce 5 _ rfl
          have q6:=hce 6 _ rfl
          have q7:=hce 7 _ rfl
          simp only [Nat.add_zero,Nat.zero_mul] at q0 q1 q2 q3 q4 q5 q6 q7
          have HC:=Hid.mk2 hca
          clear hce hca hb mb HS1 HE
          go_wp2_with fail
          refine HC.out.mono ?_
          rintro x wc ⟨rfl,hs⟩
          have HF:=Hid.mk2 hs
          clear hs HC q0 q1 q2 q3 q4 q5 q6 q7
          go_wp2
          exact ⟨⟨1,by go_num,by omega,HF⟩,by simp [intOf];omega⟩
        · subst s1
          have g2:((0:Int) == cur)=false:=by simpa using s2
          have HSP:Hid (sepB cur 0=[]):=by show _=_;rw [sepB,if_neg (by omega),if_neg (show ¬ ((0:Nat):Int)=cur from s2)];rfl
          clear s2
          obtain ⟨hce,hca⟩:=HE.out wo _ (by rw [HSP.out,List.append_nil]) HW.out.1 (MvW.refl _ _)
          have q0:=hce 0 _ rfl
          have q1:=hce 1 _ rfl
          have q2:=hce 2 _ rfl
          have q3:=hce 3 _ rfl
          have q4:=hce 4 _ rfl
          have q5:=hce 5 _ rfl
          have q6:=hce 6 _ rfl
          have q7:=hce 7 _ rfl
          simp only [Nat.add_zero,Nat.zero_mul] at q0 q1 q2 q3 q4 q5 q6 q7
          have HC:=Hid.mk2 hca
          clear hce hca HS1 HE
          go_wp2_with fail
          refine HC.out.mono ?_
          rintro x wc ⟨rfl,hs⟩
          have HF:=Hid.mk2 hs
          clear hs HC q0 q1 q2 q3 q4 q5 q6 q7
          go_wp2
          exact ⟨⟨1,by go_num,by omega,HF⟩,by simp [intOf];omega⟩
      · have r1:=hw.cells
        have r0:(e == 0)=false:=by simpa using he
        have HF:Hid (WP W R bs (rwJ cur l l.length) (512*(B+3)) (ckRw f l) wo):=by
         show WP _ _ _ _ _ _ _
         rw [HS.out,hf]
         exact ⟨HR.out.1,bs',hw,hlen⟩
        clear hw he hf hlen HI HZ
        go_wp2
        refine bodyPost_end (results_none rfl _ _ _) rfl ?_
        exact ⟨rfl,HF.out⟩
    · have e1:decide ((j:Int)<(n:Int))=false:=by simpa using hjn
      have HF:Hid (WP W R bs (rwJ cur l l.length) (512*(B+3)) (ckRw f l) wo):=by
       show WP _ _ _ _ _ _ _
       rw [HS.out]
       refine ⟨HR.out.1,?_⟩
       rcases HR.out.2 with ⟨hf,hw,hlen⟩ | ⟨e,bs',hf,he,hw,hlen⟩
       · have hjl:j=l.length:=by have:=HL.out.1;omega
         rw [List.take_of_length_le (by omega)] at hf
         rw [hf]
         rw [hjl] at hw
         exact hw
       · rw [hf]
         exact ⟨bs',hw,hlen⟩
      clear HI HZ
      go_wp2
      refine bodyPost_end (results_none rfl _ _ _) rfl ?_
      exact ⟨rfl,HF.out⟩
end Go.Proofs
