/-
  The document's writing of an item, by its kind: what it lets by.
-/
import Derived.Test.YtknaoahokopplaaGreatDoorMgvp
namespace Go.Proofs
open Go.RowKit Go.Shelf
set_option maxRecDepth 100000
attribute [local go_sem] Oper.semAt_some
set_option maxHeartbeats 4000000 in
theorem qitem_1 (u:Int) (t:ByteArray) (A:Option Addr) (n c:Nat) (lo hi:Int) (nt:Bool) (key:Int) (part piece:Bool) (ht:t.size≤maxLen)  {W:World} {R:Nat} {bs:List UInt8} (h:WR W R bs 0) (P:World→Prop)
 (hok:(blankB ⟨1,0,t,A,n,c,lo,hi,nt,key⟩)=true→∀ W2,WR W2 R bs 0→MvW W W2 R→Calls Tryz.prog 121 #[.pointer (some ⟨R,0,none⟩),mia ⟨1,u,t,A,n,c,lo,hi,nt,key⟩] W2 fun x W'=>x = .returned (.tuple #[])∧P W')
 (hno:(blankB ⟨1,0,t,A,n,c,lo,hi,nt,key⟩)=false→∀ W2,WR W2 R bs 50→MvW W W2 R→P W2) :
 Calls Tryz.prog 74 #[.pointer (some ⟨R,0,none⟩),mia ⟨1,u,t,A,n,c,lo,hi,nt,key⟩,.bool part,.bool piece] W fun x W'=>x = .returned (.tuple #[])∧P W':=by
 have hlt:=h.lt
 obtain ⟨al,hal⟩:∃ al,alikeB ⟨1,u,t,A,n,c,lo,hi,nt,key⟩ ⟨1,u,⟨#[]⟩,none,0,0,0,0,false,0⟩=al:=⟨_,rfl⟩
 have H120:Hid (∀ w:World,Calls Tryz.prog 120 #[mia ⟨1,u,t,A,n,c,lo,hi,nt,key⟩,mia ⟨0,u,⟨#[]⟩,none,0,0,0,0,false,0⟩] w fun e w'=>e = .returned (.bool al)∧Grown w w'):=fun w=>by
  have:=qbare_any ⟨1,u,t,A,n,c,lo,hi,nt,key⟩ ⟨0,u,⟨#[]⟩,none,0,0,0,0,false,0⟩ w
  rwa [show alikeB ⟨1,u,t,A,n,c,lo,hi,nt,key⟩ { (⟨0,u,⟨#[]⟩,none,0,0,0,0,false,0⟩:MI) with k:=1 } = al from hal] at this
 have H73:Hid (∀ w:World,Calls Tryz.prog 73 #[.string t] w fun e w'=>e = .returned (.bool (nameOk t))∧w'=w):=fun w=>qnamed_any t ht w
 have HAL:Hid (alikeB ⟨1,u,t,A,n,c,lo,hi,nt,key⟩ ⟨1,u,⟨#[]⟩,none,0,0,0,0,false,0⟩=al):=hal
 have HOK:Hid ((blankB ⟨1,0,t,A,n,c,lo,hi,nt,key⟩)=true→∀ W2,WR W2 R bs 0→MvW W W2 R→Calls Tryz.prog 121 #[.pointer (some ⟨R,0,none⟩),mia ⟨1,u,t,A,n,c,lo,hi,nt,key⟩] W2 fun x W'=>x = .returned (.tuple #[])∧P W'):=hok
 have HNO:Hid ((blankB ⟨1,0,t,A,n,c,lo,hi,nt,key⟩)=false→∀ W2,WR W2 R bs 50→MvW W W2 R→P W2):=hno
 have H1:Hid (WR (W.alloc (.cells (mi1 ⟨1,u,t,A,n,c,lo,hi,nt,key⟩).toArray 58)) R bs 0∧MvW W (W.alloc (.cells (mi1 ⟨1,u,t,A,n,c,lo,hi,nt,key⟩).toArray 58)) R∧IB (W.alloc (.cells (mi1 ⟨1,u,t,A,n,c,lo,hi,nt,key⟩).toArray 58)) W.heap.size ⟨1,u,t,A,n,c,lo,hi,nt,key⟩):=⟨h.below ((Below.refl _ W).alloc (Nat.le_refl _) _),MvW.of_below (by omega) ((Below.refl _ W).alloc (Nat.le_refl _) _),IB.new _ _⟩
 clear hok hno h hal
 go_enter Tryz.func74,Tryz.ntmps74
 go_wp2_with fail
 refine (H120.out _).mono ?_
 rintro x w2 ⟨rfl,hg⟩
 have H2:Hid (WR w2 R bs 0∧MvW W w2 R∧IB w2 W.heap.size ⟨1,u,t,A,n,c,lo,hi,nt,key⟩):=⟨H1.out.1.below hg.below,H1.out.2.1.trans (MvW.of_below (by have:=H1.out.1.lt;omega) hg.below),H1.out.2.2.same (hg.below.block _ H1.out.2.2.lt)⟩
 obtain ⟨c0,c1,c2,c3,c4,c5,c6,c7⟩:=H2.out.2.2.cells
 clear hg H1 H120
 cases al with
 | false=>
  go_wp2_with fail
  refine (qfail_any 50 H2.out.1).mono ?_
  rintro x w3 ⟨rfl,h3,m3⟩
  have HF:Hid (P w3):=HNO.out (by have hall:=HAL.out;clear HAL HOK HNO H73 H2;simp [alikeB,blankB] at *;(first | done | omega | (simp_all;done) | (simp_all;omega) | grind)) _ h3 (H2.out.2.1.trans m3)
  clear h3 m3
  go_wp2
  first | refine bodyPost_end (results_none rfl _ _ _) rfl ?_ | refine bodyPost_ret (results_none rfl _ _ _) rfl ?_
  exact ⟨rfl,HF.out⟩
 | true=>
  by_cases hp1:n=0
  · have d1:((n:Int) == 0)=true:=by simpa using hp1
    have HP1:=Hid.mk2 hp1
    clear hp1
    go_wp2_with fail
    refine (HOK.out (by have hall:=HAL.out;have g0:=HP1.out;clear HAL HOK HNO H73 H2;simp [alikeB,blankB] at *;(first | done | omega | (simp_all;done) | (simp_all;omega) | grind)) _ H2.out.1 H2.out.2.1).mono ?_
    rintro x w3 ⟨rfl,hp3⟩
    have HF:Hid (P w3):=hp3
    clear hp3
    go_wp2
    first | refine bodyPost_end (results_none rfl _ _ _) rfl ?_ | refine bodyPost_ret (results_none rfl _ _ _) rfl ?_
    exact ⟨rfl,HF.out⟩
  · have d1:((n:Int) == 0)=false:=by simpa using hp1
    have HP1:=Hid.mk2 hp1
    clear hp1
    go_wp2_with fail
    refine (qfail_any 50 H2.out.1).mono ?_
    rintro x w3 ⟨rfl,h3,m3⟩
    have HF:Hid (P w3):=HNO.out (by have hall:=HAL.out;have g0:=HP1.out;clear HAL HOK HNO H73 H2;simp [alikeB,blankB] at *;(first | done | omega | (simp_all;done) | (simp_all;omega) | grind)) _ h3 (H2.out.2.1.trans m3)
    clear h3 m3
    go_wp2
    first | refine bodyPost_end (results_none rfl _ _ _) rfl ?_ | refine bodyPost_ret (results_none rfl _ _ _) rfl ?_
    exact ⟨rfl,HF.out⟩
set_option maxHeartbeats 4000000 in
theorem qitem_2 (u:Int) (t:ByteArray) (A:Option Addr) (n c:Nat) (lo hi:Int) (nt:Bool) (key:Int) (part piece:Bool) (ht:t.size≤maxLen)  {W:World} {R:Nat} {bs:List UInt8} (h:WR W R bs 0) (P:World→Prop)
 (hok:((nameOk t && blankB ⟨2,u,⟨#[]⟩,A,n,c,lo,hi,nt,key⟩) && !piece)=true→∀ W2,WR W2 R bs 0→MvW W W2 R→Calls Tryz.prog 121 #[.pointer (some ⟨R,0,none⟩),mia ⟨2,u,t,A,n,c,lo,hi,nt,key⟩] W2 fun x W'=>x = .returned (.tuple #[])∧P W')
 (hno:((nameOk t && blankB ⟨2,u,⟨#[]⟩,A,n,c,lo,hi,nt,key⟩) && !piece)=false→∀ W2,WR W2 R bs 50→MvW W W2 R→P W2) :
 Calls Tryz.prog 74 #[.pointer (some ⟨R,0,none⟩),mia ⟨2,u,t,A,n,c,lo,hi,nt,key⟩,.bool part,.bool piece] W fun x W'=>x = .returned (.tuple #[])∧P W':=by
 have hlt:=h.lt
 obtain ⟨al,hal⟩:∃ al,alikeB ⟨2,u,t,A,n,c,lo,hi,nt,key⟩ ⟨2,0,t,none,0,0,0,0,false,0⟩=al:=⟨_,rfl⟩
 have H120:Hid (∀ w:World,Calls Tryz.prog 120 #[mia ⟨2,u,t,A,n,c,lo,hi,nt,key⟩,mia ⟨0,0,t,none,0,0,0,0,false,0⟩] w fun e w'=>e = .returned (.bool al)∧Grown w w'):=fun w=>by
  have:=qbare_any ⟨2,u,t,A,n,c,lo,hi,nt,key⟩ ⟨0,0,t,none,0,0,0,0,false,0⟩ w
  rwa [show alikeB ⟨2,u,t,A,n,c,lo,hi,nt,key⟩ { (⟨0,0,t,none,0,0,0,0,false,0⟩:MI) with k:=2 } = al from hal] at this
 have H73:Hid (∀ w:World,Calls Tryz.prog 73 #[.string t] w fun e w'=>e = .returned (.bool (nameOk t))∧w'=w):=fun w=>qnamed_any t ht w
 have HAL:Hid (alikeB ⟨2,u,t,A,n,c,lo,hi,nt,key⟩ ⟨2,0,t,none,0,0,0,0,false,0⟩=al):=hal
 have HOK:Hid (((nameOk t && blankB ⟨2,u,⟨#[]⟩,A,n,c,lo,hi,nt,key⟩) && !piece)=true→∀ W2,WR W2 R bs 0→MvW W W2 R→Calls Tryz.prog 121 #[.pointer (some ⟨R,0,none⟩),mia ⟨2,u,t,A,n,c,lo,hi,nt,key⟩] W2 fun x W'=>x = .returned (.tuple #[])∧P W'):=hok
 have HNO:Hid (((nameOk t && blankB ⟨2,u,⟨#[]⟩,A,n,c,lo,hi,nt,key⟩) && !piece)=false→∀ W2,WR W2 R bs 50→MvW W W2 R→P W2):=hno
 have H1:Hid (WR (W.alloc (.cells (mi1 ⟨2,u,t,A,n,c,lo,hi,nt,key⟩).toArray 58)) R bs 0∧MvW W (W.alloc (.cells (mi1 ⟨2,u,t,A,n,c,lo,hi,nt,key⟩).toArray 58)) R∧IB (W.alloc (.cells (mi1 ⟨2,u,t,A,n,c,lo,hi,nt,key⟩).toArray 58)) W.heap.size ⟨2,u,t,A,n,c,lo,hi,nt,key⟩):=⟨h.below ((Below.refl _ W).alloc (Nat.le_refl _) _),MvW.of_below (by omega) ((Below.refl _ W).alloc (Nat.le_refl _) _),IB.new _ _⟩
 clear hok hno h hal
 go_enter Tryz.func74,Tryz.ntmps74
 go_wp2_with fail
 refine (H120.out _).mono ?_
 rintro x w2 ⟨rfl,hg⟩
 have H2:Hid (WR w2 R bs 0∧MvW W w2 R∧IB w2 W.heap.size ⟨2,u,t,A,n,c,lo,hi,nt,key⟩):=⟨H1.out.1.below hg.below,H1.out.2.1.trans (MvW.of_below (by have:=H1.out.1.lt;omega) hg.below),H1.out.2.2.same (hg.below.block _ H1.out.2.2.lt)⟩
 obtain ⟨c0,c1,c2,c3,c4,c5,c6,c7⟩:=H2.out.2.2.cells
 clear hg H1 H120
 cases al with
 | false=>
  go_wp2_with fail
  refine (qfail_any 50 H2.out.1).mono ?_
  rintro x w3 ⟨rfl,h3,m3⟩
  have HF:Hid (P w3):=HNO.out (by have hall:=HAL.out;clear HAL HOK HNO H73 H2;simp [alikeB,blankB] at *;(first | done | omega | (simp_all;done) | (simp_all;omega) | grind)) _ h3 (H2.out.2.1.trans m3)
  clear h3 m3
  go_wp2
  first | refine bodyPost_end (results_none rfl _ _ _) rfl ?_ | refine bodyPost_ret (results_none rfl _ _ _) rfl ?_
  exact ⟨rfl,HF.out⟩
 | true=>
  by_cases hp1:n=0
  · have d1:((n:Int) == 0)=true:=by simpa using hp1
    have HP1:=Hid.mk2 hp1
    clear hp1
    go_wp2_with fail
    refine (H73.out _).mono ?_
    rintro x w9 ⟨rfl,rfl⟩
    obtain ⟨nb,hnb⟩:∃ nb,nameOk t=nb:=⟨_,rfl⟩
    rw [hnb] at HOK HNO ⊢
    clear hnb
    cases nb with
    | false=>
     go_wp2_with fail
     refine (qfail_any 50 H2.out.1).mono ?_
     rintro x w3 ⟨rfl,h3,m3⟩
     have HF:Hid (P w3):=HNO.out (by have hall:=HAL.out;have g0:=HP1.out;clear HAL HOK HNO H73 H2;simp [alikeB,blankB] at *;(first | done | omega | (simp_all;done) | (simp_all;omega) | grind)) _ h3 (H2.out.2.1.trans m3)
     clear h3 m3
     go_wp2
     first | refine bodyPost_end (results_none rfl _ _ _) rfl ?_ | refine bodyPost_ret (results_none rfl _ _ _) rfl ?_
     exact ⟨rfl,HF.out⟩
    | true=>
     cases piece with
     | true=>
      go_wp2_with fail
      refine (qfail_any 50 H2.out.1).mono ?_
      rintro x w3 ⟨rfl,h3,m3⟩
      have HF:Hid (P w3):=HNO.out (by have hall:=HAL.out;have g0:=HP1.out;clear HAL HOK HNO H73 H2;simp [alikeB,blankB] at *;(first | done | omega | (simp_all;done) | (simp_all;omega) | grind)) _ h3 (H2.out.2.1.trans m3)
      clear h3 m3
      go_wp2
      first | refine bodyPost_end (results_none rfl _ _ _) rfl ?_ | refine bodyPost_ret (results_none rfl _ _ _) rfl ?_
      exact ⟨rfl,HF.out⟩
     | false=>
      go_wp2_with fail
      refine (HOK.out (by have hall:=HAL.out;have g0:=HP1.out;clear HAL HOK HNO H73 H2;simp [alikeB,blankB] at *;(first | done | omega | (simp_all;done) | (simp_all;omega) | grind)) _ H2.out.1 H2.out.2.1).mono ?_
      rintro x w3 ⟨rfl,hp3⟩
      have HF:Hid (P w3):=hp3
      clear hp3
      go_wp2
      first | refine bodyPost_end (results_none rfl _ _ _) rfl ?_ | refine bodyPost_ret (results_none rfl _ _ _) rfl ?_
      exact ⟨rfl,HF.out⟩
  · have d1:((n:Int) == 0)=false:=by simpa using hp1
    have HP1:=Hid.mk2 hp1
    clear hp1
    go_wp2_with fail
    refine (qfail_any 50 H2.out.1).mono ?_
    rintro x w3 ⟨rfl,h3,m3⟩
    have HF:Hid (P w3):=HNO.out (by have hall:=HAL.out;have g0:=HP1.out;clear HAL HOK HNO H73 H2;simp [alikeB,blankB] at *;(first | done | omega | (simp_all;done) | (simp_all;omega) | grind)) _ h3 (H2.out.2.1.trans m3)
    clear h3 m3
    go_wp2
    first | refine bodyPost_end (results_none rfl _ _ _) rfl ?_ | refine bodyPost_ret (results_none rfl _ _ _) rfl ?_
    exact ⟨rfl,HF.out⟩
set_option maxHeartbeats 4000000 in
theorem qitem_3 (u:Int) (t:ByteArray) (A:Option Addr) (n c:Nat) (lo hi:Int) (nt:Bool) (key:Int) (part piece:Bool) (ht:t.size≤maxLen)  {W:World} {R:Nat} {bs:List UInt8} (h:WR W R bs 0) (P:World→Prop)
 (hok:((nameOk t && blankB ⟨3,u,⟨#[]⟩,A,n,c,lo,hi,nt,key⟩) && !piece)=true→∀ W2,WR W2 R bs 0→MvW W W2 R→Calls Tryz.prog 121 #[.pointer (some ⟨R,0,none⟩),mia ⟨3,u,t,A,n,c,lo,hi,nt,key⟩] W2 fun x W'=>x = .returned (.tuple #[])∧P W')
 (hno:((nameOk t && blankB ⟨3,u,⟨#[]⟩,A,n,c,lo,hi,nt,key⟩) && !piece)=false→∀ W2,WR W2 R bs 50→MvW W W2 R→P W2) :
 Calls Tryz.prog 74 #[.pointer (some ⟨R,0,none⟩),mia ⟨3,u,t,A,n,c,lo,hi,nt,key⟩,.bool part,.bool piece] W fun x W'=>x = .returned (.tuple #[])∧P W':=by
 have hlt:=h.lt
 obtain ⟨al,hal⟩:∃ al,alikeB ⟨3,u,t,A,n,c,lo,hi,nt,key⟩ ⟨3,0,t,none,0,0,0,0,false,0⟩=al:=⟨_,rfl⟩
 have H120:Hid (∀ w:World,Calls Tryz.prog 120 #[mia ⟨3,u,t,A,n,c,lo,hi,nt,key⟩,mia ⟨0,0,t,none,0,0,0,0,false,0⟩] w fun e w'=>e = .returned (.bool al)∧Grown w w'):=fun w=>by
  have:=qbare_any ⟨3,u,t,A,n,c,lo,hi,nt,key⟩ ⟨0,0,t,none,0,0,0,0,false,0⟩ w
  rwa [show alikeB ⟨3,u,t,A,n,c,lo,hi,nt,key⟩ { (⟨0,0,t,none,0,0,0,0,false,0⟩:MI) with k:=3 } = al from hal] at this
 have H73:Hid (∀ w:World,Calls Tryz.prog 73 #[.string t] w fun e w'=>e = .returned (.bool (nameOk t))∧w'=w):=fun w=>qnamed_any t ht w
 have HAL:Hid (alikeB ⟨3,u,t,A,n,c,lo,hi,nt,key⟩ ⟨3,0,t,none,0,0,0,0,false,0⟩=al):=hal
 have HOK:Hid (((nameOk t && blankB ⟨3,u,⟨#[]⟩,A,n,c,lo,hi,nt,key⟩) && !piece)=true→∀ W2,WR W2 R bs 0→MvW W W2 R→Calls Tryz.prog 121 #[.pointer (some ⟨R,0,none⟩),mia ⟨3,u,t,A,n,c,lo,hi,nt,key⟩] W2 fun x W'=>x = .returned (.tuple #[])∧P W'):=hok
 have HNO:Hid (((nameOk t && blankB ⟨3,u,⟨#[]⟩,A,n,c,lo,hi,nt,key⟩) && !piece)=false→∀ W2,WR W2 R bs 50→MvW W W2 R→P W2):=hno
 have H1:Hid (WR (W.alloc (.cells (mi1 ⟨3,u,t,A,n,c,lo,hi,nt,key⟩).toArray 58)) R bs 0∧MvW W (W.alloc (.cells (mi1 ⟨3,u,t,A,n,c,lo,hi,nt,key⟩).toArray 58)) R∧IB (W.alloc (.cells (mi1 ⟨3,u,t,A,n,c,lo,hi,nt,key⟩).toArray 58)) W.heap.size ⟨3,u,t,A,n,c,lo,hi,nt,key⟩):=⟨h.below ((Below.refl _ W).alloc (Nat.le_refl _) _),MvW.of_below (by omega) ((Below.refl _ W).alloc (Nat.le_refl _) _),IB.new _ _⟩
 clear hok hno h hal
 go_enter Tryz.func74,Tryz.ntmps74
 go_wp2_with fail
 refine (H120.out _).mono ?_
 rintro x w2 ⟨rfl,hg⟩
 have H2:Hid (WR w2 R bs 0∧MvW W w2 R∧IB w2 W.heap.size ⟨3,u,t,A,n,c,lo,hi,nt,key⟩):=⟨H1.out.1.below hg.below,H1.out.2.1.trans (MvW.of_below (by have:=H1.out.1.lt;omega) hg.below),H1.out.2.2.same (hg.below.block _ H1.out.2.2.lt)⟩
 obtain ⟨c0,c1,c2,c3,c4,c5,c6,c7⟩:=H2.out.2.2.cells
 clear hg H1 H120
 cases al with
 | false=>
  go_wp2_with fail
  refine (qfail_any 50 H2.out.1).mono ?_
  rintro x w3 ⟨rfl,h3,m3⟩
  have HF:Hid (P w3):=HNO.out (by have hall:=HAL.out;clear HAL HOK HNO H73 H2;simp [alikeB,blankB] at *;(first | done | omega | (simp_all;done) | (simp_all;omega) | grind)) _ h3 (H2.out.2.1.trans m3)
  clear h3 m3
  go_wp2
  first | refine bodyPost_end (results_none rfl _ _ _) rfl ?_ | refine bodyPost_ret (results_none rfl _ _ _) rfl ?_
  exact ⟨rfl,HF.out⟩
 | true=>
  by_cases hp1:n=0
  · have d1:((n:Int) == 0)=true:=by simpa using hp1
    have HP1:=Hid.mk2 hp1
    clear hp1
    go_wp2_with fail
    refine (H73.out _).mono ?_
    rintro x w9 ⟨rfl,rfl⟩
    obtain ⟨nb,hnb⟩:∃ nb,nameOk t=nb:=⟨_,rfl⟩
    rw [hnb] at HOK HNO ⊢
    clear hnb
    cases nb with
    | false=>
     go_wp2_with fail
     refine (qfail_any 50 H2.out.1).mono ?_
     rintro x w3 ⟨rfl,h3,m3⟩
     have HF:Hid (P w3):=HNO.out (by have hall:=HAL.out;have g0:=HP1.out;clear HAL HOK HNO H73 H2;simp [alikeB,blankB] at *;(first | done | omega | (simp_all;done) | (simp_all;omega) | grind)) _ h3 (H2.out.2.1.trans m3)
     clear h3 m3
     go_wp2
     first | refine bodyPost_end (results_none rfl _ _ _) rfl ?_ | refine bodyPost_ret (results_none rfl _ _ _) rfl ?_
     exact ⟨rfl,HF.out⟩
    | true=>
     cases piece with
     | true=>
      go_wp2_with fail
      refine (qfail_any 50 H2.out.1).mono ?_
      rintro x w3 ⟨rfl,h3,m3⟩
      have HF:Hid (P w3):=HNO.out (by have hall:=HAL.out;have g0:=HP1.out;clear HAL HOK HNO H73 H2;simp [alikeB,blankB] at *;(first | done | omega | (simp_all;done) | (simp_all;omega) | grind)) _ h3 (H2.out.2.1.trans m3)
      clear h3 m3
      go_wp2
      first | refine bodyPost_end (results_none rfl _ _ _) rfl ?_ | refine bodyPost_ret (results_none rfl _ _ _) rfl ?_
      exact ⟨rfl,HF.out⟩
     | false=>
      go_wp2_with fail
      refine (HOK.out (by have hall:=HAL.out;have g0:=HP1.out;clear HAL HOK HNO H73 H2;simp [alikeB,blankB] at *;(first | done | omega | (simp_all;done) | (simp_all;omega) | grind)) _ H2.out.1 H2.out.2.1).mono ?_
      rintro x w3 ⟨rfl,hp3⟩
      have HF:Hid (P w3):=hp3
      clear hp3
      go_wp2
      first | refine bodyPost_end (results_none rfl _ _ _) rfl ?_ | refine bodyPost_ret (results_none rfl _ _ _) rfl ?_
      exact ⟨rfl,HF.out⟩
  · have d1:((n:Int) == 0)=false:=by simpa using hp1
    have HP1:=Hid.mk2 hp1
    clear hp1
    go_wp2_with fail
    refine (qfail_any 50 H2.out.1).mono ?_
    rintro x w3 ⟨rfl,h3,m3⟩
    have HF:Hid (P w3):=HNO.out (by have hall:=HAL.out;have g0:=HP1.out;clear HAL HOK HNO H73 H2;simp [alikeB,blankB] at *;(first | done | omega | (simp_all;done) | (simp_all;omega) | grind)) _ h3 (H2.out.2.1.trans m3)
    clear h3 m3
    go_wp2
    first | refine bodyPost_end (results_none rfl _ _ _) rfl ?_ | refine bodyPost_ret (results_none rfl _ _ _) rfl ?_
    exact ⟨rfl,HF.out⟩
set_option maxHeartbeats 4000000 in
theorem qitem_4 (u:Int) (t:ByteArray) (A:Option Addr) (n c:Nat) (lo hi:Int) (nt:Bool) (key:Int) (part piece:Bool) (ht:t.size≤maxLen)  {W:World} {R:Nat} {bs:List UInt8} (h:WR W R bs 0) (P:World→Prop)
 (hok:(blankB ⟨4,u,t,A,n,c,lo,hi,nt,key⟩ && (!part && !piece))=true→∀ W2,WR W2 R bs 0→MvW W W2 R→Calls Tryz.prog 121 #[.pointer (some ⟨R,0,none⟩),mia ⟨4,u,t,A,n,c,lo,hi,nt,key⟩] W2 fun x W'=>x = .returned (.tuple #[])∧P W')
 (hno:(blankB ⟨4,u,t,A,n,c,lo,hi,nt,key⟩ && (!part && !piece))=false→∀ W2,WR W2 R bs 50→MvW W W2 R→P W2) :
 Calls Tryz.prog 74 #[.pointer (some ⟨R,0,none⟩),mia ⟨4,u,t,A,n,c,lo,hi,nt,key⟩,.bool part,.bool piece] W fun x W'=>x = .returned (.tuple #[])∧P W':=by
 have hlt:=h.lt
 obtain ⟨al,hal⟩:∃ al,alikeB ⟨4,u,t,A,n,c,lo,hi,nt,key⟩ ⟨4,0,⟨#[]⟩,none,0,0,0,0,false,0⟩=al:=⟨_,rfl⟩
 have H120:Hid (∀ w:World,Calls Tryz.prog 120 #[mia ⟨4,u,t,A,n,c,lo,hi,nt,key⟩,mia ⟨0,0,⟨#[]⟩,none,0,0,0,0,false,0⟩] w fun e w'=>e = .returned (.bool al)∧Grown w w'):=fun w=>by
  have:=qbare_any ⟨4,u,t,A,n,c,lo,hi,nt,key⟩ ⟨0,0,⟨#[]⟩,none,0,0,0,0,false,0⟩ w
  rwa [show alikeB ⟨4,u,t,A,n,c,lo,hi,nt,key⟩ { (⟨0,0,⟨#[]⟩,none,0,0,0,0,false,0⟩:MI) with k:=4 } = al from hal] at this
 have H73:Hid (∀ w:World,Calls Tryz.prog 73 #[.string t] w fun e w'=>e = .returned (.bool (nameOk t))∧w'=w):=fun w=>qnamed_any t ht w
 have HAL:Hid (alikeB ⟨4,u,t,A,n,c,lo,hi,nt,key⟩ ⟨4,0,⟨#[]⟩,none,0,0,0,0,false,0⟩=al):=hal
 have HOK:Hid ((blankB ⟨4,u,t,A,n,c,lo,hi,nt,key⟩ && (!part && !piece))=true→∀ W2,WR W2 R bs 0→MvW W W2 R→Calls Tryz.prog 121 #[.pointer (some ⟨R,0,none⟩),mia ⟨4,u,t,A,n,c,lo,hi,nt,key⟩] W2 fun x W'=>x = .returned (.tuple #[])∧P W'):=hok
 have HNO:Hid ((blankB ⟨4,u,t,A,n,c,lo,hi,nt,key⟩ && (!part && !piece))=false→∀ W2,WR W2 R bs 50→MvW W W2 R→P W2):=hno
 have H1:Hid (WR (W.alloc (.cells (mi1 ⟨4,u,t,A,n,c,lo,hi,nt,key⟩).toArray 58)) R bs 0∧MvW W (W.alloc (.cells (mi1 ⟨4,u,t,A,n,c,lo,hi,nt,key⟩).toArray 58)) R∧IB (W.alloc (.cells (mi1 ⟨4,u,t,A,n,c,lo,hi,nt,key⟩).toArray 58)) W.heap.size ⟨4,u,t,A,n,c,lo,hi,nt,key⟩):=⟨h.below ((Below.refl _ W).alloc (Nat.le_refl _) _),MvW.of_below (by omega) ((Below.refl _ W).alloc (Nat.le_refl _) _),IB.new _ _⟩
 clear hok hno h hal
 go_enter Tryz.func74,Tryz.ntmps74
 go_wp2_with fail
 refine (H120.out _).mono ?_
 rintro x w2 ⟨rfl,hg⟩
 have H2:Hid (WR w2 R bs 0∧MvW W w2 R∧IB w2 W.heap.size ⟨4,u,t,A,n,c,lo,hi,nt,key⟩):=⟨H1.out.1.below hg.below,H1.out.2.1.trans (MvW.of_below (by have:=H1.out.1.lt;omega) hg.below),H1.out.2.2.same (hg.below.block _ H1.out.2.2.lt)⟩
 obtain ⟨c0,c1,c2,c3,c4,c5,c6,c7⟩:=H2.out.2.2.cells
 clear hg H1 H120
 cases al with
 | false=>
  go_wp2_with fail
  refine (qfail_any 50 H2.out.1).mono ?_
  rintro x w3 ⟨rfl,h3,m3⟩
  have HF:Hid (P w3):=HNO.out (by have hall:=HAL.out;clear HAL HOK HNO H73 H2;simp [alikeB,blankB] at *;(first | done | omega | (simp_all;done) | (simp_all;omega) | grind)) _ h3 (H2.out.2.1.trans m3)
  clear h3 m3
  go_wp2
  first | refine bodyPost_end (results_none rfl _ _ _) rfl ?_ | refine bodyPost_ret (results_none rfl _ _ _) rfl ?_
  exact ⟨rfl,HF.out⟩
 | true=>
  by_cases hp1:n=0
  · have d1:((n:Int) == 0)=true:=by simpa using hp1
    have HP1:=Hid.mk2 hp1
    clear hp1
    cases part with
    | true=>
     go_wp2_with fail
     refine (qfail_any 50 H2.out.1).mono ?_
     rintro x w3 ⟨rfl,h3,m3⟩
     have HF:Hid (P w3):=HNO.out (by have hall:=HAL.out;have g0:=HP1.out;clear HAL HOK HNO H73 H2;simp [alikeB,blankB] at *;(first | done | omega | (simp_all;done) | (simp_all;omega) | grind)) _ h3 (H2.out.2.1.trans m3)
     clear h3 m3
     go_wp2
     first | refine bodyPost_end (results_none rfl _ _ _) rfl ?_ | refine bodyPost_ret (results_none rfl _ _ _) rfl ?_
     exact ⟨rfl,HF.out⟩
    | false=>
     cases piece with
     | true=>
      go_wp2_with fail
      refine (qfail_any 50 H2.out.1).mono ?_
      rintro x w3 ⟨rfl,h3,m3⟩
      have HF:Hid (P w3):=HNO.out (by have hall:=HAL.out;have g0:=HP1.out;clear HAL HOK HNO H73 H2;simp [alikeB,blankB] at *;(first | done | omega | (simp_all;done) | (simp_all;omega) | grind)) _ h3 (H2.out.2.1.trans m3)
      clear h3 m3
      go_wp2
      first | refine bodyPost_end (results_none rfl _ _ _) rfl ?_ | refine bodyPost_ret (results_none rfl _ _ _) rfl ?_
      exact ⟨rfl,HF.out⟩
     | false=>
      go_wp2_with fail
      refine (HOK.out (by have hall:=HAL.out;have g0:=HP1.out;clear HAL HOK HNO H73 H2;simp [alikeB,blankB] at *;(first | done | omega | (simp_all;done) | (simp_all;omega) | grind)) _ H2.out.1 H2.out.2.1).mono ?_
      rintro x w3 ⟨rfl,hp3⟩
      have HF:Hid (P w3):=hp3
      clear hp3
      go_wp2
      first | refine bodyPost_end (results_none rfl _ _ _) rfl ?_ | refine bodyPost_ret (results_none rfl _ _ _) rfl ?_
      exact ⟨rfl,HF.out⟩
  · have d1:((n:Int) == 0)=false:=by simpa using hp1
    have HP1:=Hid.mk2 hp1
    clear hp1
    go_wp2_with fail
    refine (qfail_any 50 H2.out.1).mono ?_
    rintro x w3 ⟨rfl,h3,m3⟩
    have HF:Hid (P w3):=HNO.out (by have hall:=HAL.out;have g0:=HP1.out;clear HAL HOK HNO H73 H2;simp [alikeB,blankB] at *;(first | done | omega | (simp_all;done) | (simp_all;omega) | grind)) _ h3 (H2.out.2.1.trans m3)
    clear h3 m3
    go_wp2
    first | refine bodyPost_end (results_none rfl _ _ _) rfl ?_ | refine bodyPost_ret (results_none rfl _ _ _) rfl ?_
    exact ⟨rfl,HF.out⟩
set_option maxHeartbeats 4000000 in
theorem qitem_5 (u:Int) (t:ByteArray) (A:Option Addr) (n c:Nat) (lo hi:Int) (nt:Bool) (key:Int) (part piece:Bool) (ht:t.size≤maxLen)  {W:World} {R:Nat} {bs:List UInt8} (h:WR W R bs 0) (P:World→Prop)
 (hok:(blankB ⟨5,u,t,A,0,c,lo,hi,false,key⟩ && (!part && !piece))=true→∀ W2,WR W2 R bs 0→MvW W W2 R→Calls Tryz.prog 121 #[.pointer (some ⟨R,0,none⟩),mia ⟨5,u,t,A,n,c,lo,hi,nt,key⟩] W2 fun x W'=>x = .returned (.tuple #[])∧P W')
 (hno:(blankB ⟨5,u,t,A,0,c,lo,hi,false,key⟩ && (!part && !piece))=false→∀ W2,WR W2 R bs 50→MvW W W2 R→P W2) :
 Calls Tryz.prog 74 #[.pointer (some ⟨R,0,none⟩),mia ⟨5,u,t,A,n,c,lo,hi,nt,key⟩,.bool part,.bool piece] W fun x W'=>x = .returned (.tuple #[])∧P W':=by
 have hlt:=h.lt
 obtain ⟨al,hal⟩:∃ al,alikeB ⟨5,u,t,A,n,c,lo,hi,nt,key⟩ ⟨5,0,⟨#[]⟩,none,0,0,0,0,nt,0⟩=al:=⟨_,rfl⟩
 have H120:Hid (∀ w:World,Calls Tryz.prog 120 #[mia ⟨5,u,t,A,n,c,lo,hi,nt,key⟩,mia ⟨0,0,⟨#[]⟩,none,0,0,0,0,nt,0⟩] w fun e w'=>e = .returned (.bool al)∧Grown w w'):=fun w=>by
  have:=qbare_any ⟨5,u,t,A,n,c,lo,hi,nt,key⟩ ⟨0,0,⟨#[]⟩,none,0,0,0,0,nt,0⟩ w
  rwa [show alikeB ⟨5,u,t,A,n,c,lo,hi,nt,key⟩ { (⟨0,0,⟨#[]⟩,none,0,0,0,0,nt,0⟩:MI) with k:=5 } = al from hal] at this
 have H73:Hid (∀ w:World,Calls Tryz.prog 73 #[.string t] w fun e w'=>e = .returned (.bool (nameOk t))∧w'=w):=fun w=>qnamed_any t ht w
 have HAL:Hid (alikeB ⟨5,u,t,A,n,c,lo,hi,nt,key⟩ ⟨5,0,⟨#[]⟩,none,0,0,0,0,nt,0⟩=al):=hal
 have HOK:Hid ((blankB ⟨5,u,t,A,0,c,lo,hi,false,key⟩ && (!part && !piece))=true→∀ W2,WR W2 R bs 0→MvW W W2 R→Calls Tryz.prog 121 #[.pointer (some ⟨R,0,none⟩),mia ⟨5,u,t,A,n,c,lo,hi,nt,key⟩] W2 fun x W'=>x = .returned (.tuple #[])∧P W'):=hok
 have HNO:Hid ((blankB ⟨5,u,t,A,0,c,lo,hi,false,key⟩ && (!part && !piece))=false→∀ W2,WR W2 R bs 50→MvW W W2 R→P W2):=hno
 have H1:Hid (WR (W.alloc (.cells (mi1 ⟨5,u,t,A,n,c,lo,hi,nt,key⟩).toArray 58)) R bs 0∧MvW W (W.alloc (.cells (mi1 ⟨5,u,t,A,n,c,lo,hi,nt,key⟩).toArray 58)) R∧IB (W.alloc (.cells (mi1 ⟨5,u,t,A,n,c,lo,hi,nt,key⟩).toArray 58)) W.heap.size ⟨5,u,t,A,n,c,lo,hi,nt,key⟩):=⟨h.below ((Below.refl _ W).alloc (Nat.le_refl _) _),MvW.of_below (by omega) ((Below.refl _ W).alloc (Nat.le_refl _) _),IB.new _ _⟩
 clear hok hno h hal
 go_enter Tryz.func74,Tryz.ntmps74
 go_wp2_with fail
 refine (H120.out _).mono ?_
 rintro x w2 ⟨rfl,hg⟩
 have H2:Hid (WR w2 R bs 0∧MvW W w2 R∧IB w2 W.heap.size ⟨5,u,t,A,n,c,lo,hi,nt,key⟩):=⟨H1.out.1.below hg.below,H1.out.2.1.trans (MvW.of_below (by have:=H1.out.1.lt;omega) hg.below),H1.out.2.2.same (hg.below.block _ H1.out.2.2.lt)⟩
 obtain ⟨c0,c1,c2,c3,c4,c5,c6,c7⟩:=H2.out.2.2.cells
 clear hg H1 H120
 cases al with
 | false=>
  go_wp2_with fail
  refine (qfail_any 50 H2.out.1).mono ?_
  rintro x w3 ⟨rfl,h3,m3⟩
  have HF:Hid (P w3):=HNO.out (by have hall:=HAL.out;clear HAL HOK HNO H73 H2;simp [alikeB,blankB] at *;(first | done | omega | (simp_all;done) | (simp_all;omega) | grind)) _ h3 (H2.out.2.1.trans m3)
  clear h3 m3
  go_wp2
  first | refine bodyPost_end (results_none rfl _ _ _) rfl ?_ | refine bodyPost_ret (results_none rfl _ _ _) rfl ?_
  exact ⟨rfl,HF.out⟩
 | true=>
  cases part with
  | true=>
   go_wp2_with fail
   refine (qfail_any 50 H2.out.1).mono ?_
   rintro x w3 ⟨rfl,h3,m3⟩
   have HF:Hid (P w3):=HNO.out (by have hall:=HAL.out;clear HAL HOK HNO H73 H2;simp [alikeB,blankB] at *;(first | done | omega | (simp_all;done) | (simp_all;omega) | grind)) _ h3 (H2.out.2.1.trans m3)
   clear h3 m3
   go_wp2
   first | refine bodyPost_end (results_none rfl _ _ _) rfl ?_ | refine bodyPost_ret (results_none rfl _ _ _) rfl ?_
   exact ⟨rfl,HF.out⟩
  | false=>
   cases piece with
   | true=>
    go_wp2_with fail
    refine (qfail_any 50 H2.out.1).mono ?_
    rintro x w3 ⟨rfl,h3,m3⟩
    have HF:Hid (P w3):=HNO.out (by have hall:=HAL.out;clear HAL HOK HNO H73 H2;simp [alikeB,blankB] at *;(first | done | omega | (simp_all;done) | (simp_all;omega) | grind)) _ h3 (H2.out.2.1.trans m3)
    clear h3 m3
    go_wp2
    first | refine bodyPost_end (results_none rfl _ _ _) rfl ?_ | refine bodyPost_ret (results_none rfl _ _ _) rfl ?_
    exact ⟨rfl,HF.out⟩
   | false=>
    go_wp2_with fail
    refine (HOK.out (by have hall:=HAL.out;clear HAL HOK HNO H73 H2;simp [alikeB,blankB] at *;(first | done | omega | (simp_all;done) | (simp_all;omega) | grind)) _ H2.out.1 H2.out.2.1).mono ?_
    rintro x w3 ⟨rfl,hp3⟩
    have HF:Hid (P w3):=hp3
    clear hp3
    go_wp2
    first | refine bodyPost_end (results_none rfl _ _ _) rfl ?_ | refine bodyPost_ret (results_none rfl _ _ _) rfl ?_
    exact ⟨rfl,HF.out⟩
set_option maxHeartbeats 4000000 in
theorem qitem_6 (u:Int) (t:ByteArray) (A:Option Addr) (n c:Nat) (lo hi:Int) (nt:Bool) (key:Int) (part piece:Bool) (ht:t.size≤maxLen)  {W:World} {R:Nat} {bs:List UInt8} (h:WR W R bs 0) (P:World→Prop)
 (hok:(blankB ⟨6,u,t,A,n,c,0,0,nt,key⟩ && part)=true→∀ W2,WR W2 R bs 0→MvW W W2 R→Calls Tryz.prog 121 #[.pointer (some ⟨R,0,none⟩),mia ⟨6,u,t,A,n,c,lo,hi,nt,key⟩] W2 fun x W'=>x = .returned (.tuple #[])∧P W')
 (hno:(blankB ⟨6,u,t,A,n,c,0,0,nt,key⟩ && part)=false→∀ W2,WR W2 R bs 50→MvW W W2 R→P W2) :
 Calls Tryz.prog 74 #[.pointer (some ⟨R,0,none⟩),mia ⟨6,u,t,A,n,c,lo,hi,nt,key⟩,.bool part,.bool piece] W fun x W'=>x = .returned (.tuple #[])∧P W':=by
 have hlt:=h.lt
 obtain ⟨al,hal⟩:∃ al,alikeB ⟨6,u,t,A,n,c,lo,hi,nt,key⟩ ⟨6,0,⟨#[]⟩,none,0,0,lo,hi,false,0⟩=al:=⟨_,rfl⟩
 have H120:Hid (∀ w:World,Calls Tryz.prog 120 #[mia ⟨6,u,t,A,n,c,lo,hi,nt,key⟩,mia ⟨0,0,⟨#[]⟩,none,0,0,lo,hi,false,0⟩] w fun e w'=>e = .returned (.bool al)∧Grown w w'):=fun w=>by
  have:=qbare_any ⟨6,u,t,A,n,c,lo,hi,nt,key⟩ ⟨0,0,⟨#[]⟩,none,0,0,lo,hi,false,0⟩ w
  rwa [show alikeB ⟨6,u,t,A,n,c,lo,hi,nt,key⟩ { (⟨0,0,⟨#[]⟩,none,0,0,lo,hi,false,0⟩:MI) with k:=6 } = al from hal] at this
 have H73:Hid (∀ w:World,Calls Tryz.prog 73 #[.string t] w fun e w'=>e = .returned (.bool (nameOk t))∧w'=w):=fun w=>qnamed_any t ht w
 have HAL:Hid (alikeB ⟨6,u,t,A,n,c,lo,hi,nt,key⟩ ⟨6,0,⟨#[]⟩,none,0,0,lo,hi,false,0⟩=al):=hal
 have HOK:Hid ((blankB ⟨6,u,t,A,n,c,0,0,nt,key⟩ && part)=true→∀ W2,WR W2 R bs 0→MvW W W2 R→Calls Tryz.prog 121 #[.pointer (some ⟨R,0,none⟩),mia ⟨6,u,t,A,n,c,lo,hi,nt,key⟩] W2 fun x W'=>x = .returned (.tuple #[])∧P W'):=hok
 have HNO:Hid ((blankB ⟨6,u,t,A,n,c,0,0,nt,key⟩ && part)=false→∀ W2,WR W2 R bs 50→MvW W W2 R→P W2):=hno
 have H1:Hid (WR (W.alloc (.cells (mi1 ⟨6,u,t,A,n,c,lo,hi,nt,key⟩).toArray 58)) R bs 0∧MvW W (W.alloc (.cells (mi1 ⟨6,u,t,A,n,c,lo,hi,nt,key⟩).toArray 58)) R∧IB (W.alloc (.cells (mi1 ⟨6,u,t,A,n,c,lo,hi,nt,key⟩).toArray 58)) W.heap.size ⟨6,u,t,A,n,c,lo,hi,nt,key⟩):=⟨h.below ((Below.refl _ W).alloc (Nat.le_refl _) _),MvW.of_below (by omega) ((Below.refl _ W).alloc (Nat.le_refl _) _),IB.new _ _⟩
 clear hok hno h hal
 go_enter Tryz.func74,Tryz.ntmps74
 go_wp2_with fail
 refine (H120.out _).mono ?_
 rintro x w2 ⟨rfl,hg⟩
 have H2:Hid (WR w2 R bs 0∧MvW W w2 R∧IB w2 W.heap.size ⟨6,u,t,A,n,c,lo,hi,nt,key⟩):=⟨H1.out.1.below hg.below,H1.out.2.1.trans (MvW.of_below (by have:=H1.out.1.lt;omega) hg.below),H1.out.2.2.same (hg.below.block _ H1.out.2.2.lt)⟩
 obtain ⟨c0,c1,c2,c3,c4,c5,c6,c7⟩:=H2.out.2.2.cells
 clear hg H1 H120
 cases al with
 | false=>
  go_wp2_with fail
  refine (qfail_any 50 H2.out.1).mono ?_
  rintro x w3 ⟨rfl,h3,m3⟩
  have HF:Hid (P w3):=HNO.out (by have hall:=HAL.out;clear HAL HOK HNO H73 H2;simp [alikeB,blankB] at *;(first | done | omega | (simp_all;done) | (simp_all;omega) | grind)) _ h3 (H2.out.2.1.trans m3)
  clear h3 m3
  go_wp2
  first | refine bodyPost_end (results_none rfl _ _ _) rfl ?_ | refine bodyPost_ret (results_none rfl _ _ _) rfl ?_
  exact ⟨rfl,HF.out⟩
 | true=>
  by_cases hp1:n=0
  · have d1:((n:Int) == 0)=true:=by simpa using hp1
    have HP1:=Hid.mk2 hp1
    clear hp1
    cases part with
    | false=>
     go_wp2_with fail
     refine (qfail_any 50 H2.out.1).mono ?_
     rintro x w3 ⟨rfl,h3,m3⟩
     have HF:Hid (P w3):=HNO.out (by have hall:=HAL.out;have g0:=HP1.out;clear HAL HOK HNO H73 H2;simp [alikeB,blankB] at *;(first | done | omega | (simp_all;done) | (simp_all;omega) | grind)) _ h3 (H2.out.2.1.trans m3)
     clear h3 m3
     go_wp2
     first | refine bodyPost_end (results_none rfl _ _ _) rfl ?_ | refine bodyPost_ret (results_none rfl _ _ _) rfl ?_
     exact ⟨rfl,HF.out⟩
    | true=>
     go_wp2_with fail
     refine (HOK.out (by have hall:=HAL.out;have g0:=HP1.out;clear HAL HOK HNO H73 H2;simp [alikeB,blankB] at *;(first | done | omega | (simp_all;done) | (simp_all;omega) | grind)) _ H2.out.1 H2.out.2.1).mono ?_
     rintro x w3 ⟨rfl,hp3⟩
     have HF:Hid (P w3):=hp3
     clear hp3
     go_wp2
     first | refine bodyPost_end (results_none rfl _ _ _) rfl ?_ | refine bodyPost_ret (results_none rfl _ _ _) rfl ?_
     exact ⟨rfl,HF.out⟩
  · have d1:((n:Int) == 0)=false:=by simpa using hp1
    have HP1:=Hid.mk2 hp1
    clear hp1
    go_wp2_with fail
    refine (qfail_any 50 H2.out.1).mono ?_
    rintro x w3 ⟨rfl,h3,m3⟩
    have HF:Hid (P w3):=HNO.out (by have hall:=HAL.out;have g0:=HP1.out;clear HAL HOK HNO H73 H2;simp [alikeB,blankB] at *;(first | done | omega | (simp_all;done) | (simp_all;omega) | grind)) _ h3 (H2.out.2.1.trans m3)
    clear h3 m3
    go_wp2
    first | refine bodyPost_end (results_none rfl _ _ _) rfl ?_ | refine bodyPost_ret (results_none rfl _ _ _) rfl ?_
    exact ⟨rfl,HF.out⟩
set_option maxHeartbeats 4000000 in
theorem qitem_7 (u:Int) (t:ByteArray) (A:Option Addr) (n c:Nat) (lo hi:Int) (nt:Bool) (key:Int) (part piece:Bool) (ht:t.size≤maxLen)  {W:World} {R:Nat} {bs:List UInt8} (h:WR W R bs 0) (P:World→Prop)
 (hok:((cpB key && blankB ⟨7,u,t,A,n,c,lo,hi,nt,0⟩) && piece)=true→∀ W2,WR W2 R bs 0→MvW W W2 R→Calls Tryz.prog 121 #[.pointer (some ⟨R,0,none⟩),mia ⟨7,u,t,A,n,c,lo,hi,nt,key⟩] W2 fun x W'=>x = .returned (.tuple #[])∧P W')
 (hno:((cpB key && blankB ⟨7,u,t,A,n,c,lo,hi,nt,0⟩) && piece)=false→∀ W2,WR W2 R bs 50→MvW W W2 R→P W2) :
 Calls Tryz.prog 74 #[.pointer (some ⟨R,0,none⟩),mia ⟨7,u,t,A,n,c,lo,hi,nt,key⟩,.bool part,.bool piece] W fun x W'=>x = .returned (.tuple #[])∧P W':=by
 have hlt:=h.lt
 obtain ⟨al,hal⟩:∃ al,alikeB ⟨7,u,t,A,n,c,lo,hi,nt,key⟩ ⟨7,0,⟨#[]⟩,none,0,0,0,0,false,key⟩=al:=⟨_,rfl⟩
 have H120:Hid (∀ w:World,Calls Tryz.prog 120 #[mia ⟨7,u,t,A,n,c,lo,hi,nt,key⟩,mia ⟨0,0,⟨#[]⟩,none,0,0,0,0,false,key⟩] w fun e w'=>e = .returned (.bool al)∧Grown w w'):=fun w=>by
  have:=qbare_any ⟨7,u,t,A,n,c,lo,hi,nt,key⟩ ⟨0,0,⟨#[]⟩,none,0,0,0,0,false,key⟩ w
  rwa [show alikeB ⟨7,u,t,A,n,c,lo,hi,nt,key⟩ { (⟨0,0,⟨#[]⟩,none,0,0,0,0,false,key⟩:MI) with k:=7 } = al from hal] at this
 have H73:Hid (∀ w:World,Calls Tryz.prog 73 #[.string t] w fun e w'=>e = .returned (.bool (nameOk t))∧w'=w):=fun w=>qnamed_any t ht w
 have HAL:Hid (alikeB ⟨7,u,t,A,n,c,lo,hi,nt,key⟩ ⟨7,0,⟨#[]⟩,none,0,0,0,0,false,key⟩=al):=hal
 have HOK:Hid (((cpB key && blankB ⟨7,u,t,A,n,c,lo,hi,nt,0⟩) && piece)=true→∀ W2,WR W2 R bs 0→MvW W W2 R→Calls Tryz.prog 121 #[.pointer (some ⟨R,0,none⟩),mia ⟨7,u,t,A,n,c,lo,hi,nt,key⟩] W2 fun x W'=>x = .returned (.tuple #[])∧P W'):=hok
 have HNO:Hid (((cpB key && blankB ⟨7,u,t,A,n,c,lo,hi,nt,0⟩) && piece)=false→∀ W2,WR W2 R bs 50→MvW W W2 R→P W2):=hno
 have H1:Hid (WR (W.alloc (.cells (mi1 ⟨7,u,t,A,n,c,lo,hi,nt,key⟩).toArray 58)) R bs 0∧MvW W (W.alloc (.cells (mi1 ⟨7,u,t,A,n,c,lo,hi,nt,key⟩).toArray 58)) R∧IB (W.alloc (.cells (mi1 ⟨7,u,t,A,n,c,lo,hi,nt,key⟩).toArray 58)) W.heap.size ⟨7,u,t,A,n,c,lo,hi,nt,key⟩):=⟨h.below ((Below.refl _ W).alloc (Nat.le_refl _) _),MvW.of_below (by omega) ((Below.refl _ W).alloc (Nat.le_refl _) _),IB.new _ _⟩
 clear hok hno h hal
 go_enter Tryz.func74,Tryz.ntmps74
 go_wp2_with fail
 refine (H120.out _).mono ?_
 rintro x w2 ⟨rfl,hg⟩
 have H2:Hid (WR w2 R bs 0∧MvW W w2 R∧IB w2 W.heap.size ⟨7,u,t,A,n,c,lo,hi,nt,key⟩):=⟨H1.out.1.below hg.below,H1.out.2.1.trans (MvW.of_below (by have:=H1.out.1.lt;omega) hg.below),H1.out.2.2.same (hg.below.block _ H1.out.2.2.lt)⟩
 obtain ⟨c0,c1,c2,c3,c4,c5,c6,c7⟩:=H2.out.2.2.cells
 clear hg H1 H120
 cases al with
 | false=>
  go_wp2_with fail
  refine (qfail_any 50 H2.out.1).mono ?_
  rintro x w3 ⟨rfl,h3,m3⟩
  have HF:Hid (P w3):=HNO.out (by have hall:=HAL.out;clear HAL HOK HNO H73 H2;simp [alikeB,blankB,cpB] at *;(first | done | omega | (simp_all;done) | (simp_all;omega) | grind)) _ h3 (H2.out.2.1.trans m3)
  clear h3 m3
  go_wp2
  first | refine bodyPost_end (results_none rfl _ _ _) rfl ?_ | refine bodyPost_ret (results_none rfl _ _ _) rfl ?_
  exact ⟨rfl,HF.out⟩
 | true=>
  by_cases hp1:n=0
  · have d1:((n:Int) == 0)=true:=by simpa using hp1
    have HP1:=Hid.mk2 hp1
    clear hp1
    cases piece with
    | false=>
     go_wp2_with fail
     refine (qfail_any 50 H2.out.1).mono ?_
     rintro x w3 ⟨rfl,h3,m3⟩
     have HF:Hid (P w3):=HNO.out (by have hall:=HAL.out;have g0:=HP1.out;clear HAL HOK HNO H73 H2;simp [alikeB,blankB,cpB] at *;(first | done | omega | (simp_all;done) | (simp_all;omega) | grind)) _ h3 (H2.out.2.1.trans m3)
     clear h3 m3
     go_wp2
     first | refine bodyPost_end (results_none rfl _ _ _) rfl ?_ | refine bodyPost_ret (results_none rfl _ _ _) rfl ?_
     exact ⟨rfl,HF.out⟩
    | true=>
     by_cases hp2:1≤key
     · have d2:decide ((1:Int)≤key)=true:=by simpa using hp2
       have HP2:=Hid.mk2 hp2
       clear hp2
       by_cases hp3:key≤999999999
       · have d3:decide (key≤(999999999:Int))=true:=by simpa using hp3
         have HP3:=Hid.mk2 hp3
         clear hp3
         go_wp2_with fail
         refine (HOK.out (by have hall:=HAL.out;have g0:=HP1.out;have g1:=HP2.out;have g2:=HP3.out;clear HAL HOK HNO H73 H2;simp [alikeB,blankB,cpB] at *;(first | done | omega | (simp_all;done) | (simp_all;omega) | grind)) _ H2.out.1 H2.out.2.1).mono ?_
         rintro x w3 ⟨rfl,hp3⟩
         have HF:Hid (P w3):=hp3
         clear hp3
         go_wp2
         first | refine bodyPost_end (results_none rfl _ _ _) rfl ?_ | refine bodyPost_ret (results_none rfl _ _ _) rfl ?_
         exact ⟨rfl,HF.out⟩
       · have d3:decide (key≤(999999999:Int))=false:=by simpa using hp3
         have HP3:=Hid.mk2 hp3
         clear hp3
         go_wp2_with fail
         refine (qfail_any 50 H2.out.1).mono ?_
         rintro x w3 ⟨rfl,h3,m3⟩
         have HF:Hid (P w3):=HNO.out (by have hall:=HAL.out;have g0:=HP1.out;have g1:=HP2.out;have g2:=HP3.out;clear HAL HOK HNO H73 H2;simp [alikeB,blankB,cpB] at *;(first | done | omega | (simp_all;done) | (simp_all;omega) | grind)) _ h3 (H2.out.2.1.trans m3)
         clear h3 m3
         go_wp2
         first | refine bodyPost_end (results_none rfl _ _ _) rfl ?_ | refine bodyPost_ret (results_none rfl _ _ _) rfl ?_
         exact ⟨rfl,HF.out⟩
     · have d2:decide ((1:Int)≤key)=false:=by simpa using hp2
       have HP2:=Hid.mk2 hp2
       clear hp2
       go_wp2_with fail
       refine (qfail_any 50 H2.out.1).mono ?_
       rintro x w3 ⟨rfl,h3,m3⟩
       have HF:Hid (P w3):=HNO.out (by have hall:=HAL.out;have g0:=HP1.out;have g1:=HP2.out;clear HAL HOK HNO H73 H2;simp [alikeB,blankB,cpB] at *;(first | done | omega | (simp_all;done) | (simp_all;omega) | grind)) _ h3 (H2.out.2.1.trans m3)
       clear h3 m3
       go_wp2
       first | refine bodyPost_end (results_none rfl _ _ _) rfl ?_ | refine bodyPost_ret (results_none rfl _ _ _) rfl ?_
       exact ⟨rfl,HF.out⟩
  · have d1:((n:Int) == 0)=false:=by simpa using hp1
    have HP1:=Hid.mk2 hp1
    clear hp1
    go_wp2_with fail
    refine (qfail_any 50 H2.out.1).mono ?_
    rintro x w3 ⟨rfl,h3,m3⟩
    have HF:Hid (P w3):=HNO.out (by have hall:=HAL.out;have g0:=HP1.out;clear HAL HOK HNO H73 H2;simp [alikeB,blankB,cpB] at *;(first | done | omega | (simp_all;done) | (simp_all;omega) | grind)) _ h3 (H2.out.2.1.trans m3)
    clear h3 m3
    go_wp2
    first | refine bodyPost_end (results_none rfl _ _ _) rfl ?_ | refine bodyPost_ret (results_none rfl _ _ _) rfl ?_
    exact ⟨rfl,HF.out⟩
end Go.Proofs
