/-
  The document's writing of an item that is let by, by its kind.
-/
import Derived.Test.YtknaoahokopplaaGreatDoorMgwp
namespace Go.Proofs
open Go.RowKit Go.Shelf
set_option maxRecDepth 100000
attribute [local go_sem] Oper.semAt_some
set_option maxHeartbeats 1000000 in
theorem qrng_any (lo hi:Int) (w:World):Calls Tryz.prog 145 #[.int .i64 lo,.int .i64 hi] w fun x w'=>x = .returned (.bool (isRng lo hi))∧w'=w:=by
 have e1:decide (1114111<lo)=decide (1114112≤lo):=by rw [decide_eq_decide];omega
 have e2:decide (1114111<hi)=decide (1114112≤hi):=by rw [decide_eq_decide];omega
 have HR:Hid (isRng lo hi=(decide (lo≤hi) && (decide (1114112≤lo) == decide (1114112≤hi)))):=by
  show _=_
  unfold isRng
  rw [e1,e2]
 clear e1 e2
 rw [HR.out]
 by_cases h:lo≤hi
 · have d:decide (lo≤hi)=true:=by simpa using h
   rw [d]
   go_enter Tryz.func145,Tryz.ntmps145
   go_wp2
   go_ret
   exact ⟨by simp,rfl⟩
 · have d:decide (lo≤hi)=false:=by simpa using h
   rw [d]
   go_enter Tryz.func145,Tryz.ntmps145
   go_wp2
   go_ret
   exact ⟨by simp,rfl⟩
theorem unitS_le (u:Int):(unitS u).size≤100:=by
 obtain ⟨e,-,-,h1 | h1⟩:=unitS_spec u
 · omega
 · exact h1.2.2.1
set_option maxHeartbeats 4000000 in
theorem qform_1 (u:Int) (t:ByteArray) (A:Option Addr) (n c:Nat) (lo hi:Int) (nt:Bool) (key:Int) {W:World} {R:Nat} {bs:List UInt8} (h:WR W R bs 0) (hl:bs.length≤90000000000000) (o:Option Int) (ho:o=if wd u=0 then some 50 else none) :
 Calls Tryz.prog 121 #[.pointer (some ⟨R,0,none⟩),mia ⟨1,u,t,A,n,c,lo,hi,nt,key⟩] W fun x W'=>x = .returned (.tuple #[])∧WP W R bs (unitS u).data.toList 300 o W':=by
 have hlt:=h.lt
 have H1:Hid (WR (W.alloc (.cells (mi1 ⟨1,u,t,A,n,c,lo,hi,nt,key⟩).toArray 58)) R bs 0∧MvW W (W.alloc (.cells (mi1 ⟨1,u,t,A,n,c,lo,hi,nt,key⟩).toArray 58)) R∧IB (W.alloc (.cells (mi1 ⟨1,u,t,A,n,c,lo,hi,nt,key⟩).toArray 58)) W.heap.size ⟨1,u,t,A,n,c,lo,hi,nt,key⟩∧W.heap.size≠R):=⟨h.below ((Below.refl _ W).alloc (Nat.le_refl _) _),MvW.of_below (by omega) ((Below.refl _ W).alloc (Nat.le_refl _) _),IB.new _ _,by omega⟩
 have HL:Hid (bs.length≤90000000000000):=hl
 have HO:Hid (o=if wd u=0 then some 50 else none):=ho
 clear ho
 clear h hl
 go_enter Tryz.func121,Tryz.ntmps121
 go_wp2_with fail
 refine (qunit_any u H1.out.1 (by have:=HL.out;omega)).mono ?_
 rintro x w2 ⟨rfl,h2,m2⟩
 have hz:(unitS u).data.toList.length≤100:=by have h1:=unitS_le u;have h2:(unitS u).data.toList.length=(unitS u).size:=Array.length_toList;omega
 have HF:Hid (WP W R bs (unitS u).data.toList 300 o w2):=by
  refine ⟨H1.out.2.1.trans m2,?_⟩
  rw [HO.out]
  by_cases hu:wd u=0
  · rw [if_pos hu]
    rw [if_pos hu] at h2
    exact ⟨_,h2,by rw [List.length_append];omega⟩
  · rw [if_neg hu]
    rw [if_neg hu] at h2
    exact h2
 clear h2 m2 hz
 go_wp2
 refine bodyPost_end (results_none rfl _ _ _) rfl ?_
 exact ⟨rfl,HF.out⟩
set_option maxHeartbeats 4000000 in
theorem qform_2 (u:Int) (t:ByteArray) (A:Option Addr) (n c:Nat) (lo hi:Int) (nt:Bool) (key:Int) {W:World} {R:Nat} {bs:List UInt8} (h:WR W R bs 0) (hl:bs.length≤90000000000000) (ht:t.size≤32) :
 Calls Tryz.prog 121 #[.pointer (some ⟨R,0,none⟩),mia ⟨2,u,t,A,n,c,lo,hi,nt,key⟩] W fun x W'=>x = .returned (.tuple #[])∧WP W R bs ((⟨#[36]⟩:ByteArray)++t).data.toList 300 none W':=by
 have hlt:=h.lt
 have H1:Hid (WR (W.alloc (.cells (mi1 ⟨2,u,t,A,n,c,lo,hi,nt,key⟩).toArray 58)) R bs 0∧MvW W (W.alloc (.cells (mi1 ⟨2,u,t,A,n,c,lo,hi,nt,key⟩).toArray 58)) R∧IB (W.alloc (.cells (mi1 ⟨2,u,t,A,n,c,lo,hi,nt,key⟩).toArray 58)) W.heap.size ⟨2,u,t,A,n,c,lo,hi,nt,key⟩∧W.heap.size≠R):=⟨h.below ((Below.refl _ W).alloc (Nat.le_refl _) _),MvW.of_below (by omega) ((Below.refl _ W).alloc (Nat.le_refl _) _),IB.new _ _,by omega⟩
 have HL:Hid (bs.length≤90000000000000):=hl
 have hx:((⟨#[36]⟩:ByteArray)++t).size=1+t.size:=by rw [ByteArray.size_append];rfl
 have HPUT:Hid (∀ W',WR W' R bs 0→Calls Tryz.prog 72 #[.pointer (some ⟨R,0,none⟩),.string ((⟨#[36]⟩:ByteArray)++t)] W' (WQ W' R (bs++((⟨#[36]⟩:ByteArray)++t).data.toList) 0)):=fun W' hW=>qput_any ((⟨#[36]⟩:ByteArray)++t) hW (by omega)
 clear h hl
 go_enter Tryz.func121,Tryz.ntmps121
 go_wp2_with fail
 refine (HPUT.out _ H1.out.1).mono ?_
 rintro x w2 ⟨rfl,h2,m2⟩
 have HF:Hid (WR w2 R (bs++((⟨#[36]⟩:ByteArray)++t).data.toList) 0∧MvW W w2 R):=⟨h2,H1.out.2.1.trans m2⟩
 clear h2 m2
 go_wp2
 refine bodyPost_end (results_none rfl _ _ _) rfl ?_
 exact ⟨rfl,HF.out.2,HF.out.1⟩
set_option maxHeartbeats 4000000 in
theorem qform_3 (u:Int) (t:ByteArray) (A:Option Addr) (n c:Nat) (lo hi:Int) (nt:Bool) (key:Int) {W:World} {R:Nat} {bs:List UInt8} (h:WR W R bs 0) (hl:bs.length≤90000000000000) (ht:t.size≤32) :
 Calls Tryz.prog 121 #[.pointer (some ⟨R,0,none⟩),mia ⟨3,u,t,A,n,c,lo,hi,nt,key⟩] W fun x W'=>x = .returned (.tuple #[])∧WP W R bs ((⟨#[91,58]⟩:ByteArray)++t++(⟨#[58,93]⟩:ByteArray)).data.toList 300 none W':=by
 have hlt:=h.lt
 have H1:Hid (WR (W.alloc (.cells (mi1 ⟨3,u,t,A,n,c,lo,hi,nt,key⟩).toArray 58)) R bs 0∧MvW W (W.alloc (.cells (mi1 ⟨3,u,t,A,n,c,lo,hi,nt,key⟩).toArray 58)) R∧IB (W.alloc (.cells (mi1 ⟨3,u,t,A,n,c,lo,hi,nt,key⟩).toArray 58)) W.heap.size ⟨3,u,t,A,n,c,lo,hi,nt,key⟩∧W.heap.size≠R):=⟨h.below ((Below.refl _ W).alloc (Nat.le_refl _) _),MvW.of_below (by omega) ((Below.refl _ W).alloc (Nat.le_refl _) _),IB.new _ _,by omega⟩
 have HL:Hid (bs.length≤90000000000000):=hl
 have hx:((⟨#[91,58]⟩:ByteArray)++t).size=2+t.size:=by rw [ByteArray.size_append];rfl
 have hx2:((⟨#[91,58]⟩:ByteArray)++t++(⟨#[58,93]⟩:ByteArray)).size=2+t.size+2:=by rw [ByteArray.size_append,hx];rfl
 have HPUT:Hid (∀ W',WR W' R bs 0→Calls Tryz.prog 72 #[.pointer (some ⟨R,0,none⟩),.string ((⟨#[91,58]⟩:ByteArray)++t++(⟨#[58,93]⟩:ByteArray))] W' (WQ W' R (bs++((⟨#[91,58]⟩:ByteArray)++t++(⟨#[58,93]⟩:ByteArray)).data.toList) 0)):=fun W' hW=>qput_any ((⟨#[91,58]⟩:ByteArray)++t++(⟨#[58,93]⟩:ByteArray)) hW (by rw [hx2];clear hx hx2 H1 HL;omega)
 clear h hl
 go_enter Tryz.func121,Tryz.ntmps121
 go_wp2_with fail
 refine (HPUT.out _ H1.out.1).mono ?_
 rintro x w2 ⟨rfl,h2,m2⟩
 have HF:Hid (WR w2 R (bs++((⟨#[91,58]⟩:ByteArray)++t++(⟨#[58,93]⟩:ByteArray)).data.toList) 0∧MvW W w2 R):=⟨h2,H1.out.2.1.trans m2⟩
 clear h2 m2
 go_wp2
 refine bodyPost_end (results_none rfl _ _ _) rfl ?_
 exact ⟨rfl,HF.out.2,HF.out.1⟩
set_option maxHeartbeats 4000000 in
theorem qform_4 (u:Int) (t:ByteArray) (A:Option Addr) (n c:Nat) (lo hi:Int) (nt:Bool) (key:Int) {W:World} {R:Nat} {bs:List UInt8} (h:WR W R bs 0) (hl:bs.length≤90000000000000)  :
 Calls Tryz.prog 121 #[.pointer (some ⟨R,0,none⟩),mia ⟨4,u,t,A,n,c,lo,hi,nt,key⟩] W fun x W'=>x = .returned (.tuple #[])∧WP W R bs [46] 300 none W':=by
 have hlt:=h.lt
 have H1:Hid (WR (W.alloc (.cells (mi1 ⟨4,u,t,A,n,c,lo,hi,nt,key⟩).toArray 58)) R bs 0∧MvW W (W.alloc (.cells (mi1 ⟨4,u,t,A,n,c,lo,hi,nt,key⟩).toArray 58)) R∧IB (W.alloc (.cells (mi1 ⟨4,u,t,A,n,c,lo,hi,nt,key⟩).toArray 58)) W.heap.size ⟨4,u,t,A,n,c,lo,hi,nt,key⟩∧W.heap.size≠R):=⟨h.below ((Below.refl _ W).alloc (Nat.le_refl _) _),MvW.of_below (by omega) ((Below.refl _ W).alloc (Nat.le_refl _) _),IB.new _ _,by omega⟩
 have HL:Hid (bs.length≤90000000000000):=hl
 have HPUT:Hid (∀ W',WR W' R bs 0→Calls Tryz.prog 72 #[.pointer (some ⟨R,0,none⟩),.string ((⟨#[46]⟩:ByteArray))] W' (WQ W' R (bs++((⟨#[46]⟩:ByteArray)).data.toList) 0)):=fun W' hW=>qput_any ((⟨#[46]⟩:ByteArray)) hW (by show bs.length+1≤_;omega)
 clear h hl
 go_enter Tryz.func121,Tryz.ntmps121
 go_wp2_with fail
 refine (HPUT.out _ H1.out.1).mono ?_
 rintro x w2 ⟨rfl,h2,m2⟩
 have HF:Hid (WR w2 R (bs++((⟨#[46]⟩:ByteArray)).data.toList) 0∧MvW W w2 R):=⟨h2,H1.out.2.1.trans m2⟩
 clear h2 m2
 go_wp2
 refine bodyPost_end (results_none rfl _ _ _) rfl ?_
 exact ⟨rfl,HF.out.2,HF.out.1⟩
set_option maxHeartbeats 4000000 in
theorem qform_7 (u:Int) (t:ByteArray) (A:Option Addr) (n c:Nat) (lo hi:Int) (nt:Bool) (key:Int) {W:World} {R:Nat} {bs:List UInt8} (h:WR W R bs 0) (hl:bs.length≤90000000000000) (hk:cpB key=true) :
 Calls Tryz.prog 121 #[.pointer (some ⟨R,0,none⟩),mia ⟨7,u,t,A,n,c,lo,hi,nt,key⟩] W fun x W'=>x = .returned (.tuple #[])∧WP W R bs (copyS key).data.toList 300 none W':=by
 have hlt:=h.lt
 have H1:Hid (WR (W.alloc (.cells (mi1 ⟨7,u,t,A,n,c,lo,hi,nt,key⟩).toArray 58)) R bs 0∧MvW W (W.alloc (.cells (mi1 ⟨7,u,t,A,n,c,lo,hi,nt,key⟩).toArray 58)) R∧IB (W.alloc (.cells (mi1 ⟨7,u,t,A,n,c,lo,hi,nt,key⟩).toArray 58)) W.heap.size ⟨7,u,t,A,n,c,lo,hi,nt,key⟩∧W.heap.size≠R):=⟨h.below ((Below.refl _ W).alloc (Nat.le_refl _) _),MvW.of_below (by omega) ((Below.refl _ W).alloc (Nat.le_refl _) _),IB.new _ _,by omega⟩
 have HL:Hid (bs.length≤90000000000000):=hl
 have H153:Hid (∀ w:World,Calls Tryz.prog 153 #[.int .i64 key] w fun x w'=>x = .returned (.string ⟨(Lib.itoa key).toArray⟩)∧Below w.heap.size w w'):=fun w=>qnumber_any key hk w
 have hcs:=copyS_small hk
 obtain ⟨y,hy⟩:∃ y:ByteArray,(⟨(Lib.itoa key).toArray⟩:ByteArray)=y:=⟨_,rfl⟩
 have HY:Hid (copyS key=(⟨#[64]⟩:ByteArray)++y):=by show _=_;rw [←hy];rfl
 have hx:((⟨#[64]⟩:ByteArray)++y).size=1+y.size:=by rw [ByteArray.size_append];rfl
 have hyz:y.size≤100:=by have:=hcs.1;rw [HY.out,hx] at this;omega
 rw [hy] at H153
 clear hy hcs hk
 clear h hl
 go_enter Tryz.func121,Tryz.ntmps121
 go_wp2_with fail
 refine (H153.out _).mono ?_
 rintro x w1 ⟨rfl,hb⟩
 have H2:Hid (WR w1 R bs 0∧MvW W w1 R):=⟨H1.out.1.below hb,H1.out.2.1.trans (MvW.of_below (by have:=H1.out.1.lt;omega) hb)⟩
 clear hb
 go_wp2_with fail
 refine (qput_any ((⟨#[64]⟩:ByteArray)++y) H2.out.1 (by have:=HL.out;omega)).mono ?_
 rintro x w2 ⟨rfl,h2,m2⟩
 have HF:Hid (WR w2 R (bs++((⟨#[64]⟩:ByteArray)++y).data.toList) 0∧MvW W w2 R):=⟨h2,H2.out.2.trans m2⟩
 clear h2 m2
 go_wp2
 refine bodyPost_end (results_none rfl _ _ _) rfl ?_
 exact ⟨rfl,HF.out.2,by rw [HY.out];exact HF.out.1⟩
set_option maxHeartbeats 4000000 in
theorem qform_6 (u:Int) (t:ByteArray) (A:Option Addr) (n c:Nat) (lo hi:Int) (nt:Bool) (key:Int) {W:World} {R:Nat} {bs:List UInt8} (h:WR W R bs 0) (hl:bs.length≤90000000000000) (o:Option Int) (ho:o=if wd lo=0 then some 50 else if wd hi=0 then some 50 else if isRng lo hi then none else some 51) :
 Calls Tryz.prog 121 #[.pointer (some ⟨R,0,none⟩),mia ⟨6,u,t,A,n,c,lo,hi,nt,key⟩] W fun x W'=>x = .returned (.tuple #[])∧WP W R bs (unitS lo++⟨#[45]⟩++unitS hi).data.toList 300 o W':=by
 have hlt:=h.lt
 have H1:Hid (WR (W.alloc (.cells (mi1 ⟨6,u,t,A,n,c,lo,hi,nt,key⟩).toArray 58)) R bs 0∧MvW W (W.alloc (.cells (mi1 ⟨6,u,t,A,n,c,lo,hi,nt,key⟩).toArray 58)) R∧IB (W.alloc (.cells (mi1 ⟨6,u,t,A,n,c,lo,hi,nt,key⟩).toArray 58)) W.heap.size ⟨6,u,t,A,n,c,lo,hi,nt,key⟩∧W.heap.size≠R):=⟨h.below ((Below.refl _ W).alloc (Nat.le_refl _) _),MvW.of_below (by omega) ((Below.refl _ W).alloc (Nat.le_refl _) _),IB.new _ _,by omega⟩
 have HL:Hid (bs.length≤90000000000000):=hl
 obtain ⟨br,hbr⟩:∃ br,isRng lo hi=br:=⟨_,rfl⟩
 have H145:Hid (∀ w:World,Calls Tryz.prog 145 #[.int .i64 lo,.int .i64 hi] w fun x w'=>x = .returned (.bool br)∧w'=w):=fun w=>by rw [←hbr];exact qrng_any lo hi w
 rw [hbr] at ho
 have z1:=unitS_le lo
 have z2:=unitS_le hi
 obtain ⟨C1,hC1⟩:∃ C1:Int,(if wd lo=0 then (50:Int) else 0)=C1:=⟨_,rfl⟩
 obtain ⟨C2,hC2⟩:∃ C2:Int,(if wd hi=0 then fc C1 50 else C1)=C2:=⟨_,rfl⟩
 have HC:Hid ((if wd lo=0 then fc 0 50 else 0)=C1∧(if wd hi=0 then fc C1 50 else C1)=C2∧(o=(if (if br then C2 else fc C2 51)=0 then none else some (if br then C2 else fc C2 51)))):=by
  refine ⟨hC1,hC2,?_⟩
  rw [ho]
  subst hC1
  subst hC2
  by_cases h1:wd lo=0 <;> by_cases h2:wd hi=0 <;> cases br <;> simp [h1,h2,fc]
 clear hbr hC1 hC2 ho
 clear h hl
 go_enter Tryz.func121,Tryz.ntmps121
 obtain ⟨k0,k1,k2,k3,k4,k5,k6,k7⟩:=H1.out.2.2.1.cells
 go_wp2_with fail
 refine (qunit_any lo H1.out.1 (by have:=HL.out;omega)).mono ?_
 rintro x w2 ⟨rfl,h2,m2⟩
 rw [HC.out.1] at h2
 have H2:Hid (WR w2 R (bs++(unitS lo).data.toList) C1∧MvW W w2 R∧IB w2 W.heap.size ⟨6,u,t,A,n,c,lo,hi,nt,key⟩):=⟨h2,H1.out.2.1.trans m2,H1.out.2.2.1.mvW m2 H1.out.2.2.2⟩
 clear h2 m2 k0 k1 k2 k3 k4 k5 k6 k7
 have y1:(unitS lo).data.toList.length≤100:=by have h2:(unitS lo).data.toList.length=(unitS lo).size:=Array.length_toList;omega
 have y2:(unitS hi).data.toList.length≤100:=by have h2:(unitS hi).data.toList.length=(unitS hi).size:=Array.length_toList;omega
 have e1:(bs++(unitS lo).data.toList).length≤90000000000100:=by rw [List.length_append];have:=HL.out;omega
 go_wp2_with fail
 refine (qput_any ⟨#[45]⟩ H2.out.1 (by show _+1≤_;omega)).mono ?_
 rintro x w3 ⟨rfl,h3,m3⟩
 have H3:Hid (WR w3 R (bs++(unitS lo).data.toList++[45]) C1∧MvW W w3 R∧IB w3 W.heap.size ⟨6,u,t,A,n,c,lo,hi,nt,key⟩):=⟨h3,H2.out.2.1.trans m3,H2.out.2.2.mvW m3 H1.out.2.2.2⟩
 clear h3 m3
 obtain ⟨k0,k1,k2,k3,k4,k5,k6,k7⟩:=H3.out.2.2.cells
 go_wp2_with fail
 refine (qunit_any hi H3.out.1 (by rw [List.length_append,List.length_singleton];omega)).mono ?_
 rintro x w4 ⟨rfl,h4,m4⟩
 rw [HC.out.2.1] at h4
 have H4:Hid (WR w4 R (bs++(unitS lo).data.toList++[45]++(unitS hi).data.toList) C2∧MvW W w4 R∧IB w4 W.heap.size ⟨6,u,t,A,n,c,lo,hi,nt,key⟩):=⟨h4,H3.out.2.1.trans m4,H3.out.2.2.mvW m4 H1.out.2.2.2⟩
 clear h4 m4 k0 k1 k2 k3 k4 k5 k6 k7
 obtain ⟨k0,k1,k2,k3,k4,k5,k6,k7⟩:=H4.out.2.2.cells
 have hlen:(bs++(unitS lo).data.toList++[45]++(unitS hi).data.toList).length≤bs.length+300:=by
  simp only [List.length_append,List.length_singleton]
  omega
 have HE:Hid (∀ w',WR w' R (bs++(unitS lo).data.toList++[45]++(unitS hi).data.toList) (if br then C2 else fc C2 51)→MvW W w' R→WP W R bs (unitS lo++⟨#[45]⟩++unitS hi).data.toList 300 o w'):=fun w' hw hm=>by
  refine ⟨hm,?_⟩
  rw [HC.out.2.2]
  by_cases hz:(if br then C2 else fc C2 51)=0
  · rw [if_pos hz]
    rw [hz] at hw
    simp only [ByteArray.data_append,Array.toList_append,←List.append_assoc]
    exact hw
  · rw [if_neg hz]
    exact ⟨_,hw,hlen⟩
 clear hlen e1 z1 z2 y1 y2
 go_wp2_with fail
 refine (H145.out _).mono ?_
 rintro x w5 ⟨rfl,rfl⟩
 cases br with
 | true=>
  have HF:=Hid.mk2 (HE.out _ H4.out.1 H4.out.2.1)
  clear HE HC
  go_wp2
  refine bodyPost_end (results_none rfl _ _ _) rfl ?_
  exact ⟨rfl,HF.out⟩
 | false=>
  go_wp2_with fail
  refine (qfail_any 51 H4.out.1).mono ?_
  rintro x w6 ⟨rfl,h6,m6⟩
  have HF:=Hid.mk2 (HE.out _ h6 (H4.out.2.1.trans m6))
  clear HE HC h6 m6
  go_wp2
  refine bodyPost_end (results_none rfl _ _ _) rfl ?_
  exact ⟨rfl,HF.out⟩
end Go.Proofs
