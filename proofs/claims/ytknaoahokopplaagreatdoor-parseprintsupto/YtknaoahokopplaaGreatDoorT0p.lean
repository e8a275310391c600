/-
  The document's writing of sets and pairs.
-/
import Derived.Test.YtknaoahokopplaaGreatDoorU9p
namespace Go.Proofs
open Go.RowKit Go.Shelf
set_option maxRecDepth 100000
attribute [local go_sem] Oper.semAt_some
theorem WP.ts {W W':World} {R:Nat} {bs ts ts':List UInt8} {B:Nat} {o:Option Int} (h:WP W R bs ts B o W') (he:o=none→ts=ts'):WP W R bs ts' B o W':=by
 cases o with
 | none=>rw [←he rfl];exact h
 | some e=>exact h
theorem WP.up {W W':World} {R:Nat} {bs ts:List UInt8} {B B':Nat} {o:Option Int} (h:WP W R bs ts B o W') (hB:B≤B'):WP W R bs ts B' o W':=by
 cases o with
 | none=>exact h
 | some e=>
  obtain ⟨h1,bs',h2,h3⟩:=h
  exact ⟨h1,bs',h2,by omega⟩
theorem WP.ahead {W W1 W':World} {R:Nat} {bs pre ts:List UInt8} {B:Nat} {o:Option Int} (h:WP W1 R (bs++pre) ts B o W') (hm:MvW W W1 R):WP W R bs (pre++ts) (pre.length+B) o W':=by
 refine ⟨hm.trans h.1,?_⟩
 cases o with
 | none=>rw [←List.append_assoc];exact h.2
 | some e=>
  obtain ⟨_,bs',h2,h3⟩:=h
  exact ⟨bs',h2,by rw [List.length_append] at h3;omega⟩
theorem WP.put {W W':World} {R:Nat} {bs ts:List UInt8} {B:Nat} {o:Option Int} (h:WP W R bs ts B o W') (s:ByteArray) (hl:bs.length+ts.length+B+s.size≤140737488355328):Calls Tryz.prog 72 #[.pointer (some ⟨R,0,none⟩),.string s] W' fun x W2=>x = .returned (.tuple #[])∧WP W R bs (ts++s.data.toList) (B+s.size) o W2:=by
 obtain ⟨hm,h⟩:=h
 cases o with
 | none=>
  refine (qput_any s h (by rw [List.length_append];omega)).mono ?_
  rintro x W2 ⟨rfl,h2,m2⟩
  exact ⟨rfl,hm.trans m2,by rw [←List.append_assoc];exact h2⟩
 | some e=>
  obtain ⟨bs',h1,h3⟩:=h
  refine (qput_any s h1 (by omega)).mono ?_
  rintro x W2 ⟨rfl,h2,m2⟩
  exact ⟨rfl,hm.trans m2,_,h2,by rw [List.length_append];have:s.data.toList.length=s.size:=Array.length_toList;omega⟩
set_option maxHeartbeats 4000000 in
theorem qform_5 (u:Int) (t:ByteArray) (A:Option Addr) (n c:Nat) (lo hi:Int) (nt:Bool) (key:Int) {W:World} {R:Nat} {bs:List UInt8} (h:WR W R bs 0) (hl:bs.length≤90000000000000) (ts:List UInt8) (B:Nat) (hB:ts.length+B≤1000000000) (o:Option Int)
 (hrow:∀ W2 bs2,WR W2 R bs2 0→MvW W W2 R→bs2.length≤bs.length+2→Calls Tryz.prog 122 #[.pointer (some ⟨R,0,none⟩),.slice A n c,.bool true,.bool false,.int .i64 (-1)] W2 fun x W'=>x = .returned (.tuple #[])∧WP W2 R bs2 ts B o W') :
 Calls Tryz.prog 121 #[.pointer (some ⟨R,0,none⟩),mia ⟨5,u,t,A,n,c,lo,hi,nt,key⟩] W fun x W'=>x = .returned (.tuple #[])∧WP W R bs ((if nt then [91,94] else [91])++ts++[93]) (B+3) o W':=by
 have hlt:=h.lt
 have H1:Hid (WR (W.alloc (.cells (mi1 ⟨5,u,t,A,n,c,lo,hi,nt,key⟩).toArray 58)) R bs 0∧MvW W (W.alloc (.cells (mi1 ⟨5,u,t,A,n,c,lo,hi,nt,key⟩).toArray 58)) R∧IB (W.alloc (.cells (mi1 ⟨5,u,t,A,n,c,lo,hi,nt,key⟩).toArray 58)) W.heap.size ⟨5,u,t,A,n,c,lo,hi,nt,key⟩∧W.heap.size≠R):=⟨h.below ((Below.refl _ W).alloc (Nat.le_refl _) _),MvW.of_below (by omega) ((Below.refl _ W).alloc (Nat.le_refl _) _),IB.new _ _,by omega⟩
 have HL:Hid (bs.length≤90000000000000∧ts.length+B≤1000000000):=⟨hl,hB⟩
 have HR:Hid (∀ W2 bs2,WR W2 R bs2 0→MvW W W2 R→bs2.length≤bs.length+2→Calls Tryz.prog 122 #[.pointer (some ⟨R,0,none⟩),.slice A n c,.bool true,.bool false,.int .i64 (-1)] W2 fun x W'=>x = .returned (.tuple #[])∧WP W2 R bs2 ts B o W'):=hrow
 obtain ⟨G,hG⟩:∃ G,((if nt then [91,94] else [91])++ts++[93]:List UInt8)=G:=⟨_,rfl⟩
 have HG:Hid (((if nt then [91,94] else [91])++ts++[93]:List UInt8)=G):=hG
 rw [hG]
 clear h hl hrow hB hG
 go_enter Tryz.func121,Tryz.ntmps121
 go_wp2_with fail
 refine (qput_any ⟨#[91]⟩ H1.out.1 (by have:=HL.out.1;show _+1≤_;omega)).mono ?_
 rintro x w2 ⟨rfl,h2,m2⟩
 have H2:Hid (WR w2 R (bs++[91]) 0∧MvW W w2 R∧IB w2 W.heap.size ⟨5,u,t,A,n,c,lo,hi,nt,key⟩):=⟨h2,H1.out.2.1.trans m2,H1.out.2.2.1.mvW m2 H1.out.2.2.2⟩
 clear h2 m2
 obtain ⟨k0,k1,k2,k3,k4,k5,k6,k7⟩:=H2.out.2.2.cells
 cases nt with
 | false=>
  go_wp2_with fail
  refine (HR.out _ _ H2.out.1 H2.out.2.1 (by simp)).mono ?_
  rintro x w3 ⟨rfl,h3⟩
  have H3:Hid (WP W R bs ([91]++ts) (1+B) o w3):=WP.ahead h3 H2.out.2.1
  clear h3 k0 k1 k2 k3 k4 k5 k6 k7
  go_wp2_with fail
  refine (H3.out.put ⟨#[93]⟩ (by have:=HL.out;rw [List.length_append,List.length_singleton];show _+1≤_;omega)).mono ?_
  rintro x w4 ⟨rfl,h4⟩
  have HF:Hid (WP W R bs G (B+3) o w4):=by
   show WP _ _ _ _ _ _ _
   rw [←HG.out]
   exact WP.up h4 (by show 1+B+1≤_;omega)
  clear h4
  go_wp2
  refine bodyPost_end (results_none rfl _ _ _) rfl ?_
  exact ⟨rfl,HF.out⟩
 | true=>
  go_wp2_with fail
  refine (qput_any ⟨#[94]⟩ H2.out.1 (by have:=HL.out.1;rw [List.length_append,List.length_singleton];show _+1≤_;omega)).mono ?_
  rintro x w9 ⟨rfl,h9,m9⟩
  have H9:Hid (WR w9 R (bs++[91,94]) 0∧MvW W w9 R∧IB w9 W.heap.size ⟨5,u,t,A,n,c,lo,hi,true,key⟩):=⟨by have:=h9;rw [List.append_assoc] at this;exact this,H2.out.2.1.trans m9,H2.out.2.2.mvW m9 H1.out.2.2.2⟩
  clear h9 m9 k0 k1 k2 k3 k4 k5 k6 k7
  obtain ⟨k0,k1,k2,k3,k4,k5,k6,k7⟩:=H9.out.2.2.cells
  go_wp2_with fail
  refine (HR.out _ _ H9.out.1 H9.out.2.1 (by simp)).mono ?_
  rintro x w3 ⟨rfl,h3⟩
  have H3:Hid (WP W R bs ([91,94]++ts) (2+B) o w3):=WP.ahead h3 H9.out.2.1
  clear h3 k0 k1 k2 k3 k4 k5 k6 k7
  go_wp2_with fail
  refine (H3.out.put ⟨#[93]⟩ (by have:=HL.out;rw [List.length_append];show _+(2+_)+_+1≤_;omega)).mono ?_
  rintro x w4 ⟨rfl,h4⟩
  have HF:Hid (WP W R bs G (B+3) o w4):=by
   show WP _ _ _ _ _ _ _
   rw [←HG.out]
   exact WP.up h4 (by show 2+B+1≤_;omega)
  clear h4
  go_wp2
  refine bodyPost_end (results_none rfl _ _ _) rfl ?_
  exact ⟨rfl,HF.out⟩
set_option maxHeartbeats 4000000 in
theorem qform_8 (u:Int) (t:ByteArray) (g z n c:Nat) (lo hi:Int) (nt:Bool) (key:Int) {W:World} {R:Nat} {bs:List UInt8} (h:WR W R bs 0) (hl:bs.length≤90000000000000) (hk:cpB key=true) (hn:1≤n) (m1:MI) (hgR:g<R) (hpart:∀ i v,(mi1 m1)[i]? = some v→W.cell? ⟨g,z+i,none⟩=some v) (ts:List UInt8) (B:Nat) (o:Option Int)
 (hitem:∀ W2 bs2,WR W2 R bs2 0→MvW W W2 R→bs2.length≤bs.length+200→Calls Tryz.prog 74 #[.pointer (some ⟨R,0,none⟩),mia m1,.bool false,.bool false] W2 fun x W'=>x = .returned (.tuple #[])∧WP W2 R bs2 ts B o W') :
 Calls Tryz.prog 121 #[.pointer (some ⟨R,0,none⟩),mia ⟨8,u,t,some ⟨g,z,none⟩,n,c,lo,hi,nt,key⟩] W fun x W'=>x = .returned (.tuple #[])∧WP W R bs ((copyS key++⟨#[58]⟩).data.toList++ts) (B+200) o W':=by
 have hlt:=h.lt
 have H1:Hid (WR (W.alloc (.cells (mi1 ⟨8,u,t,some ⟨g,z,none⟩,n,c,lo,hi,nt,key⟩).toArray 58)) R bs 0∧MvW W (W.alloc (.cells (mi1 ⟨8,u,t,some ⟨g,z,none⟩,n,c,lo,hi,nt,key⟩).toArray 58)) R∧IB (W.alloc (.cells (mi1 ⟨8,u,t,some ⟨g,z,none⟩,n,c,lo,hi,nt,key⟩).toArray 58)) W.heap.size ⟨8,u,t,some ⟨g,z,none⟩,n,c,lo,hi,nt,key⟩∧W.heap.size≠R):=⟨h.below ((Below.refl _ W).alloc (Nat.le_refl _) _),MvW.of_below (by omega) ((Below.refl _ W).alloc (Nat.le_refl _) _),IB.new _ _,by omega⟩
 have H153:Hid (∀ w:World,Calls Tryz.prog 153 #[.int .i64 key] w fun x w'=>x = .returned (.string ⟨(Lib.itoa key).toArray⟩)∧Below w.heap.size w w'):=fun w=>qnumber_any key hk w
 have hcs:=copyS_small hk
 obtain ⟨y,hy⟩:∃ y:ByteArray,(⟨(Lib.itoa key).toArray⟩:ByteArray)=y:=⟨_,rfl⟩
 have HY:Hid (copyS key=(⟨#[64]⟩:ByteArray)++y):=by show _=_;rw [←hy];rfl
 have hx:((⟨#[64]⟩:ByteArray)++y).size=1+y.size:=by rw [ByteArray.size_append];rfl
 have hyz:y.size≤100:=by have:=hcs.1;rw [HY.out,hx] at this;omega
 have hx2:((⟨#[64]⟩:ByteArray)++y++(⟨#[58]⟩:ByteArray)).size=1+y.size+1:=by rw [ByteArray.size_append,hx];rfl
 rw [hy] at H153
 have HP:Hid (bs.length≤90000000000000∧y.size≤100∧g<R∧(∀ i v,(mi1 m1)[i]? = some v→W.cell? ⟨g,z+i,none⟩=some v)):=⟨hl,hyz,hgR,hpart⟩
 have HPUT:Hid (∀ W',WR W' R bs 0→Calls Tryz.prog 72 #[.pointer (some ⟨R,0,none⟩),.string ((⟨#[64]⟩:ByteArray)++y++(⟨#[58]⟩:ByteArray))] W' (WQ W' R (bs++((⟨#[64]⟩:ByteArray)++y++(⟨#[58]⟩:ByteArray)).data.toList) 0)):=fun W' hW=>qput_any _ hW (by rw [hx2];clear hx hx2 H1 H153 HY HP;omega)
 have HTL:Hid ((bs++((⟨#[64]⟩:ByteArray)++y++(⟨#[58]⟩:ByteArray)).data.toList).length≤bs.length+200∧((⟨#[64]⟩:ByteArray)++y++(⟨#[58]⟩:ByteArray)).data.toList.length≤200):=by
  have e:((⟨#[64]⟩:ByteArray)++y++(⟨#[58]⟩:ByteArray)).data.toList.length=1+y.size+1:=by rw [←hx2];exact Array.length_toList
  exact ⟨by rw [List.length_append,e];omega,by omega⟩
 have HI:Hid (∀ W2 bs2,WR W2 R bs2 0→MvW W W2 R→bs2.length≤bs.length+200→Calls Tryz.prog 74 #[.pointer (some ⟨R,0,none⟩),mia m1,.bool false,.bool false] W2 fun x W'=>x = .returned (.tuple #[])∧WP W2 R bs2 ts B o W'):=hitem
 have hnn:(1:Int)≤(n:Int):=by omega
 have hn0:(0:Int)<(n:Int):=by omega
 clear hy hcs hk h hl hgR hpart hitem
 go_enter Tryz.func121,Tryz.ntmps121
 go_wp2_with fail
 refine (H153.out _).mono ?_
 rintro x w1 ⟨rfl,hb⟩
 have H2:Hid (WR w1 R bs 0∧MvW W w1 R∧IB w1 W.heap.size ⟨8,u,t,some ⟨g,z,none⟩,n,c,lo,hi,nt,key⟩):=⟨H1.out.1.below hb,H1.out.2.1.trans (MvW.of_below (by have:=H1.out.1.lt;omega) hb),H1.out.2.2.1.same (hb.block _ H1.out.2.2.1.lt)⟩
 clear hb
 go_wp2_with fail
 refine (HPUT.out _ H2.out.1).mono ?_
 rintro x w2 ⟨rfl,h2,m2⟩
 have H3:Hid (WR w2 R (bs++((⟨#[64]⟩:ByteArray)++y++(⟨#[58]⟩:ByteArray)).data.toList) 0∧MvW W w2 R∧IB w2 W.heap.size ⟨8,u,t,some ⟨g,z,none⟩,n,c,lo,hi,nt,key⟩):=⟨h2,H2.out.2.1.trans m2,H2.out.2.2.mvW m2 H1.out.2.2.2⟩
 clear h2 m2 HPUT
 obtain ⟨k0,k1,k2,k3,k4,k5,k6,k7⟩:=H3.out.2.2.cells
 have hce:∀ i v,(mi1 m1)[i]? = some v→w2.cell? ⟨g,z+i,none⟩=some v:=fun i v hv=>by
  rw [←HP.out.2.2.2 i v hv]
  exact H3.out.2.1.bel.cell (p:=⟨g,z+i,none⟩) HP.out.2.2.1
 have q0:=hce 0 _ rfl
 have q1:=hce 1 _ rfl
 have q2:=hce 2 _ rfl
 have q3:=hce 3 _ rfl
 have q4:=hce 4 _ rfl
 have q5:=hce 5 _ rfl
 have q6:=hce 6 _ rfl
 have q7:=hce 7 _ rfl
 simp only [Nat.add_zero] at q0
 clear hce hx hx2
 go_wp2_with fail
 refine (HI.out _ _ H3.out.1 H3.out.2.1 HTL.out.1).mono ?_
 rintro x w4 ⟨rfl,h4⟩
 have HF:Hid (WP W R bs ((copyS key++⟨#[58]⟩).data.toList++ts) (B+200) o w4):=by
  show WP _ _ _ _ _ _ _
  rw [HY.out]
  exact WP.up (WP.ahead h4 H3.out.2.1) (by have:=HTL.out.2;omega)
 clear h4
 go_wp2
 refine bodyPost_end (results_none rfl _ _ _) rfl ?_
 exact ⟨rfl,HF.out⟩
end Go.Proofs
