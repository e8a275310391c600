/-
  Several texts in one (X1p X2p X3p).
-/
import Derived.Test.YtknaoahokopplaaGreatDoorMgmp
import Derived.Test.YtknaoahokopplaaGreatDoorMgap
import Derived.Deep.RegionWith
namespace Go.Proofs
open Go.RowKit Go.Shelf
set_option maxRecDepth 100000
attribute [local go_sem] Oper.semAt_some
def jnB (xs:List ByteArray):ByteArray:=⟨(Lib.join (xs.map (·.data.toList)) [32]).toArray⟩
theorem join_any (w:World) (b:Nat) (v:Value) (xs:List ByteArray) (h:OwnX w b v xs) (hn:xs.length≤1000000) (hl:(jnB xs).size≤140737488355328):Calls Tryz.prog 37 #[v,.string ⟨#[32]⟩] w fun e w'=>e = .returned (.string (jnB xs))∧Below w.heap.size w w':=by
 rcases h.2 with ⟨e,h0⟩ | ⟨g,cap,cur,e,k1,k2,k3,k4,k5,k6⟩
 · have hx:xs=[]:=List.eq_nil_of_length_eq_zero h0
   subst hx
   subst e
   refine (Any.strings_Join_none Tryz.lays156 Tryz.Builder_Extra_156 none 0 ⟨#[32]⟩ w).mono ?_
   rintro x w' ⟨rfl,rfl⟩
   exact ⟨rfl,Below.refl _ _⟩
 · subst e
   refine Tryz.strings_Join g 0 cap xs ⟨#[32]⟩ w ?_ (Array.getElem?_eq_some_iff.1 k2).1 (by omega) k3 ?_
   · intro j x hj
     have hj2:(xs.map Value.string)[j]? = some (.string x):=by rw [List.getElem?_map,hj];rfl
     rw [←k6,List.getElem?_take] at hj2
     split at hj2
     · simp only [World.cell?,k2,Nat.zero_add]
       simpa using hj2
     · cases hj2
   · have:(jnB xs).size=(Lib.join (xs.map (·.data.toList)) [32]).length:=by
      show (Lib.join (xs.map (·.data.toList)) [32]).toArray.size=_
      simp
     rw [←this]
     exact hl
def setS (nt:Bool) (xs:List ByteArray):ByteArray:=(if nt then ⟨#[91]⟩++⟨#[94]⟩ else ⟨#[91]⟩)++jnB xs++⟨#[93]⟩
set_option maxHeartbeats 4000000 in
theorem setText_step (m:MI) (xs:List ByteArray) (w:World) (hn:xs.length≤1000000) (hl:(jnB xs).size≤1000000000)
 (hI:∀ W,Below w.heap.size w W→Calls Tryz.prog 119 #[.slice m.A m.n m.c] W fun x w'=>∃ v,x = .returned v∧OwnX w' W.heap.size v xs∧Below W.heap.size W w') :
 Calls Tryz.prog 117 #[mia m] w fun x w'=>x = .returned (.string (setS m.nt xs))∧Below w.heap.size w w':=by
 have HI:Hid (∀ W,Below w.heap.size w W→Calls Tryz.prog 119 #[.slice m.A m.n m.c] W fun x w'=>∃ v,x = .returned v∧OwnX w' W.heap.size v xs∧Below W.heap.size W w'):=hI
 have HB0:Hid (Below w.heap.size w (w.alloc (.cells (mi1 m).toArray 58))):=(Below.refl _ w).alloc (Nat.le_refl _) _
 obtain ⟨J,hJ⟩:∃ J,jnB xs=J:=⟨_,rfl⟩
 obtain ⟨p,hp⟩:∃ p:ByteArray,(if m.nt then (⟨#[91]⟩:ByteArray)++⟨#[94]⟩ else ⟨#[91]⟩)=p:=⟨_,rfl⟩
 have HS:Hid (setS m.nt xs=p++J++⟨#[93]⟩∧jnB xs=J∧xs.length≤1000000∧(jnB xs).size≤140737488355328):=⟨by unfold setS;rw [hp,hJ],hJ,hn,by omega⟩
 have hJz:J.size≤1000000000:=by rw [←hJ];exact hl
 have HP:Hid ((if m.nt then (⟨#[91]⟩:ByteArray)++⟨#[94]⟩ else ⟨#[91]⟩)=p):=hp
 have hpz:p.size≤2:=by
  rw [←hp]
  split
  · decide
  · decide
 have hx1:(p++J).size=p.size+J.size:=ByteArray.size_append
 have hx2:(p++J++⟨#[93]⟩).size=p.size+J.size+1:=by rw [ByteArray.size_append,hx1];rfl
 have hs18:signB 18=⟨#[91]⟩:=by decide +kernel
 have hs15:signB 15=⟨#[94]⟩:=by decide +kernel
 have hs19:signB 19=⟨#[93]⟩:=by decide +kernel
 have H68:Hid (∀ W,(Calls Tryz.prog 68 #[.int .i64 18] W fun e w'=>e = .returned (.string ⟨#[91]⟩)∧w'=W)∧(Calls Tryz.prog 68 #[.int .i64 15] W fun e w'=>e = .returned (.string ⟨#[94]⟩)∧w'=W)∧(Calls Tryz.prog 68 #[.int .i64 19] W fun e w'=>e = .returned (.string ⟨#[93]⟩)∧w'=W)):=fun W=>⟨by rw [←hs18];exact signK_any 18 W,by rw [←hs15];exact signK_any 15 W,by rw [←hs19];exact signK_any 19 W⟩
 clear hI hJ hp hn hl hs18 hs15 hs19
 obtain ⟨k,u,t,A,n,c,lo,hi,nt,key⟩:=m
 cases nt with
 | false=>
  have hp1:(⟨#[91]⟩:ByteArray)=p:=HP.out
  go_enter Tryz.func117,Tryz.ntmps117
  go_wp2_with fail
  refine (H68.out _).1.mono ?_
  rintro x w1 ⟨rfl,rfl⟩
  rw [hp1]
  clear hp1
  go_wp2_with fail
  refine (HI.out _ HB0.out).mono ?_
  rintro x w2 ⟨v,rfl,hO,hb2⟩
  have H2:Hid (Below w.heap.size w w2∧∃ b,OwnX w2 b v xs):=⟨HB0.out.trans (hb2.mono (by simp)),_,hO⟩
  clear hO hb2
  go_wp2_with fail
  obtain ⟨b,hO⟩:=H2.out.2
  refine (join_any _ b v xs hO HS.out.2.2.1 HS.out.2.2.2).mono ?_
  rintro x w3 ⟨rfl,hb3⟩
  rw [HS.out.2.1]
  have H3:Hid (Below w.heap.size w w3):=H2.out.1.trans (hb3.mono H2.out.1.size)
  clear hb3 hO
  go_wp2_with fail
  refine (H68.out _).2.2.mono ?_
  rintro x w4 ⟨rfl,rfl⟩
  go_wp2
  go_ret
  exact ⟨by rw [HS.out.1];rfl,H3.out⟩
 | true=>
  have hp1:(⟨#[91]⟩:ByteArray)++⟨#[94]⟩=p:=HP.out
  go_enter Tryz.func117,Tryz.ntmps117
  go_wp2_with fail
  refine (H68.out _).1.mono ?_
  rintro x w1 ⟨rfl,rfl⟩
  go_wp2_with fail
  refine (H68.out _).2.1.mono ?_
  rintro x w1 ⟨rfl,rfl⟩
  go_wp2_with fail
  refine (HI.out _ HB0.out).mono ?_
  rintro x w2 ⟨v,rfl,hO,hb2⟩
  have H2:Hid (Below w.heap.size w w2∧∃ b,OwnX w2 b v xs):=⟨HB0.out.trans (hb2.mono (by simp)),_,hO⟩
  clear hO hb2
  go_wp2_with fail
  obtain ⟨b,hO⟩:=H2.out.2
  refine (join_any _ b v xs hO HS.out.2.2.1 HS.out.2.2.2).mono ?_
  rintro x w3 ⟨rfl,hb3⟩
  rw [HS.out.2.1]
  have H3:Hid (Below w.heap.size w w3):=H2.out.1.trans (hb3.mono H2.out.1.size)
  clear hb3 hO
  go_wp2_with fail
  refine (H68.out _).2.2.mono ?_
  rintro x w4 ⟨rfl,rfl⟩
  go_wp2
  go_ret
  exact ⟨by rw [HS.out.1];rfl,H3.out⟩
end Go.Proofs
namespace Go.Proofs
open Go.RowKit Go.Shelf
set_option maxRecDepth 100000
attribute [local go_sem] Oper.semAt_some
def ItX (w:World) (s:ByteArray) (x:Ending) (w':World):Prop:=x = .returned (.string s)∧Below w.heap.size w w'
set_option maxHeartbeats 2000000 in
theorem itemText_1 (u:Int) (t:ByteArray) (A:Option Addr) (n c:Nat) (lo hi:Int) (nt:Bool) (key:Int) (w:World) (hT:TabB (w.alloc (.cells (mi1 ⟨1,u,t,A,n,c,lo,hi,nt,key⟩).toArray 58))):Calls Tryz.prog 69 #[mia ⟨1,u,t,A,n,c,lo,hi,nt,key⟩] w (ItX w (unitS u)):=by
 have HT:Hid (TabB (w.alloc (.cells (mi1 ⟨1,u,t,A,n,c,lo,hi,nt,key⟩).toArray 58))):=hT
 clear hT
 have HB0:Hid (Below w.heap.size w (w.alloc (.cells (mi1 ⟨1,u,t,A,n,c,lo,hi,nt,key⟩).toArray 58))):=(Below.refl _ w).alloc (Nat.le_refl _) _
 go_enter Tryz.func69,Tryz.ntmps69
 go_wp2_with fail
 refine (unitText_any u _ HT.out).mono ?_
 rintro x w1 ⟨rfl,hb⟩
 have H1:Hid (Below w.heap.size w w1):=HB0.out.trans (hb.mono (by simp))
 clear hb
 go_wp2
 go_ret
 exact ⟨rfl,H1.out⟩
set_option maxHeartbeats 2000000 in
theorem itemText_2 (u:Int) (t:ByteArray) (A:Option Addr) (n c:Nat) (lo hi:Int) (nt:Bool) (key:Int) (w:World) (ht:t.size≤1000):Calls Tryz.prog 69 #[mia ⟨2,u,t,A,n,c,lo,hi,nt,key⟩] w (ItX w (⟨#[36]⟩++t)):=by
 have hx:((⟨#[36]⟩:ByteArray)++t).size=1+t.size:=by rw [ByteArray.size_append];rfl
 go_enter Tryz.func69,Tryz.ntmps69
 go_wp2
 go_ret
 exact ⟨rfl,(Below.refl _ w).alloc (Nat.le_refl _) _⟩
set_option maxHeartbeats 2000000 in
theorem itemText_3 (u:Int) (t:ByteArray) (A:Option Addr) (n c:Nat) (lo hi:Int) (nt:Bool) (key:Int) (w:World) (ht:t.size≤1000):Calls Tryz.prog 69 #[mia ⟨3,u,t,A,n,c,lo,hi,nt,key⟩] w (ItX w (⟨#[91,58]⟩++t++⟨#[58,93]⟩)):=by
 have hx:((⟨#[91,58]⟩:ByteArray)++t).size=2+t.size:=by rw [ByteArray.size_append];rfl
 have hx2:((⟨#[91,58]⟩:ByteArray)++t++⟨#[58,93]⟩).size=2+t.size+2:=by rw [ByteArray.size_append,hx];rfl
 go_enter Tryz.func69,Tryz.ntmps69
 go_wp2
 go_ret
 exact ⟨rfl,(Below.refl _ w).alloc (Nat.le_refl _) _⟩
set_option maxHeartbeats 2000000 in
theorem itemText_4 (u:Int) (t:ByteArray) (A:Option Addr) (n c:Nat) (lo hi:Int) (nt:Bool) (key:Int) (w:World):Calls Tryz.prog 69 #[mia ⟨4,u,t,A,n,c,lo,hi,nt,key⟩] w (ItX w ⟨#[46]⟩):=by
 have hs:signB 17=⟨#[46]⟩:=by decide +kernel
 have H68:Hid (∀ W,Calls Tryz.prog 68 #[.int .i64 17] W fun e w'=>e = .returned (.string ⟨#[46]⟩)∧w'=W):=fun W=>by rw [←hs];exact signK_any 17 W
 clear hs
 go_enter Tryz.func69,Tryz.ntmps69
 go_wp2_with fail
 refine (H68.out _).mono ?_
 rintro x w1 ⟨rfl,rfl⟩
 go_wp2
 go_ret
 exact ⟨rfl,(Below.refl _ w).alloc (Nat.le_refl _) _⟩
set_option maxHeartbeats 2000000 in
theorem itemText_5 (u:Int) (t:ByteArray) (A:Option Addr) (n c:Nat) (lo hi:Int) (nt:Bool) (key:Int) (w:World) (s:ByteArray) (h:∀ W,Below w.heap.size w W→Calls Tryz.prog 117 #[mia ⟨5,u,t,A,n,c,lo,hi,nt,key⟩] W fun x w'=>x = .returned (.string s)∧Below W.heap.size W w'):Calls Tryz.prog 69 #[mia ⟨5,u,t,A,n,c,lo,hi,nt,key⟩] w (ItX w s):=by
 have H:Hid (∀ W,Below w.heap.size w W→Calls Tryz.prog 117 #[mia ⟨5,u,t,A,n,c,lo,hi,nt,key⟩] W fun x w'=>x = .returned (.string s)∧Below W.heap.size W w'):=h
 clear h
 have HB0:Hid (Below w.heap.size w (w.alloc (.cells (mi1 ⟨5,u,t,A,n,c,lo,hi,nt,key⟩).toArray 58))):=(Below.refl _ w).alloc (Nat.le_refl _) _
 go_enter Tryz.func69,Tryz.ntmps69
 go_wp2_with fail
 refine (H.out _ HB0.out).mono ?_
 rintro x w1 ⟨rfl,hb⟩
 have H1:Hid (Below w.heap.size w w1):=HB0.out.trans (hb.mono (by simp))
 clear hb
 go_wp2
 go_ret
 exact ⟨rfl,H1.out⟩
set_option maxHeartbeats 2000000 in
theorem itemText_else (k u:Int) (t:ByteArray) (A:Option Addr) (n c:Nat) (lo hi:Int) (nt:Bool) (key:Int) (w:World) (hk:k=7) (h0 : -9223372036854775808≤key) (h1:key≤9223372036854775807) (hT:∀ o o2,PowT ((w.alloc o).alloc o2)):Calls Tryz.prog 69 #[mia ⟨k,u,t,A,n,c,lo,hi,nt,key⟩] w (ItX w (copyS key)):=by
 subst hk
 have H:Hid (∀ o,Calls Tryz.prog 118 #[mia ⟨7,u,t,A,n,c,lo,hi,nt,key⟩] (w.alloc o) fun x w'=>x = .returned (.string (copyS key))∧Grown (w.alloc o) w'):=fun o=>copyText_any ⟨7,u,t,A,n,c,lo,hi,nt,key⟩ h0 h1 (w.alloc o) (hT o)
 clear hT h0 h1
 have HB0:Hid (Below w.heap.size w (w.alloc (.cells (mi1 ⟨7,u,t,A,n,c,lo,hi,nt,key⟩).toArray 58))):=(Below.refl _ w).alloc (Nat.le_refl _) _
 go_enter Tryz.func69,Tryz.ntmps69
 go_wp2_with fail
 refine (H.out _).mono ?_
 rintro x w1 ⟨rfl,hg⟩
 have H1:Hid (Below w.heap.size w w1):=HB0.out.trans (hg.below.mono (by simp))
 clear hg
 go_wp2
 go_ret
 exact ⟨rfl,H1.out⟩
end Go.Proofs
namespace Go.Proofs
open Go.RowKit Go.Shelf
set_option maxRecDepth 100000
attribute [local go_sem] Oper.semAt_some
theorem Hid.mk2 {p:Prop} (h:p):Hid p:=h
def InvX (w:World) (m:MI) (W:World):Prop:=IB W w.heap.size m∧Below w.heap.size w W∧TabB W
theorem InvX.drew {w:World} {m:MI} {W:World} (h:InvX w m W):InvX w m W.drew:=⟨h.1,h.2.1.drew,h.2.2⟩
theorem InvX.below {w:World} {m:MI} {W W':World} (h:InvX w m W) (hb:Below W.heap.size W W') (h8:8<W.heap.size):InvX w m W':=⟨h.1.same (hb.block _ h.1.lt),h.2.1.trans (hb.mono h.2.1.size),(hb.cell (p:=⟨8,15,none⟩) h8).trans h.2.2⟩
set_option maxHeartbeats 4000000 in
theorem itemText_6 (u:Int) (t:ByteArray) (A:Option Addr) (n c:Nat) (lo hi:Int) (nt:Bool) (key:Int) (w:World) (hT:TabB w) (h8:8<w.heap.size) (hlo:(unitS lo).size≤100) (hhi:(unitS hi).size≤100):Calls Tryz.prog 69 #[mia ⟨6,u,t,A,n,c,lo,hi,nt,key⟩] w (ItX w (unitS lo++⟨#[45]⟩++unitS hi)):=by
 have hb0:Below w.heap.size w (w.alloc (.cells (mi1 ⟨6,u,t,A,n,c,lo,hi,nt,key⟩).toArray 58)):=(Below.refl _ w).alloc (Nat.le_refl _) _
 have HI0:Hid (InvX w ⟨6,u,t,A,n,c,lo,hi,nt,key⟩ (w.alloc (.cells (mi1 ⟨6,u,t,A,n,c,lo,hi,nt,key⟩).toArray 58))):=⟨World.alloc_heap_new _ _,hb0,(hb0.cell (p:=⟨8,15,none⟩) h8).trans hT⟩
 have hs:signB 20=⟨#[45]⟩:=by decide +kernel
 have H68:Hid (∀ W,Calls Tryz.prog 68 #[.int .i64 20] W fun e w'=>e = .returned (.string ⟨#[45]⟩)∧w'=W):=fun W=>by rw [←hs];exact signK_any 20 W
 have H116:Hid (∀ (v:Int) W,InvX w ⟨6,u,t,A,n,c,lo,hi,nt,key⟩ W→Calls Tryz.prog 116 #[.int .i64 v] W fun x w'=>x = .returned (.string (unitS v))∧InvX w ⟨6,u,t,A,n,c,lo,hi,nt,key⟩ w'):=fun v W hW=>by
  refine (unitText_any v W hW.2.2).mono ?_
  rintro x w' ⟨rfl,hb⟩
  exact ⟨rfl,hW.below hb (by have:=hW.2.1.size;omega)⟩
 obtain ⟨L,hL⟩:∃ L,unitS lo=L:=⟨_,rfl⟩
 obtain ⟨U,hU⟩:∃ U,unitS hi=U:=⟨_,rfl⟩
 have HL:Hid (∀ W,InvX w ⟨6,u,t,A,n,c,lo,hi,nt,key⟩ W→Calls Tryz.prog 116 #[.int .i64 lo] W fun x w'=>x = .returned (.string L)∧InvX w ⟨6,u,t,A,n,c,lo,hi,nt,key⟩ w'):=fun W hW=>by rw [←hL];exact H116.out lo W hW
 have HU:Hid (∀ W,InvX w ⟨6,u,t,A,n,c,lo,hi,nt,key⟩ W→Calls Tryz.prog 116 #[.int .i64 hi] W fun x w'=>x = .returned (.string U)∧InvX w ⟨6,u,t,A,n,c,lo,hi,nt,key⟩ w'):=fun W hW=>by rw [←hU];exact H116.out hi W hW
 rw [hL] at hlo ⊢
 rw [hU] at hhi ⊢
 have hx1:(L++⟨#[45]⟩:ByteArray).size=L.size+1:=by rw [ByteArray.size_append];rfl
 have hx2:(L++⟨#[45]⟩++U:ByteArray).size=L.size+1+U.size:=by rw [ByteArray.size_append,hx1]
 clear H116 hL hU hT hs hb0 h8
 go_enter Tryz.func69,Tryz.ntmps69
 go_wp2_with fail
 have hc0:=HI0.out.1.cells
 have e4:=hc0.2.2.2.2.1
 have e5:=hc0.2.2.2.2.2.1
 clear hc0
 go_region_with (first
  | (go_at_call_of 116 (Value.int IntKind.i64 lo);refine (HL.out _ ?_).mono ?_;(first | exact HI0.out | exact HI0.out.drew);rintro x w1 ⟨rfl,hv1⟩;have HV1:=Hid.mk2 hv1;have p4:=hv1.1.cells.2.2.2.2.1;have p5:=hv1.1.cells.2.2.2.2.2.1;clear hv1)
  | (go_at_call 68;refine (H68.out _).mono ?_;rintro x w2 ⟨rfl,rfl⟩)
  | (go_at_call_of 116 (Value.int IntKind.i64 hi);refine (HU.out _ ?_).mono ?_;(first | exact HV1.out | exact HV1.out.drew);rintro x w3 ⟨rfl,hv3⟩;have HV3:=Hid.mk2 hv3;clear hv3))
 all_goals go_wp2
 all_goals go_ret
 all_goals exact ⟨rfl,HV3.out.2.1⟩
end Go.Proofs
