/-
  Several texts in one (X0k X1k X2k X3k Grk).
-/
import Derived.Test.YtknaoahokopplaaGreatDoorMhck
import Derived.Test.YtknaoahokopplaaGreatDoorMgak
import Derived.Deep.RegionWith
import Derived.Orders
import Derived.RegionTactic
import Derived.Below
import Derived.Great.BuildSlice
namespace Go.Proofs
open Go.RowKit Go.Shelf
set_option maxRecDepth 100000
attribute [local go_sem] Oper.semAt_some
def OwnX (w:World) (b:Nat) (v:Value) (xs:List ByteArray):Prop:=w.ownsRow b 9 1 v xs.length (xs.map Value.string)
theorem OwnX.nil (w:World) (b:Nat):OwnX w b (.slice none 0 0) []:=World.ownsRow_nil _ _ _ _
theorem OwnX.form {w:World} {b:Nat} {v:Value} {xs:List ByteArray} (h:OwnX w b v xs):∃ A c,v = .slice A xs.length c:=by
 rcases h.2 with ⟨e,h0⟩ | ⟨g,cap,cur,e,_⟩
 · subst e;exact ⟨none,0,by rw [h0]⟩
 · exact ⟨_,_,e⟩
theorem OwnX.step {w w':World} {b:Nat} {v:Value} {xs:List ByteArray} (h:OwnX w b v xs) (hw:∀ k,k<w.heap.size→b≤k→w'.heap[k]? = w.heap[k]?):OwnX w' b v xs:=by
 refine ⟨h.1,h.2.imp id ?_⟩
 rintro ⟨g,cap,cur,rfl,k1,k2,k3⟩
 exact ⟨g,cap,cur,rfl,k1,(hw g (Array.getElem?_eq_some_iff.1 k2).1 k1).trans k2,k3⟩
theorem OwnX.lt {w:World} {b:Nat} {v:Value} {xs:List ByteArray} (h:OwnX w b v xs):∀ g,v.ownBlock=some g→b≤g∧g<w.heap.size:=fun g e=>World.ownsRow.lt h g e
theorem info9x:(Tryz.prog.info? 9).map (fun i=>(i.zero,i.size,i.bytes))=some (some (.string ⟨#[]⟩),1,16):=by kernel_rfl
theorem push_X {ops:Array Oper} {rest:List Oper} {o:Oper} {a:Act} {Q:Exit→Act→World→Prop} {w:World} (hgd:o.guard=none) (s x:Operand)
 (ho:o.op = .call { callee := .builtin .append,args:=#[s,x],argTypes:=#[77,77] })
 (b:Nat) (v:Value) (xs:List ByteArray) (hs:a.eval s=v) (hown:OwnX w b v xs) (g c:Nat) (t:ByteArray) (hx:a.eval x = .slice (some ⟨g,0,none⟩) 1 c)
 (hy:w.heap[g]? = some (.cells #[.string t] 9 (0,0))) (hl:xs.length+1≤1000000) (hbase:b≤w.heap.size)
 (h:∀ A c' w',OwnX w' b (.slice A (xs.length+1) c') (xs++[t])→w.grownBy w' v.ownBlock→wpList Tryz.prog ops Q rest (a.put o.dst (.slice A (xs.length+1) c')) w'):wpList Tryz.prog ops Q (o::rest) a w:=by
 obtain ⟨i0,hi,hz0,hz1,hz2⟩:=info_parts info9x
 refine wpList_append_own w hgd s x 77 ho b 9 i0 _ 1 16 Tryz.underlying77 hi hz0 hz1 hz2 rfl (by decide) v xs.length (xs.map Value.string) hs hown ⟨g,0,none⟩ 1 c [.string t] hx rfl ?_ (fun u hu=>by rw [List.mem_singleton] at hu;subst hu;rfl) (by unfold maxLen;omega) (by omega) hbase (fun v' w' k2 k3 _ => ?_)
 · intro j u hj
   rw [add_zero_at']
   simp only [World.cell?,hy]
   simpa using hj
 · have hf:∃ A c',v' = .slice A (xs.length+1) c':=by
    rcases k2.2 with ⟨e,h0⟩ | ⟨g,cap,cur,e,_⟩
    · omega
    · exact ⟨_,_,e⟩
   obtain ⟨A,c',rfl⟩:=hf
   refine h A c' w' ?_ k3
   unfold OwnX
   rw [List.length_append,List.map_append]
   exact k2
set_option maxHeartbeats 4000000 in
theorem itemTexts_step (f:It→ByteArray) (w:World) (A:Option Addr) (n c:Nat) (ms:List MI) (l:List It) (hR:RdR w A n ms) (hl:ms.length=l.length) (hn5:n≤100000)
 (hI:∀ (j:Nat) (m:MI) (i:It),ms[j]? = some m→l[j]? = some i→∀ W,Below w.heap.size w W→Calls Tryz.prog 69 #[mia m] W fun x w'=>x = .returned (.string (f i))∧Below W.heap.size W w') :
 Calls Tryz.prog 119 #[.slice A n c] w fun x w'=>∃ v,x = .returned v∧OwnX w' w.heap.size v (l.map f)∧Below w.heap.size w w':=by
 obtain ⟨hn,hnm,hr⟩:=hR
 have HI:Hid (∀ (j:Nat) (m:MI) (i:It),ms[j]? = some m→l[j]? = some i→∀ W,Below w.heap.size w W→Calls Tryz.prog 69 #[mia m] W fun x w'=>x = .returned (.string (f i))∧Below W.heap.size W w'):=hI
 have HL:Hid (n=l.length∧n=ms.length∧(n=0∨∃ g z,A=some ⟨g,z,none⟩∧ReadsI w g z ms)):=⟨by omega,hn,hr⟩
 clear hI hr hn hl
 go_enter Tryz.func119,Tryz.ntmps119
 go_wp2_with fail
 go_loopw [3,8] (fun v3 v8 wr=>∃ j:Nat,v8 = .int .i64 j∧j≤n∧Hid (Below w.heap.size w wr∧OwnX wr w.heap.size v3 ((l.take j).map f))) (fun _ v8 _=>n - (intOf v8).toNat)
 case atStart=>exact ⟨0,rfl,by omega,Below.refl _ _,OwnX.nil _ _⟩
 case round=>
  obtain ⟨j,rfl,hj,HG⟩:=hrel
  obtain ⟨wo,rfl⟩:∃ wo,wo=wr:=⟨_,rfl⟩
  by_cases hjn:j<n
  · have e1:decide ((j:Int)<(n:Int))=true:=by simpa using hjn
    obtain ⟨m,hm⟩:∃ m,ms[j]? = some m:=⟨ms[j]'(by have:=HL.out.2.1;omega),List.getElem?_eq_getElem _⟩
    obtain ⟨i,hi⟩:∃ i,l[j]? = some i:=⟨l[j]'(by have:=HL.out.1;omega),List.getElem?_eq_getElem _⟩
    obtain ⟨g,z,hA,hr⟩:=HL.out.2.2.resolve_left (by omega)
    subst hA
    obtain ⟨X,hX⟩:∃ X,(l.take j).map f=X:=⟨_,rfl⟩
    have HX:Hid ((l.take (j+1)).map f=X++[f i]∧X.length=j):=by
     have hjl:j<l.length:=by have:=HL.out.1;omega
     refine ⟨?_,by rw [←hX];simp;omega⟩
     rw [List.take_succ_eq_append_getElem hjl,List.map_append,hX]
     have:=hi
     rw [List.getElem?_eq_getElem hjl] at this
     rw [Option.some.inj this]
     rfl
    rw [hX] at HG
    clear hX
    obtain ⟨A3,c3',hv3⟩:=HG.out.2.form
    subst hv3
    have ck:=ck_below HG.out.1
    obtain ⟨c0,c1,c2,c3,c4,c5,c6,c7⟩:=hr.cells hm
    have k0:=ck _ _ c0
    have k1:=ck _ _ c1
    have k2:=ck _ _ c2
    have k3:=ck _ _ c3
    have k4:=ck _ _ c4
    have k5:=ck _ _ c5
    have k6:=ck _ _ c6
    have k7:=ck _ _ c7
    have HM:Hid (ms[j]? = some m∧l[j]? = some i):=⟨hm,hi⟩
    clear c0 c1 c2 c3 c4 c5 c6 c7 hm hi hr ck
    have hzo:=HG.out.1.size
    go_wp2_with fail
    refine (HI.out j m i HM.out.1 HM.out.2 _ (HG.out.1.alloc hzo _)).mono ?_
    rintro x w4 ⟨rfl,hb4⟩
    have H4:Hid (Below w.heap.size w w4∧OwnX w4 w.heap.size (.slice A3 X.length c3') X):=⟨(HG.out.1.alloc hzo _).trans (hb4.mono (by simp;omega)),HG.out.2.step (fun k h1 _=>(hb4.block k (by simp;omega)).trans (Below.heap_alloc _ _ _ h1))⟩
    have hz4:=H4.out.1.size
    clear hb4 k0 k1 k2 k3 k4 k5 k6 k7 HG
    go_wp2_with (first | (at_builtin;go_must (refine push_X rfl _ _ rfl w.heap.size _ X rfl (H4.out.2.step (fun k h1 _=>Below.heap_alloc _ _ _ h1)) w4.heap.size 1 (f i) rfl (World.alloc_heap_new _ _) (by have:=HX.out.2;omega) (by simp;omega) ?_);intro A8 c8 w8 hO8 hg8) | fail)
    have hlo:=H4.out.2.lt
    have H8:Hid (Below w.heap.size w w8∧OwnX w8 w.heap.size (.slice A8 (X.length+1) c8) ((l.take (j+1)).map f)):=⟨(H4.out.1.alloc hz4 _).grown hg8 (by simp;omega) (fun k hk=>(hlo k hk).1),by rw [HX.out.1];exact hO8⟩
    clear hO8 hg8 hlo
    go_wp2
    exact ⟨⟨j+1,by go_num,by omega,H8⟩,by simp [intOf];omega⟩
  · have e1:decide ((j:Int)<(n:Int))=false:=by simpa using hjn
    have HF:Hid (OwnX wo w.heap.size u3 (l.map f)):=by
     have h0:=HG.out.2
     rw [List.take_of_length_le (by have:=HL.out.1;omega)] at h0
     exact h0
    go_wp2
    go_ret
    exact ⟨_,rfl,HF.out,HG.out.1⟩
end Go.Proofs
namespace Go.Proofs
open Go.RowKit Go.Shelf
set_option maxRecDepth 100000
attribute [local go_sem] Oper.semAt_some
def jnB (xs:List ByteArray):ByteArray:=⟨(Lib.join (xs.map (·.data.toList)) [32]).toArray⟩
theorem join_any (w:World) (b:Nat) (v:Value) (xs:List ByteArray) (h:OwnX w b v xs) (hn:xs.length≤1000000) (hl:(jnB xs).size≤140737488355328):Calls Tryz.prog 37 #[v,.string ⟨#[32]⟩] w fun e w'=>e = .returned (.string (jnB xs))∧Below w.heap.size w w':=by
 rcases h.2 with ⟨e,h0⟩ | ⟨g,cap,cur,e,k1,k2,k3,k4,k5,k6⟩
 · have hx:xs=[]:=List.eq_nil_of_length_eq_zero h0
   subst hx
   subst e
   refine (Any.strings_Join_none Tryz.lays156 Tryz.Builder_Extra_156 none 0 ⟨#[32]⟩ w).mono ?_
   rintro x w' ⟨rfl,rfl⟩
   exact ⟨rfl,Below.refl _ _⟩
 · subst e
   refine Tryz.strings_Join g 0 cap xs ⟨#[32]⟩ w ?_ (Array.getElem?_eq_some_iff.1 k2).1 (by omega) k3 ?_
   · intro j x hj
     have hj2:(xs.map Value.string)[j]? = some (.string x):=by rw [List.getElem?_map,hj];rfl
     rw [←k6,List.getElem?_take] at hj2
     split at hj2
     · simp only [World.cell?,k2,Nat.zero_add]
       simpa using hj2
     · cases hj2
   · have:(jnB xs).size=(Lib.join (xs.map (·.data.toList)) [32]).length:=by
      show (Lib.join (xs.map (·.data.toList)) [32]).toArray.size=_
      simp
     rw [←this]
     exact hl
def setS (nt:Bool) (xs:List ByteArray):ByteArray:=(if nt then ⟨#[91]⟩++⟨#[94]⟩ else ⟨#[91]⟩)++jnB xs++⟨#[93]⟩
set_option maxHeartbeats 4000000 in
theorem setText_step (m:MI) (xs:List ByteArray) (w:World) (hn:xs.length≤1000000) (hl:(jnB xs).size≤1000000000)
 (hI:∀ W,Below w.heap.size w W→Calls Tryz.prog 119 #[.slice m.A m.n m.c] W fun x w'=>∃ v,x = .returned v∧OwnX w' W.heap.size v xs∧Below W.heap.size W w') :
 Calls Tryz.prog 117 #[mia m] w fun x w'=>x = .returned (.string (setS m.nt xs))∧Below w.heap.size w w':=by
 have HI:Hid (∀ W,Below w.heap.size w W→Calls Tryz.prog 119 #[.slice m.A m.n m.c] W fun x w'=>∃ v,x = .returned v∧OwnX w' W.heap.size v xs∧Below W.heap.size W w'):=hI
 have HB0:Hid (Below w.heap.size w (w.alloc (.cells (mi1 m).toArray 58))):=(Below.refl _ w).alloc (Nat.le_refl _) _
 obtain ⟨J,hJ⟩:∃ J,jnB xs=J:=⟨_,rfl⟩
 obtain ⟨p,hp⟩:∃ p:ByteArray,(if m.nt then (⟨#[91]⟩:ByteArray)++⟨#[94]⟩ else ⟨#[91]⟩)=p:=⟨_,rfl⟩
 have HS:Hid (setS m.nt xs=p++J++⟨#[93]⟩∧jnB xs=J∧xs.length≤1000000∧(jnB xs).size≤140737488355328):=⟨by unfold setS;rw [hp,hJ],hJ,hn,by omega⟩
 have hJz:J.size≤1000000000:=by rw [←hJ];exact hl
 have HP:Hid ((if m.nt then (⟨#[91]⟩:ByteArray)++⟨#[94]⟩ else ⟨#[91]⟩)=p):=hp
 have hpz:p.size≤2:=by
  rw [←hp]
  split
  · decide
  · decide
 have hx1:(p++J).size=p.size+J.size:=ByteArray.size_append
 have hx2:(p++J++⟨#[93]⟩).size=p.size+J.size+1:=by rw [ByteArray.size_append,hx1];rfl
 have hs18:signB 18=⟨#[91]⟩:=by decide +kernel
 have hs15:signB 15=⟨#[94]⟩:=by decide +kernel
 have hs19:signB 19=⟨#[93]⟩:=by decide +kernel
 have H68:Hid (∀ W,(Calls Tryz.prog 68 #[.int .i64 18] W fun e w'=>e = .returned (.string ⟨#[91]⟩)∧w'=W)∧(Calls Tryz.prog 68 #[.int .i64 15] W fun e w'=>e = .returned (.string ⟨#[94]⟩)∧w'=W)∧(Calls Tryz.prog 68 #[.int .i64 19] W fun e w'=>e = .returned (.string ⟨#[93]⟩)∧w'=W)):=fun W=>⟨by rw [←hs18];exact signK_any 18 W,by rw [←hs15];exact signK_any 15 W,by rw [←hs19];exact signK_any 19 W⟩
 clear hI hJ hp hn hl hs18 hs15 hs19
 obtain ⟨k,u,t,A,n,c,lo,hi,nt,key⟩:=m
 cases nt with
 | false=>
  have hp1:(⟨#[91]⟩:ByteArray)=p:=HP.out
  go_enter Tryz.func117,Tryz.ntmps117
  go_wp2_with fail
  refine (H68.out _).1.mono ?_
  rintro x w1 ⟨rfl,rfl⟩
  rw [hp1]
  clear hp1
  go_wp2_with fail
  refine (HI.out _ HB0.out).mono ?_
  rintro x w2 ⟨v,rfl,hO,hb2⟩
  have H2:Hid (Below w.heap.size w w2∧∃ b,OwnX w2 b v xs):=⟨HB0.out.trans (hb2.mono (by simp)),_,hO⟩
  clear hO hb2
  go_wp2_with fail
  obtain ⟨b,hO⟩:=H2.out.2
  refine (join_any _ b v xs hO HS.out.2.2.1 HS.out.2.2.2).mono ?_
  rintro x w3 ⟨rfl,hb3⟩
  rw [HS.out.2.1]
  have H3:Hid (Below w.heap.size w w3):=H2.out.1.trans (hb3.mono H2.out.1.size)
  clear hb3 hO
  go_wp2_with fail
  refine (H68.out _).2.2.mono ?_
  rintro x w4 ⟨rfl,rfl⟩
  go_wp2
  go_ret
  exact ⟨by rw [HS.out.1];rfl,H3.out⟩
 | true=>
  have hp1:(⟨#[91]⟩:ByteArray)++⟨#[94]⟩=p:=HP.out
  go_enter Tryz.func117,Tryz.ntmps117
  go_wp2_with fail
  refine (H68.out _).1.mono ?_
  rintro x w1 ⟨rfl,rfl⟩
  go_wp2_with fail
  refine (H68.out _).2.1.mono ?_
  rintro x w1 ⟨rfl,rfl⟩
  go_wp2_with fail
  refine (HI.out _ HB0.out).mono ?_
  rintro x w2 ⟨v,rfl,hO,hb2⟩
  have H2:Hid (Below w.heap.size w w2∧∃ b,OwnX w2 b v xs):=⟨HB0.out.trans (hb2.mono (by simp)),_,hO⟩
  clear hO hb2
  go_wp2_with fail
  obtain ⟨b,hO⟩:=H2.out.2
  refine (join_any _ b v xs hO HS.out.2.2.1 HS.out.2.2.2).mono ?_
  rintro x w3 ⟨rfl,hb3⟩
  rw [HS.out.2.1]
  have H3:Hid (Below w.heap.size w w3):=H2.out.1.trans (hb3.mono H2.out.1.size)
  clear hb3 hO
  go_wp2_with fail
  refine (H68.out _).2.2.mono ?_
  rintro x w4 ⟨rfl,rfl⟩
  go_wp2
  go_ret
  exact ⟨by rw [HS.out.1];rfl,H3.out⟩
end Go.Proofs
namespace Go.Proofs
open Go.RowKit Go.Shelf
set_option maxRecDepth 100000
attribute [local go_sem] Oper.semAt_some
def ItX (w:World) (s:ByteArray) (x:Ending) (w':World):Prop:=x = .returned (.string s)∧Below w.heap.size w w'
set_option maxHeartbeats 2000000 in
theorem itemText_1 (u:Int) (t:ByteArray) (A:Option Addr) (n c:Nat) (lo hi:Int) (nt:Bool) (key:Int) (w:World) (hT:TabB (w.alloc (.cells (mi1 ⟨1,u,t,A,n,c,lo,hi,nt,key⟩).toArray 58))):Calls Tryz.prog 69 #[mia ⟨1,u,t,A,n,c,lo,hi,nt,key⟩] w (ItX w (unitS u)):=by
 have HT:Hid (TabB (w.alloc (.cells (mi1 ⟨1,u,t,A,n,c,lo,hi,nt,key⟩).toArray 58))):=hT
 clear hT
 have HB0:Hid (Below w.heap.size w (w.alloc (.cells (mi1 ⟨1,u,t,A,n,c,lo,hi,nt,key⟩).toArray 58))):=(Below.refl _ w).alloc (Nat.le_refl _) _
 go_enter Tryz.func69,Tryz.ntmps69
 go_wp2_with fail
 refine (unitText_any u _ HT.out).mono ?_
 rintro x w1 ⟨rfl,hb⟩
 have H1:Hid (Below w.heap.size w w1):=HB0.out.trans (hb.mono (by simp))
 clear hb
 go_wp2
 go_ret
 exact ⟨rfl,H1.out⟩
set_option maxHeartbeats 2000000 in
theorem itemText_2 (u:Int) (t:ByteArray) (A:Option Addr) (n c:Nat) (lo hi:Int) (nt:Bool) (key:Int) (w:World) (ht:t.size≤1000):Calls Tryz.prog 69 #[mia ⟨2,u,t,A,n,c,lo,hi,nt,key⟩] w (ItX w (⟨#[36]⟩++t)):=by
 have hx:((⟨#[36]⟩:ByteArray)++t).size=1+t.size:=by rw [ByteArray.size_append];rfl
 go_enter Tryz.func69,Tryz.ntmps69
 go_wp2
 go_ret
 exact ⟨rfl,(Below.refl _ w).alloc (Nat.le_refl _) _⟩
set_option maxHeartbeats 2000000 in
theorem itemText_3 (u:Int) (t:ByteArray) (A:Option Addr) (n c:Nat) (lo hi:Int) (nt:Bool) (key:Int) (w:World) (ht:t.size≤1000):Calls Tryz.prog 69 #[mia ⟨3,u,t,A,n,c,lo,hi,nt,key⟩] w (ItX w (⟨#[91,58]⟩++t++⟨#[58,93]⟩)):=by
 have hx:((⟨#[91,58]⟩:ByteArray)++t).size=2+t.size:=by rw [ByteArray.size_append];rfl
 have hx2:((⟨#[91,58]⟩:ByteArray)++t++⟨#[58,93]⟩).size=2+t.size+2:=by rw [ByteArray.size_append,hx];rfl
 go_enter Tryz.func69,Tryz.ntmps69
 go_wp2
 go_ret
 exact ⟨rfl,(Below.refl _ w).alloc (Nat.le_refl _) _⟩
set_option maxHeartbeats 2000000 in
theorem itemText_4 (u:Int) (t:ByteArray) (A:Option Addr) (n c:Nat) (lo hi:Int) (nt:Bool) (key:Int) (w:World):Calls Tryz.prog 69 #[mia ⟨4,u,t,A,n,c,lo,hi,nt,key⟩] w (ItX w ⟨#[46]⟩):=by
 have hs:signB 17=⟨#[46]⟩:=by decide +kernel
 have H68:Hid (∀ W,Calls Tryz.prog 68 #[.int .i64 17] W fun e w'=>e = .returned (.string ⟨#[46]⟩)∧w'=W):=fun W=>by rw [←hs];exact signK_any 17 W
 clear hs
 go_enter Tryz.func69,Tryz.ntmps69
 go_wp2_with fail
 refine (H68.out _).mono ?_
 rintro x w1 ⟨rfl,rfl⟩
 go_wp2
 go_ret
 exact ⟨rfl,(Below.refl _ w).alloc (Nat.le_refl _) _⟩
set_option maxHeartbeats 2000000 in
theorem itemText_5 (u:Int) (t:ByteArray) (A:Option Addr) (n c:Nat) (lo hi:Int) (nt:Bool) (key:Int) (w:World) (s:ByteArray) (h:∀ W,Below w.heap.size w W→Calls Tryz.prog 117 #[mia ⟨5,u,t,A,n,c,lo,hi,nt,key⟩] W fun x w'=>x = .returned (.string s)∧Below W.heap.size W w'):Calls Tryz.prog 69 #[mia ⟨5,u,t,A,n,c,lo,hi,nt,key⟩] w (ItX w s):=by
 have H:Hid (∀ W,Below w.heap.size w W→Calls Tryz.prog 117 #[mia ⟨5,u,t,A,n,c,lo,hi,nt,key⟩] W fun x w'=>x = .returned (.string s)∧Below W.heap.size W w'):=h
 clear h
 have HB0:Hid (Below w.heap.size w (w.alloc (.cells (mi1 ⟨5,u,t,A,n,c,lo,hi,nt,key⟩).toArray 58))):=(Below.refl _ w).alloc (Nat.le_refl _) _
 go_enter Tryz.func69,Tryz.ntmps69
 go_wp2_with fail
 refine (H.out _ HB0.out).mono ?_
 rintro x w1 ⟨rfl,hb⟩
 have H1:Hid (Below w.heap.size w w1):=HB0.out.trans (hb.mono (by simp))
 clear hb
 go_wp2
 go_ret
 exact ⟨rfl,H1.out⟩
set_option maxHeartbeats 2000000 in
theorem itemText_else (k u:Int) (t:ByteArray) (A:Option Addr) (n c:Nat) (lo hi:Int) (nt:Bool) (key:Int) (w:World) (hk:k=7) (h0 : -9223372036854775808≤key) (h1:key≤9223372036854775807) (hT:∀ o o2,PowT ((w.alloc o).alloc o2)):Calls Tryz.prog 69 #[mia ⟨k,u,t,A,n,c,lo,hi,nt,key⟩] w (ItX w (copyS key)):=by
 subst hk
 have H:Hid (∀ o,Calls Tryz.prog 118 #[mia ⟨7,u,t,A,n,c,lo,hi,nt,key⟩] (w.alloc o) fun x w'=>x = .returned (.string (copyS key))∧Grown (w.alloc o) w'):=fun o=>copyText_any ⟨7,u,t,A,n,c,lo,hi,nt,key⟩ h0 h1 (w.alloc o) (hT o)
 clear hT h0 h1
 have HB0:Hid (Below w.heap.size w (w.alloc (.cells (mi1 ⟨7,u,t,A,n,c,lo,hi,nt,key⟩).toArray 58))):=(Below.refl _ w).alloc (Nat.le_refl _) _
 go_enter Tryz.func69,Tryz.ntmps69
 go_wp2_with fail
 refine (H.out _).mono ?_
 rintro x w1 ⟨rfl,hg⟩
 have H1:Hid (Below w.heap.size w w1):=HB0.out.trans (hg.below.mono (by simp))
 clear hg
 go_wp2
 go_ret
 exact ⟨rfl,H1.out⟩
end Go.Proofs
namespace Go.Proofs
open Go.RowKit Go.Shelf
set_option maxRecDepth 100000
attribute [local go_sem] Oper.semAt_some
theorem Hid.mk2 {p:Prop} (h:p):Hid p:=h
def InvX (w:World) (m:MI) (W:World):Prop:=IB W w.heap.size m∧Below w.heap.size w W∧TabB W
theorem InvX.drew {w:World} {m:MI} {W:World} (h:InvX w m W):InvX w m W.drew:=⟨h.1,h.2.1.drew,h.2.2⟩
theorem InvX.below {w:World} {m:MI} {W W':World} (h:InvX w m W) (hb:Below W.heap.size W W') (h8:8<W.heap.size):InvX w m W':=⟨h.1.same (hb.block _ h.1.lt),h.2.1.trans (hb.mono h.2.1.size),(hb.cell (p:=⟨8,15,none⟩) h8).trans h.2.2⟩
set_option maxHeartbeats 4000000 in
theorem itemText_6 (u:Int) (t:ByteArray) (A:Option Addr) (n c:Nat) (lo hi:Int) (nt:Bool) (key:Int) (w:World) (hT:TabB w) (h8:8<w.heap.size) (hlo:(unitS lo).size≤100) (hhi:(unitS hi).size≤100):Calls Tryz.prog 69 #[mia ⟨6,u,t,A,n,c,lo,hi,nt,key⟩] w (ItX w (unitS lo++⟨#[45]⟩++unitS hi)):=by
 have hb0:Below w.heap.size w (w.alloc (.cells (mi1 ⟨6,u,t,A,n,c,lo,hi,nt,key⟩).toArray 58)):=(Below.refl _ w).alloc (Nat.le_refl _) _
 have HI0:Hid (InvX w ⟨6,u,t,A,n,c,lo,hi,nt,key⟩ (w.alloc (.cells (mi1 ⟨6,u,t,A,n,c,lo,hi,nt,key⟩).toArray 58))):=⟨World.alloc_heap_new _ _,hb0,(hb0.cell (p:=⟨8,15,none⟩) h8).trans hT⟩
 have hs:signB 20=⟨#[45]⟩:=by decide +kernel
 have H68:Hid (∀ W,Calls Tryz.prog 68 #[.int .i64 20] W fun e w'=>e = .returned (.string ⟨#[45]⟩)∧w'=W):=fun W=>by rw [←hs];exact signK_any 20 W
 have H116:Hid (∀ (v:Int) W,InvX w ⟨6,u,t,A,n,c,lo,hi,nt,key⟩ W→Calls Tryz.prog 116 #[.int .i64 v] W fun x w'=>x = .returned (.string (unitS v))∧InvX w ⟨6,u,t,A,n,c,lo,hi,nt,key⟩ w'):=fun v W hW=>by
  refine (unitText_any v W hW.2.2).mono ?_
  rintro x w' ⟨rfl,hb⟩
  exact ⟨rfl,hW.below hb (by have:=hW.2.1.size;omega)⟩
 obtain ⟨L,hL⟩:∃ L,unitS lo=L:=⟨_,rfl⟩
 obtain ⟨U,hU⟩:∃ U,unitS hi=U:=⟨_,rfl⟩
 have HL:Hid (∀ W,InvX w ⟨6,u,t,A,n,c,lo,hi,nt,key⟩ W→Calls Tryz.prog 116 #[.int .i64 lo] W fun x w'=>x = .returned (.string L)∧InvX w ⟨6,u,t,A,n,c,lo,hi,nt,key⟩ w'):=fun W hW=>by rw [←hL];exact H116.out lo W hW
 have HU:Hid (∀ W,InvX w ⟨6,u,t,A,n,c,lo,hi,nt,key⟩ W→Calls Tryz.prog 116 #[.int .i64 hi] W fun x w'=>x = .returned (.string U)∧InvX w ⟨6,u,t,A,n,c,lo,hi,nt,key⟩ w'):=fun W hW=>by rw [←hU];exact H116.out hi W hW
 rw [hL] at hlo ⊢
 rw [hU] at hhi ⊢
 have hx1:(L++⟨#[45]⟩:ByteArray).size=L.size+1:=by rw [ByteArray.size_append];rfl
 have hx2:(L++⟨#[45]⟩++U:ByteArray).size=L.size+1+U.size:=by rw [ByteArray.size_append,hx1]
 clear H116 hL hU hT hs hb0 h8
 go_enter Tryz.func69,Tryz.ntmps69
 go_wp2_with fail
 have hc0:=HI0.out.1.cells
 have e4:=hc0.2.2.2.2.1
 have e5:=hc0.2.2.2.2.2.1
 clear hc0
 go_region_with (first
  | (go_at_call_of 116 (Value.int IntKind.i64 lo);refine (HL.out _ ?_).mono ?_;(first | exact HI0.out | exact HI0.out.drew);rintro x w1 ⟨rfl,hv1⟩;have HV1:=Hid.mk2 hv1;have p4:=hv1.1.cells.2.2.2.2.1;have p5:=hv1.1.cells.2.2.2.2.2.1;clear hv1)
  | (go_at_call 68;refine (H68.out _).mono ?_;rintro x w2 ⟨rfl,rfl⟩)
  | (go_at_call_of 116 (Value.int IntKind.i64 hi);refine (HU.out _ ?_).mono ?_;(first | exact HV1.out | exact HV1.out.drew);rintro x w3 ⟨rfl,hv3⟩;have HV3:=Hid.mk2 hv3;clear hv3))
 all_goals go_wp2
 all_goals go_ret
 all_goals exact ⟨rfl,HV3.out.2.1⟩
end Go.Proofs
namespace Go.Proofs
open Go.RowKit
abbrev Ext (w w':World):Prop:=Below w.heap.size w w'
theorem Ext.trans {a b c:World} (h:Ext a b) (k:Ext b c):Ext a c:=Below.trans h (Below.mono k h.size)
def put1 (ops:Array Oper) (vs:Nat→Value) (a:Act) (i:Nat):Act:=match ops[i]? with
 | some o=>a.put o.dst (vs i)
 | none=>a
def putL (vs:Nat→Value):List Oper→Nat→Act→Act
 | [],_,a=>a
 | o::l,k,a=>putL vs l (k+1) (a.put o.dst (vs k))
def Once (ops:Array Oper):Prop:=∀ (i j:Nat) (o p:Oper),ops[i]? = some o→ops[j]? = some p→i≠j→∀ d,o.dst=some d→p.dst≠some d
def onceB (ops:List Oper):Bool:=match ops with
 | []=>true
 | o::l=>(match o.dst with | none=>true | some d=>l.all fun p => !decide (p.dst=some d)) && onceB l
def Early (ops:Array Oper):Prop:=∀ (i:Nat) (o:Oper),ops[i]? = some o→∀ e∈o.after,Region.binds .any e=true→e.on<i
def earlyB (k:Nat) (ops:List Oper):Bool:=match ops with
 | []=>true
 | o::l=>(o.after.all fun e => !Region.binds .any e || decide (e.on<k)) && earlyB (k+1) l
theorem early_of {ops:List Oper} (h:earlyB 0 ops=true):Early ops.toArray:=by
 have key:∀ (l:List Oper) (k:Nat),earlyB k l=true→∀ (i:Nat) (o:Oper),l[i]? = some o→∀ e∈o.after,Region.binds .any e=true→e.on<k+i:=by
  intro l
  induction l with
  | nil=>intro k _ i o h;simp at h
  | cons x l ih=>
   intro k hk i o ho e he hb
   simp only [earlyB,Bool.and_eq_true,Array.all_eq_true_iff_forall_mem] at hk
   cases i with
   | zero=>
    simp at ho
    subst ho
    have:=hk.1 e he
    simp [hb] at this
    omega
   | succ i=>
    have:=ih (k+1) hk.2 i o (by simpa using ho) e he hb
    omega
 intro i o ho e he hb
 have:=key ops 0 h i o (by simpa using ho) e he hb
 omega
theorem once_of {ops:List Oper} (h:onceB ops=true):Once ops.toArray:=by
 have key:∀ (l:List Oper),onceB l=true→∀ (i j:Nat) (o p:Oper),l[i]? = some o→l[j]? = some p→i<j→∀ d,¬ (o.dst=some d∧p.dst=some d):=by
  intro l
  induction l with
  | nil=>intro _ i j o p h;simp at h
  | cons x l ih=>
   intro hk i j o p ho hp hij d ⟨h1,h2⟩
   simp only [onceB,Bool.and_eq_true] at hk
   cases j with
   | zero=>omega
   | succ j=>
    cases i with
    | zero=>
     simp at ho
     subst ho
     have h3:=hk.1
     rw [h1] at h3
     simp only [List.all_eq_true] at h3
     have:=h3 p (List.mem_of_getElem? (by simpa using hp))
     simp [h2] at this
    | succ i=>exact ih hk.2 i j o p (by simpa using ho) (by simpa using hp) (by omega) d ⟨h1,h2⟩
 intro i j o p ho hp hij d h1 h2
 rcases Nat.lt_or_gt_of_ne hij with h3 | h3
 · exact key ops h i j o p (by simpa using ho) (by simpa using hp) h3 d ⟨h1,h2⟩
 · exact key ops h j i p o (by simpa using hp) (by simpa using ho) h3 d ⟨h2,h1⟩
section
variable {ops:Array Oper} {vs:Nat→Value}
theorem put1_comm (hd:Once ops) (x y:Nat) (z:Act):put1 ops vs (put1 ops vs z x) y=put1 ops vs (put1 ops vs z y) x:=by
 by_cases h:x=y
 · subst h;rfl
 · unfold put1
   cases hx:ops[x]? with
   | none=>rfl
   | some o=>
    cases hy:ops[y]? with
    | none=>rfl
    | some p=>exact Act.put_comm z (vs x) (vs y) (fun d h1=>hd x y o p hx hy h d h1)
theorem put_size (a:Act) (d:Option Tmp) (v:Value):(a.put d v).tmps.size=a.tmps.size:=by
 cases d <;> simp [Act.put]
theorem fold_size (l:List Nat) (a:Act):(l.foldl (put1 ops vs) a).tmps.size=a.tmps.size:=by
 induction l generalizing a with
 | nil=>rfl
 | cons i l ih=>
  rw [List.foldl_cons,ih]
  unfold put1
  split
  · exact put_size _ _ _
  · rfl
theorem fold_get (hd:Once ops) {l:List Nat} {i:Nat} (hi:i∈l) {o:Oper} (ho:ops[i]? = some o) {d:Tmp} (hod:o.dst=some d) {a:Act} (hs:d<a.tmps.size):(l.foldl (put1 ops vs) a).tmps.getD d undef=vs i:=by
 have hp:l.Perm (l.erase i++[i]):=(List.perm_cons_erase hi).trans (List.perm_append_singleton i (l.erase i)).symm
 rw [hp.foldl_eq' (fun x _ y _ z=>put1_comm hd x y z),List.foldl_append]
 have hz:d<((l.erase i).foldl (put1 ops vs) a).tmps.size:=by rw [fold_size];exact hs
 show (put1 ops vs ((l.erase i).foldl (put1 ops vs) a) i).tmps.getD d undef=vs i
 generalize (l.erase i).foldl (put1 ops vs) a=z at hz
 simp [put1,ho,Act.put,hod,hz]
theorem fold_other {l:List Nat} {d:Tmp} (h:∀ (i:Nat) (o:Oper),ops[i]? = some o→o.dst≠some d) (a:Act):(l.foldl (put1 ops vs) a).tmps.getD d undef=a.tmps.getD d undef:=by
 induction l generalizing a with
 | nil=>rfl
 | cons i l ih=>
  rw [List.foldl_cons,ih]
  unfold put1
  split
  · rename_i o ho
    cases hd:o.dst with
    | none=>rfl
    | some e=>
     have hne:e≠d:=fun he=>h i o ho (by rw [hd,he])
     simp [Act.put,Array.getElem?_setIfInBounds_ne hne]
  · rfl
theorem fold_congr {us:Nat→Value} {l:List Nat} (h:∀ i∈l,us i=vs i) (a:Act):l.foldl (put1 ops us) a=l.foldl (put1 ops vs) a:=by
 induction l generalizing a with
 | nil=>rfl
 | cons i l ih=>
  rw [List.foldl_cons,List.foldl_cons]
  have:put1 ops us a i=put1 ops vs a i:=by unfold put1;rw [h i List.mem_cons_self]
  rw [this]
  exact ih (fun j hj=>h j (List.mem_cons_of_mem _ hj)) _
end
theorem fold_range (vs:Nat→Value) (ops:Array Oper):∀ (l:List Oper) (k:Nat) (a:Act),(∀ j,l[j]? = ops[k+j]?)→(List.range' k l.length).foldl (put1 ops vs) a=putL vs l k a
 | [],_,_,_=>rfl
 | o::l,k,a,h=>by
  have h0:ops[k]? = some o:=by simpa using (h 0).symm
  rw [List.length_cons,List.range'_succ,List.foldl_cons]
  show _=putL vs l (k+1) (a.put o.dst (vs k))
  rw [←fold_range vs ops l (k+1) (a.put o.dst (vs k)) (fun j=>by have:=h (j+1);rw [List.getElem?_cons_succ] at this;rw [this];congr 1;omega)]
  congr 1
  unfold put1
  rw [h0]
def putsL (vs:Nat→Value):List Oper→Nat→List Value→List Value
 | [],_,l=>l
 | o::os,k,l=>putsL vs os (k+1) (match o.dst with | some d=>l.set d (vs k) | none=>l)
theorem putL_eq (vs:Nat→Value):∀ (os:List Oper) (k:Nat) (l:List Value) (df:List Deferred),putL vs os k ⟨l.toArray,df⟩=⟨(putsL vs os k l).toArray,df⟩
 | [],_,_,_=>rfl
 | o::os,k,l,df=>by
  have e:(⟨l.toArray,df⟩:Act).put o.dst (vs k)=⟨(match o.dst with | some d=>l.set d (vs k) | none=>l).toArray,df⟩:=by
   cases hd:o.dst with
   | none=>rfl
   | some d=>simp [Act.put]
  show putL vs os (k+1) ((⟨l.toArray,df⟩:Act).put o.dst (vs k))=_
  rw [e]
  exact putL_eq vs os (k+1) _ df
end Go.Proofs
