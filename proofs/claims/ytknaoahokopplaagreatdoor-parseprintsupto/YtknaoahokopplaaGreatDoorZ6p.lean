/-
  What is written of lines, also of lines turned over by their owner, is what the document asks.
-/
import Derived.Test.YtknaoahokopplaaGreatDoorMgup
import Derived.Test.YtknaoahokopplaaGreatDoorZ5p
import Derived.Test.YtknaoahokopplaaGreatDoorU2p
import Derived.Test.YtknaoahokopplaaGreatDoorMgzp
import Derived.Test.YtknaoahokopplaaGreatDoorMhap
namespace Go.Proofs
open Go.RowKit Go.Shelf
set_option maxRecDepth 100000
attribute [local go_sem] Oper.semAt_some
theorem All2.reverse {α β:Type} {R:α→β→Prop} : ∀ {l:List α} {m:List β},All2 R l m→All2 R l.reverse m.reverse
 | [],[],_=>trivial
 | a::l,b::m,h=>by
  rw [List.reverse_cons,List.reverse_cons]
  exact (All2.reverse h.2).append ⟨h.1,trivial⟩
structure RvL (w2:World) (B n:Nat) (mr:List ML) (i:Nat) (v:Value) (wr:World):Prop where
 bl:Below w2.heap.size w2 wr
 own:BlkG ml1 10 44 wr w2.heap.size (n+1) (mr.take i)
 tr:∃ A c,v = .slice A i c∧wr.ownsRow B 44 10 (.slice A i c) i (fl10 (mr.take i))
 lt:w2.heap.size<B
 le:B≤wr.heap.size
theorem blkG_none {α:Type} {f:α→List Value} {s:Nat} {e:TypeId} {W:World} {g N:Nat} {xs:List α} (h:BlkG f s e W g N xs):BlkG f s e W g N []:=by
 obtain ⟨cur,h1,h2,_⟩:=h
 exact ⟨cur,h1,h2,rdG_nil _ _ _⟩
theorem take_moreM {l:List ML} {i:Nat} {x:ML} (h:l[i]? = some x):l.take (i+1)=l.take i++[x]:=by
 rw [List.take_add_one,h]
 rfl
theorem reads_own {w:World} {B n:Nat} {A:Option Addr} {c:Nat} {ms:List ML} (h:w.ownsRow B 44 10 (.slice A n c) n (fl10 ms)) (hn:ms.length=n):n=0∨∃ g z,A=some ⟨g,z,none⟩∧ReadsL w g z ms:=by
 by_cases h0:n=0
 · exact .inl h0
 · obtain ⟨g,cap,e,_,_⟩:=h.form (by omega)
   injection e with e1 e2 e3
   subst e1
   subst e3
   refine .inr ⟨g,0,rfl,fun j x hj i v hv => ?_⟩
   rw [Nat.zero_add]
   have hx:=fl10_at ms hj i v hv
   have hi:i<10:=by have:=(List.getElem?_eq_some_iff.1 hv).1;rw [ml1_len] at this;exact this
   have hjn:j<n:=by have:=(List.getElem?_eq_some_iff.1 hj).1;omega
   have hlt:j*10+i<n*10:=by
    have:(j+1)*10≤n*10:=Nat.mul_le_mul_right _ hjn
    omega
   rw [World.ownsRow.cellAt h _ hlt]
   exact hx
theorem push_RL {ops:Array Oper} {rest:List Oper} {o:Oper} {a:Act} {Q:Exit→Act→World→Prop} {w:World} (hgd:o.guard=none) (s x:Operand)
 (ho:o.op = .call { callee := .builtin .append,args:=#[s,x],argTypes:=#[29,29] })
 (b:Nat) (v:Value) (n:Nat) (ms:List ML) (hs:a.eval s=v) (hown:w.ownsRow b 44 10 v n (fl10 ms)) (hn:ms.length=n) (g c:Nat) (m:ML) (hx:a.eval x = .slice (some ⟨g,0,none⟩) 1 c)
 (hy:w.heap[g]? = some (.cells (ml1 m).toArray 44 (0,0))) (hl:n+1≤1000000) (hbase:b≤w.heap.size)
 (h:∀ A c' w',w'.ownsRow b 44 10 (.slice A (n+1) c') (n+1) (fl10 (ms++[m]))→w.grownBy w' v.ownBlock→wpList Tryz.prog ops Q rest (a.put o.dst (.slice A (n+1) c')) w'):wpList Tryz.prog ops Q (o::rest) a w:=by
 obtain ⟨i0,hi,hz0,hz1,hz2⟩:=info_parts info39
 refine wpList_append_own w hgd s x 29 ho b 44 i0 _ 10 144 Tryz.underlying29 hi hz0 hz1 hz2 rfl (by decide) v n (fl10 ms) hs hown ⟨g,0,none⟩ 1 c (fl10 [m]) hx rfl ?_ (fl10_one _) (by unfold maxLen;omega) (by omega) hbase (fun v' w' k2 k3 _ => ?_)
 · intro j u hj
   have e:(fl10 [m])=ml1 m:=by simp [fl10]
   rw [e] at hj
   rw [add_zero_at']
   simp only [World.cell?,hy]
   simpa using hj
 · have hf:∃ A c',v' = .slice A (n+1) c':=by
    rcases k2.2 with ⟨e,h0⟩ | ⟨g,cap,cur,e,_⟩
    · omega
    · exact ⟨_,_,e⟩
   obtain ⟨A,c',rfl⟩:=hf
   refine h A c' w' ?_ k3
   rw [fl10_append]
   exact k2
set_option maxHeartbeats 8000000 in
theorem law5_any (d:Nat) (W:World) (A:Option Addr) (n c:Nat) (ls:List Ln) (hI:RdLz d W A n ls) (hT:∀ l∈ls,TzL d l) (hS:∀ l∈ls,SzL d l) (hn:n≤1048576) (hE:Env W) :
 Calls Tryz.prog 5 #[.slice A n c] W fun x W'=>x = .returned (.bool true)∧Below W.heap.size W W':=by
 have H0:Hid (RdLz d W A n ls∧(∀ l∈ls,TzL d l)∧(∀ l∈ls,SzL d l)∧Env W):=⟨hI,hT,hS,hE⟩
 clear hI hT hS hE
 go_enter Tryz.func5,Tryz.ntmps5
 go_wp2_with fail
 refine (shown_any _).mono ?_
 rintro x w1 ⟨rfl,hb1⟩
 go_wp2_with fail
 refine (great_any d w1 A n c ls (H0.out.1.rd.ck (ck_below hb1)) hn H0.out.2.2.1).mono ?_
 rintro x w2 ⟨⟨b,rfl,hb⟩,hb2⟩
 have H2:Hid (RdLz d w2 A n ls∧Env w2):=⟨(H0.out.1.ck (ck_below hb1)).ck (ck_below hb2),(H0.out.2.2.2.below hb1).below hb2⟩
 have HB2:Hid (Below W.heap.size W w2):=hb1.trans (hb2.mono hb1.size)
 cases b with
 | true=>
  clear hb hb1 hb2
  go_wp2
  go_ret
  exact ⟨rfl,HB2.out⟩
 | false=>
  have hn2:n≤20000:=hb rfl
  clear hb hb1 hb2
  go_wp2_with fail
  refine (lent_any d w2 A n c ls H2.out.1.rd hn H0.out.2.2.1).mono ?_
  rintro x w3 ⟨rfl,hb3,ms,hml,hblk,hAll,hmk⟩
  have H3:Hid (Below w2.heap.size w2 w3∧ms.length=n∧BlkG ml1 10 44 w3 w2.heap.size (n+1) ms∧All2 (LnK d (vw (oX w2) w3)) ms ls∧w3.cell? ⟨w2.heap.size,n*10+1,none⟩=some (.int .i64 (-77))):=⟨hb3,hml,hblk,hAll,hmk⟩
  clear hb3 hml hblk hAll hmk
  obtain ⟨R,hR⟩:∃ R,printS d ls=R:=⟨_,rfl⟩
  have HP:Hid (∀ w,Below w3.heap.size w3 w→Calls Tryz.prog 19 #[.slice (some ⟨w2.heap.size,0,none⟩) n (n+1)] w fun x w'=>x = .returned (.tuple #[.string R.1,.int .i64 R.2])∧Below w.heap.size w w'):=by
   intro w hb
   rw [←hR]
   exact print_any d w _ n (n+1) ls ((LentQ.rd H3.out.2.1 H3.out.2.2.1 H3.out.2.2.2.1).ck (ck_below hb)) H0.out.2.1 (by omega) ((H2.out.2.below H3.out.1).below hb)
  have HQ:Hid (∀ w,Below w3.heap.size w3 w→Calls Tryz.prog 20 #[.slice A n c] w fun x w'=>x = .returned (.tuple #[.string R.1,.int .i64 R.2])∧Below w.heap.size w w'):=by
   intro w hb
   rw [←hR]
   exact qprint_any d w A n c ls ((H2.out.1.rd.ck (ck_below H3.out.1)).ck (ck_below hb)) H0.out.2.1 hn2
  have HS:Hid (∀ w,Below w3.heap.size w3 w→Calls Tryz.prog 21 #[.slice (some ⟨w2.heap.size,0,none⟩) n (n+1),.slice A n c] w fun x w'=>x = .returned (.bool true)∧Below w.heap.size w w'):=by
   intro w hb
   exact still_any d w2 w n A c ls ms hn H3.out.2.1 (H3.out.2.2.1.same (hb.block _ H3.out.2.2.1.lt)) (H3.out.2.2.2.1.mono fun _ _ r=>r.ck (ckO_below hb)) (ck_below hb _ _ H3.out.2.2.2.2) ((H2.out.1.rd.ck (ck_below H3.out.1)).ck (ck_below hb)) H0.out.2.2.1
  clear hR
  obtain ⟨R1,R2⟩:=R
  go_wp2_with fail
  refine (HP.out _ (Below.refl _ _)).mono ?_
  rintro x w4 ⟨rfl,hb4⟩
  have H4:=Hid.mk2 hb4
  clear hb4
  go_wp2_with fail
  refine (HQ.out _ H4.out).mono ?_
  rintro x w5 ⟨rfl,hb5⟩
  have H5:=Hid.mk2 (H4.out.trans (hb5.mono H4.out.size))
  clear hb5 H4
  go_wp2_with fail
  refine (HS.out _ H5.out).mono ?_
  rintro x w6 ⟨rfl,hb6⟩
  have H6:=Hid.mk2 (H5.out.trans (hb6.mono H5.out.size))
  clear hb6 H5 HP HQ HS
  obtain ⟨ms0,hn0,hr0,hA0⟩:=H2.out.1
  have H7:Hid (ms0.length=n∧(n=0∨∃ g z,A=some ⟨g,z,none⟩∧ReadsL w2 g z ms0)∧All2 (RdLc d w2) ms0 ls∧Env w2):=⟨hn0.symm,hr0,hA0,H2.out.2⟩
  clear hn0 hr0 hA0
  have HV:Hid (RvL w2 w6.heap.size n ms0.reverse 0 (.slice (some ⟨w6.heap.size,0,none⟩) 0 0) (w6.alloc (.cells #[] 44))):=by
   have hsz:=H6.out.size
   have hlt:=H3.out.2.2.1.lt
   refine ⟨(H3.out.1.trans (H6.out.mono H3.out.1.size)).alloc (by have:=H3.out.1.size;omega) _,?_,⟨_,_,rfl,World.ownsRow_lit w6 #[] 0 (Nat.le_refl _) (by unfold maxLen;omega) rfl⟩,by omega,by simp⟩
   exact blkG_none ((H3.out.2.2.1.same (H6.out.block _ hlt)).same (((Below.refl _ w6).alloc (Nat.le_refl _) _).block _ (by omega)))
  clear H3 H6
  go_wp2
  go_loopw [10,11] (fun vv vi wr=>∃ i:Nat,vi = .int .i64 i∧i≤n∧Hid (RvL w2 w6.heap.size n ms0.reverse i vv wr)) (fun _ vi _=>n - (intOf vi).toNat)
  case atStart=>exact ⟨0,rfl,by omega,HV⟩
  case round=>
   obtain ⟨i,rfl,hi,HR⟩:=hrel
   obtain ⟨wo,rfl⟩:∃ wo,wo=wr:=⟨_,rfl⟩
   clear HV
   by_cases hin:i<n
   · have e1:decide ((i:Int)<(n:Int))=true:=by simpa using hin
     obtain ⟨j,hj0⟩:∃ j,n=i+j+1:=⟨n - i - 1,by omega⟩
     have hjn:j<n:=by omega
     have hw1:IntKind.i64.wrap ((n:Int) - 1)=(n:Int) - 1:=by rw [IntKind.wrap_i64];omega
     have hw2:IntKind.i64.wrap ((n:Int) - 1 - (i:Int))=(j:Int):=by rw [IntKind.wrap_i64];omega
     have hj:Hid (n=i+j+1):=hj0
     clear hj0
     obtain ⟨m,hm⟩:∃ m,ms0[j]? = some m:=⟨ms0[j]'(by have:=H7.out.1;omega),List.getElem?_eq_getElem _⟩
     have hmr:ms0.reverse[i]? = some m:=by
      rw [List.getElem?_reverse (by have:=H7.out.1;omega),show ms0.length - 1 - i=j by have:=H7.out.1;have:=hj.out;omega]
      exact hm
     obtain ⟨g,z,hA,hr⟩:=H7.out.2.1.resolve_left (by omega)
     subst hA
     obtain ⟨tA,tc,rfl,hO⟩:=HR.out.tr
     have hblk:=HR.out.own
     have hbl:=HR.out.bl
     have hce:∀ k v,(ml1 m)[k]? = some v→∀ w2',Below w2.heap.size w2 w2'→w2'.cell? ⟨g,z+j*10+k,none⟩=some v:=fun k v hv w hb=>ck_below hb _ _ (hr j m hm k v hv)
     have k0:=hce 0 _ rfl wo hbl
     have k1:=hce 1 _ rfl wo hbl
     have k2:=hce 2 _ rfl wo hbl
     have k3:=hce 3 _ rfl wo hbl
     have k4:=hce 4 _ rfl wo hbl
     have k5:=hce 5 _ rfl wo hbl
     have k6:=hce 6 _ rfl wo hbl
     have k7:=hce 7 _ rfl wo hbl
     have k8:=hce 8 _ rfl wo hbl
     have k9:=hce 9 _ rfl wo hbl
     simp only [Nat.add_zero] at k0
     have hsz8:i*10+10≤(n+1)*10:=by omega
     obtain ⟨y0,b0⟩:=hblk.some (p:=i*10) (by omega)
     have f0:=hblk.frozen (i*10)
     obtain ⟨y1,b1⟩:=hblk.some (p:=i*10+1) (by omega)
     have f1:=hblk.frozen (i*10+1)
     obtain ⟨y2,b2⟩:=hblk.some (p:=i*10+2) (by omega)
     have f2:=hblk.frozen (i*10+2)
     obtain ⟨y3,b3⟩:=hblk.some (p:=i*10+3) (by omega)
     have f3:=hblk.frozen (i*10+3)
     obtain ⟨y4,b4⟩:=hblk.some (p:=i*10+4) (by omega)
     have f4:=hblk.frozen (i*10+4)
     obtain ⟨y5,b5⟩:=hblk.some (p:=i*10+5) (by omega)
     have f5:=hblk.frozen (i*10+5)
     obtain ⟨y6,b6⟩:=hblk.some (p:=i*10+6) (by omega)
     have f6:=hblk.frozen (i*10+6)
     obtain ⟨y7,b7⟩:=hblk.some (p:=i*10+7) (by omega)
     have f7:=hblk.frozen (i*10+7)
     obtain ⟨y8,b8⟩:=hblk.some (p:=i*10+8) (by omega)
     have f8:=hblk.frozen (i*10+8)
     obtain ⟨y9,b9⟩:=hblk.some (p:=i*10+9) (by omega)
     have f9:=hblk.frozen (i*10+9)
     have hlm:(ms0.reverse.take i).length=i:=by rw [List.length_take,List.length_reverse,H7.out.1];omega
     have hW2:∀ w9,set10at wo w2.heap.size (i*10) m=w9→Below w2.heap.size w2 w9∧BlkG ml1 10 44 w9 w2.heap.size (n+1) (ms0.reverse.take (i+1))∧w9.ownsRow w6.heap.size 44 10 (.slice tA i tc) i (fl10 (ms0.reverse.take i))∧w6.heap.size≤w9.heap.size:=by
      rintro w9 rfl
      have hblk2:=hblk.set10 m (by omega)
      rw [hlm,←take_moreM hmr] at hblk2
      have hlt:=HR.out.lt
      refine ⟨set10at_below (Nat.le_refl _) hbl,hblk2,?_,by simpa [set10at] using HR.out.le⟩
      simp only [set10at]
      repeat refine ownsRow_setCell_below ?_ (by exact hlt) _
      exact hO
     have HW2:=Hid.mk2 hW2
     have HM:Hid (ms0.reverse[i]? = some m∧(ms0.reverse.take i).length=i∧w2.heap.size<w6.heap.size∧(∀ k v,(ml1 m)[k]? = some v→∀ w2',Below w2.heap.size w2 w2'→w2'.cell? ⟨g,z+j*10+k,none⟩=some v)):=⟨hmr,hlm,HR.out.lt,hce⟩
     clear hblk hbl hce hm hr hW2 hO hmr hlm
     go_upto_region 17 with fail
     obtain ⟨w9,hw9⟩:∃ w9,set10at wo w2.heap.size (i*10) m=w9:=⟨_,rfl⟩
     have HS0:=Hid.mk2 (HW2.out w9 hw9)
     simp only [set10at] at hw9
     rw [hw9]
     clear hw9 HW2 k0 k1 k2 k3 k4 k5 k6 k7 k8 k9 b0 b1 b2 b3 b4 b5 b6 b7 b8 b9 f0 f1 f2 f3 f4 f5 f6 f7 f8 f9 y0 y1 y2 y3 y4 y5 y6 y7 y8 y9
     have k0:=HM.out.2.2.2 0 _ rfl w9 HS0.out.1
     have k1:=HM.out.2.2.2 1 _ rfl w9 HS0.out.1
     have k2:=HM.out.2.2.2 2 _ rfl w9 HS0.out.1
     have k3:=HM.out.2.2.2 3 _ rfl w9 HS0.out.1
     have k4:=HM.out.2.2.2 4 _ rfl w9 HS0.out.1
     have k5:=HM.out.2.2.2 5 _ rfl w9 HS0.out.1
     have k6:=HM.out.2.2.2 6 _ rfl w9 HS0.out.1
     have k7:=HM.out.2.2.2 7 _ rfl w9 HS0.out.1
     have k8:=HM.out.2.2.2 8 _ rfl w9 HS0.out.1
     have k9:=HM.out.2.2.2 9 _ rfl w9 HS0.out.1
     simp only [Nat.add_zero] at k0
     go_wp2_with (first | (at_builtin;go_must (refine push_RL rfl _ _ rfl w6.heap.size _ i (ms0.reverse.take i) rfl (World.ownsRow.alloc HS0.out.2.2.1 _) HM.out.2.1 w9.heap.size 1 m rfl (World.alloc_heap_new _ _) (by omega) (by have:=HS0.out.2.2.2;simp;omega) ?_);intro A8 c8 w8 hO8 hg8) | fail)
     have HV8:Hid (RvL w2 w6.heap.size n ms0.reverse (i+1) (.slice A8 (i+1) c8) w8):=by
      have h9:=HS0.out
      have hg8:(w9.alloc (.cells (ml1 m).toArray 44)).grownBy w8 (Value.slice tA i tc).ownBlock:=hg8
      have hlt:=HM.out.2.2.1
      have hsz:(w9.alloc (.cells (ml1 m).toArray 44)).heap.size=w9.heap.size+1:=by simp
      have hrow:∀ k,(Value.slice tA i tc).ownBlock=some k→w6.heap.size≤k:=fun k hk=>by
       refine Classical.byContradiction fun hlt2 => ?_
       exact row_ne_low h9.2.2.1 (b:=k) (by omega) hk.symm
      refine ⟨(h9.1.alloc (by omega) _).grown hg8 (by rw [hsz];omega) (fun k hk=>by have:=hrow k hk;omega),?_,⟨_,_,rfl,?_⟩,hlt,?_⟩
      · refine h9.2.1.same ?_
        rw [hg8.block _ (by rw [hsz];omega) (row_ne_low h9.2.2.1 hlt)]
        exact ((Below.refl _ w9).alloc (Nat.le_refl _) _).block _ (by omega)
      · rw [take_moreM HM.out.1]
        exact hO8
      · have:=hg8.size
        rw [hsz] at this
        omega
     clear hO8 hg8
     go_wp2
     exact ⟨⟨i+1,by go_num,by omega,HV8⟩,by simp [intOf];omega⟩
   · have e1:decide ((i:Int)<(n:Int))=false:=by simpa using hin
     obtain rfl:i=n:=by omega
     obtain ⟨tA,tc,rfl,hO⟩:=HR.out.tr
     have htk:ms0.reverse.take i=ms0.reverse:=List.take_of_length_le (by rw [List.length_reverse,H7.out.1];exact Nat.le_refl _)
     have hlr:ms0.reverse.length=i:=by rw [List.length_reverse,H7.out.1]
     have hA2:All2 (RdLc d wo) ms0.reverse ls.reverse:=(H7.out.2.2.1.mono fun _ _ r=>r.ck (ck_below HR.out.bl)).reverse
     have hOw:RdLz d wo (some ⟨w2.heap.size,0,none⟩) i ls.reverse:=by
      have:=HR.out.own
      rw [htk] at this
      exact ⟨_,hlr.symm,.inr ⟨_,0,rfl,this.readsL⟩,hA2⟩
     have hTu:RdLs d wo tA i ls.reverse:=by
      rw [htk] at hO
      exact ⟨_,hlr.symm,reads_own hO hlr,hA2.mono fun _ _ r=>r.1⟩
     have hT2:∀ l∈ls.reverse,TzL d l:=fun l hl=>H0.out.2.1 l (List.mem_reverse.1 hl)
     obtain ⟨R,hR⟩:∃ R,printS d ls.reverse=R:=⟨_,rfl⟩
     have HP:Hid (Calls Tryz.prog 19 #[.slice (some ⟨w2.heap.size,0,none⟩) i (i+1)] wo fun x w'=>x = .returned (.tuple #[.string R.1,.int .i64 R.2])∧Below wo.heap.size wo w'):=by
      rw [←hR]
      exact print_any d wo _ i (i+1) ls.reverse hOw hT2 (by omega) (H7.out.2.2.2.below HR.out.bl)
     have HQ:Hid (∀ w,Below wo.heap.size wo w→Calls Tryz.prog 20 #[.slice tA i tc] w fun x w'=>x = .returned (.tuple #[.string R.1,.int .i64 R.2])∧Below w.heap.size w w'):=by
      intro w hb
      rw [←hR]
      exact qprint_any d w tA i tc ls.reverse (hTu.ck (ck_below hb)) hT2 hn2
     clear hR hTu hOw hA2 hT2 hO
     obtain ⟨S1,S2⟩:=R
     go_wp2_with fail
     refine HP.out.mono ?_
     rintro x w8 ⟨rfl,hb8⟩
     have H8:=Hid.mk2 hb8
     clear hb8
     go_wp2_with fail
     refine (HQ.out _ H8.out).mono ?_
     rintro x w9 ⟨rfl,hb9⟩
     have HB9:Hid (Below W.heap.size W w9):=((HB2.out.trans (HR.out.bl.mono HB2.out.size)).trans (H8.out.mono (by have:=HB2.out.size;have:=HR.out.bl.size;omega))).trans (hb9.mono (by have:=HB2.out.size;have:=HR.out.bl.size;have:=H8.out.size;omega))
     clear hb9
     go_wp2
     go_ret
     exact ⟨rfl,HB9.out⟩
end Go.Proofs
