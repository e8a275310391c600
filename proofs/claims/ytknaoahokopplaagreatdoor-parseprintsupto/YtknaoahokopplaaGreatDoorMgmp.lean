/-
  Several texts in one (W6p W9p X0p).
-/
import Derived.Test.YtknaoahokopplaaGreatDoorMglp
import Derived.Test.YtknaoahokopplaaGreatDoorLbp
import Derived.Lib.ItoaLen
import Derived.Test.YtknaoahokopplaaGreatDoorMggp
import Derived.Test.YtknaoahokopplaaGreatDoorMghp
namespace Go.Proofs
open Go.RowKit Go.Shelf
set_option maxRecDepth 100000
attribute [local go_sem] Oper.semAt_some
def It.txt:It→ByteArray
 | .mk _ _ t _ _ _ _ _=>t
def Tz:Nat→It→Prop
 | 0,i=>i.txt.size≤maxLen
 | d+1,i=>i.txt.size≤maxLen∧∀ p∈i.ps,Tz d p
theorem Tz.txt:∀ {d:Nat} {i:It},Tz d i→i.txt.size≤maxLen
 | 0,_,h=>h
 | _+1,_,h=>h.1
theorem Plain.txt {m:MI} {i:It} (h:Plain m i):m.t=i.txt:=by
 obtain ⟨k,u,t,ps,lo,hi,nt,key⟩:=i
 exact h.2.2.1
theorem ckI_any:∀ (d may:Nat),may4 may→∀ (w:World) (m:MI) (i:It),RdM d w m i→Tz d i→Calls Tryz.prog 148 #[mia m,.int .i64 may] w (Lk w (ckI d may i))
 | 0,may,hm,w,m,i,h,ht=>by
  obtain ⟨k,u,t,A,n,c,lo,hi,nt,key⟩:=m
  obtain ⟨hP,hps,hn⟩:=h
  have hsz:t.size≤maxLen:=by rw [show t=i.txt from hP.txt];exact ht.txt
  refine ckItem_step may hm k u t A n c lo hi nt key hsz i hP (by rw [hps];exact hn) _ w ?_
  intro m2 _ W _
  have hn0:n=0:=hn
  subst hn0
  exact ckRow_step m2 (fun _=>none) W A 0 c [] [] ⟨rfl,by omega,.inl rfl⟩ rfl (fun j m i h=>by simp at h)
 | d+1,may,hm,w,m,i,h,ht=>by
  obtain ⟨k,u,t,A,n,c,lo,hi,nt,key⟩:=m
  obtain ⟨hP,ms,hR,hAll⟩:=h
  have hsz:t.size≤maxLen:=by rw [show t=i.txt from hP.txt];exact ht.txt
  have hlen:=hAll.length
  refine ckItem_step may hm k u t A n c lo hi nt key hsz i hP (by rw [←hlen];exact hR.1) _ w ?_
  intro m2 hm2 W hW
  refine ckRow_step m2 (ckI d m2) W A n c ms i.ps (RdR.ck hR hW.ck) hlen ?_
  intro j m' i' h1 h2 W2 hW2
  exact ckI_any d m2 (hm2.elim .inl fun h => .inr (.inr (.inl h))) W2 m' i' ((hAll.get h1 h2).ck (hW.ck.trans hW2.ck)) (ht.2 i' (List.mem_of_getElem? h2))
theorem ckRow_any (d may:Nat) (hm:may4 may) (w:World) (A:Option Addr) (n c:Nat) (l:List It) (h:RdI d w A n l) (ht:∀ i∈l,Tz d i):Calls Tryz.prog 113 #[.slice A n c,.int .i64 may] w (Lk w (ckRw (ckI d may) l)):=by
 obtain ⟨ms,hR,hAll⟩:=h
 refine ckRow_step may (ckI d may) w A n c ms l hR hAll.length ?_
 intro j m i h1 h2 W hW
 exact ckI_any d may hm W m i ((hAll.get h1 h2).ck hW.ck) (ht i (List.mem_of_getElem? h2))
def lnM (l:Ln):ML:=⟨l.k,l.a,l.t,l.bg,l.en,⟨none,l.ante.length,0⟩,⟨none,l.key.length,0⟩,⟨none,l.post.length,0⟩,⟨none,l.res.length,0⟩,l.cur⟩
theorem stL_same {d:Nat} {w:World} {m:ML} {l:Ln} (h:RdLn d w m l):stL m=stL (lnM l):=by
 obtain ⟨⟨h1,h2,h3,h4,h5,h6⟩,a1,a2,a3,a4⟩:=h
 have e1:=a1.len
 have e2:=a2.len
 have e3:=a3.len
 have e4:=a4.len
 obtain ⟨k,a,t,bg,en,⟨A1,n1,c1⟩,⟨A2,n2,c2⟩,⟨A3,n3,c3⟩,⟨A4,n4,c4⟩,cur⟩:=m
 simp only at h1 h2 h3 h4 h5 h6 e1 e2 e3 e4
 subst h1 h2 h3 h4 h5 h6
 subst e1 e2 e3 e4
 rfl
def ckLn (d:Nat) (l:Ln):Option Int:=
 if stL (lnM l) then ((ckRw (ckI d 62) l.ante).or ((ckRw (ckI d 62) l.key).or ((ckRw (ckI d 62) l.post).or (ckRw (ckI d 386) l.res)))) else some 50
def TzL (d:Nat) (l:Ln):Prop:=l.t.size≤maxLen∧(∀ i∈l.ante,Tz d i)∧(∀ i∈l.key,Tz d i)∧(∀ i∈l.post,Tz d i)∧∀ i∈l.res,Tz d i
set_option maxHeartbeats 4000000 in
theorem ckLine_any (d:Nat) (w:World) (m:ML) (l:Ln) (h:RdLn d w m l) (ht:TzL d l):Calls Tryz.prog 65 #[mla m] w (Lk w (ckLn d l)):=by
 have hst:=stL_same h
 obtain ⟨S,hS⟩:∃ S,ckLn d l=S:=⟨_,rfl⟩
 rw [hS]
 obtain ⟨bs,hbs⟩:∃ bs,stL m=bs:=⟨_,rfl⟩
 have hmt:m.t=l.t:=h.1.2.2.1
 have H112:Hid (∀ W,Calls Tryz.prog 112 #[mla m] W fun x w'=>x = .returned (.bool bs)∧Grown W w'):=fun W=>by
  have:=lineStands_any m (by rw [hmt];exact ht.1) W
  rw [hbs] at this
  exact this
 have HR:Hid (RdLn d w m l∧TzL d l):=⟨h,ht⟩
 have HG0:Hid (Grown w (w.alloc (.cells (ml1 m).toArray 44))):=(Grown.refl w).alloc _
 have HS:Hid (S=if bs then ((ckRw (ckI d 62) l.ante).or ((ckRw (ckI d 62) l.key).or ((ckRw (ckI d 62) l.post).or (ckRw (ckI d 386) l.res)))) else some 50):=by
  show _=_
  rw [←hS,ckLn,←hst,hbs]
 clear h ht hS hst hbs hmt
 go_enter Tryz.func65,Tryz.ntmps65
 go_wp2_with fail
 refine (H112.out _).mono ?_
 rintro x w2 ⟨rfl,hg2⟩
 have HG2:Hid (Grown w w2):=HG0.out.trans hg2
 have hlb:LB w2 w.heap.size m:=(hg2.below.block _ (by simp)).trans (World.alloc_heap_new _ _)
 have HB2:Hid (LB w2 w.heap.size m):=hlb
 clear hg2 hlb HG0
 cases bs with
 | false=>
  have HF:Hid (S=some 50):=HS.out
  go_wp2_with fail
  refine (demand_any false 50 _).mono ?_
  rintro x w3 ⟨rfl,rfl⟩
  exact ⟨rfl,HG2.out,by rw [HF.out]⟩
 | true=>
  have HF:Hid (S=((ckRw (ckI d 62) l.ante).or ((ckRw (ckI d 62) l.key).or ((ckRw (ckI d 62) l.post).or (ckRw (ckI d 386) l.res))))):=HS.out
  clear HS
  go_wp2_with fail
  refine (demand_any true 50 _).mono ?_
  rintro x w3 ⟨rfl,rfl⟩
  rw [if_pos rfl]
  obtain ⟨c0,c1,c2,c3,c4,c5,c6,c7,c8,c9⟩:=HB2.out.cells
  go_wp2_with fail
  refine (ckRow_any d 62 (.inr (.inl rfl)) _ m.s1.A m.s1.n m.s1.c l.ante (HR.out.1.2.1.ck HG2.out.ck) HR.out.2.2.1).mono ?_
  intro x v0 hx
  obtain ⟨hg,hx⟩:=hx
  have HGv0:Hid (Grown w v0):=HG2.out.trans hg
  have HBv0:Hid (LB v0 w.heap.size m):=HB2.out.same (hg.below.block _ HB2.out.lt)
  clear hg c0 c1 c2 c3 c4 c5 c6 c7 c8 c9
  cases hs0:ckRw (ckI d 62) l.ante with
  | some cd=>
   rw [hs0] at hx
   simp only at hx
   subst hx
   exact ⟨rfl,HGv0.out,by rw [HF.out,hs0];rfl⟩
  | none=>
   rw [hs0] at hx
   simp only at hx
   subst hx
   have HF0:Hid (S=((ckRw (ckI d 62) l.key).or ((ckRw (ckI d 62) l.post).or (ckRw (ckI d 386) l.res)))):=by
    show _=_
    rw [HF.out,hs0];rfl
   clear hs0 HF
   obtain ⟨c0,c1,c2,c3,c4,c5,c6,c7,c8,c9⟩:=HBv0.out.cells
   go_wp2_with fail
   refine (ckRow_any d 62 (.inr (.inl rfl)) _ m.s2.A m.s2.n m.s2.c l.key (HR.out.1.2.2.1.ck HGv0.out.ck) HR.out.2.2.2.1).mono ?_
   intro x v1 hx
   obtain ⟨hg,hx⟩:=hx
   have HGv1:Hid (Grown w v1):=HGv0.out.trans hg
   have HBv1:Hid (LB v1 w.heap.size m):=HBv0.out.same (hg.below.block _ HBv0.out.lt)
   clear hg c0 c1 c2 c3 c4 c5 c6 c7 c8 c9
   cases hs1:ckRw (ckI d 62) l.key with
   | some cd=>
    rw [hs1] at hx
    simp only at hx
    subst hx
    exact ⟨rfl,HGv1.out,by rw [HF0.out,hs1];rfl⟩
   | none=>
    rw [hs1] at hx
    simp only at hx
    subst hx
    have HF1:Hid (S=((ckRw (ckI d 62) l.post).or (ckRw (ckI d 386) l.res))):=by
     show _=_
     rw [HF0.out,hs1];rfl
    clear hs1 HF0
    obtain ⟨c0,c1,c2,c3,c4,c5,c6,c7,c8,c9⟩:=HBv1.out.cells
    go_wp2_with fail
    refine (ckRow_any d 62 (.inr (.inl rfl)) _ m.s3.A m.s3.n m.s3.c l.post (HR.out.1.2.2.2.1.ck HGv1.out.ck) HR.out.2.2.2.2.1).mono ?_
    intro x v2 hx
    obtain ⟨hg,hx⟩:=hx
    have HGv2:Hid (Grown w v2):=HGv1.out.trans hg
    have HBv2:Hid (LB v2 w.heap.size m):=HBv1.out.same (hg.below.block _ HBv1.out.lt)
    clear hg c0 c1 c2 c3 c4 c5 c6 c7 c8 c9
    cases hs2:ckRw (ckI d 62) l.post with
    | some cd=>
     rw [hs2] at hx
     simp only at hx
     subst hx
     exact ⟨rfl,HGv2.out,by rw [HF1.out,hs2];rfl⟩
    | none=>
     rw [hs2] at hx
     simp only at hx
     subst hx
     have HF2:Hid (S=(ckRw (ckI d 386) l.res)):=by
      show _=_
      rw [HF1.out,hs2];rfl
     clear hs2 HF1
     obtain ⟨c0,c1,c2,c3,c4,c5,c6,c7,c8,c9⟩:=HBv2.out.cells
     go_wp2_with fail
     refine (ckRow_any d 386 (.inr (.inr (.inr rfl))) _ m.s4.A m.s4.n m.s4.c l.res (HR.out.1.2.2.2.2.ck HGv2.out.ck) HR.out.2.2.2.2.2).mono ?_
     intro x v3 hx
     obtain ⟨hg,hx⟩:=hx
     have HGv3:Hid (Grown w v3):=HGv2.out.trans hg
     have HBv3:Hid (LB v3 w.heap.size m):=HBv2.out.same (hg.below.block _ HBv2.out.lt)
     clear hg c0 c1 c2 c3 c4 c5 c6 c7 c8 c9
     cases hs3:ckRw (ckI d 386) l.res with
     | some cd=>
      rw [hs3] at hx
      simp only at hx
      subst hx
      exact ⟨rfl,HGv3.out,by rw [HF2.out,hs3]⟩
     | none=>
      rw [hs3] at hx
      simp only at hx
      subst hx
      have HF3:Hid (S=none):=by
       show _=_
       rw [HF2.out,hs3]
      clear hs3 HF2
      go_wp2
      refine bodyPost_end (results_none rfl _ _ _) rfl ?_
      exact ⟨HGv3.out,by rw [HF3.out]⟩
end Go.Proofs
namespace Go.Proofs
open Go.RowKit Go.Shelf
set_option maxRecDepth 100000
attribute [local go_sem] Oper.semAt_some
noncomputable def unitS (u:Int):ByteArray:=Classical.choose (write_both u)
theorem unitS_spec (u:Int):∃ e:Int,Hid (∀ w,TabB w→Calls Tryz.prog 24 #[.int .i64 u] w fun x w'=>x = .returned (.tuple #[.string (unitS u),.int .i64 e])∧Below w.heap.size w w')∧Hid (∀ w:World,Calls Tryz.prog 174 #[.int .i64 u] w fun x w'=>x = .returned (.tuple #[.string (unitS u),.int .i64 e])∧Below w.heap.size w w') ∧
 ((wd u=0∧e=1∧(unitS u).size=0)∨(wd u≠0∧e=0∧(unitS u).size≤100∧Run (unitS u) 0 true [⟨1,0,(unitS u).size,u,⟨#[]⟩,0⟩] 0 0)):=Classical.choose_spec (write_both u)
set_option maxHeartbeats 1000000 in
theorem unitText_any (u:Int) (w:World) (hT:TabB w):Calls Tryz.prog 116 #[.int .i64 u] w fun x w'=>x = .returned (.string (unitS u))∧Below w.heap.size w w':=by
 obtain ⟨e,h1,-,-⟩:=unitS_spec u
 have HT:Hid (TabB w):=hT
 clear hT
 go_enter Tryz.func116,Tryz.ntmps116
 go_wp2_with fail
 refine (h1.out _ HT.out).mono ?_
 rintro x w1 ⟨rfl,hb⟩
 have HB:Hid (Below w.heap.size w w1):=hb
 clear hb
 go_wp2
 go_ret
 exact ⟨rfl,HB.out⟩
def copyS (n:Int):ByteArray:=⟨#[64]⟩++⟨(Lib.itoa n).toArray⟩
abbrev PowT (w : World) : Prop := Lib.TabIs Tryz.prog w "internal/strconv.uint64pow10" .u64 Lib.pow10Tab
set_option maxHeartbeats 1000000 in
theorem copyText_any (m:MI) (h0 : -9223372036854775808≤m.key) (h1:m.key≤9223372036854775807) (w:World) (hT:∀ o,PowT (w.alloc o)):Calls Tryz.prog 118 #[mia m] w fun x w'=>x = .returned (.string (copyS m.key))∧Grown w w':=by
 have HT:Hid (∀ o,PowT (w.alloc o)):=hT
 have H0:Hid (-9223372036854775808≤m.key∧m.key≤9223372036854775807):=⟨h0,h1⟩
 have hl:=Lib.itoa_length_le m.key h0 h1
 have hI:Hid (∀ W,PowT W→Calls Tryz.prog 150 #[.int .i64 m.key] W fun e w'=>e = .returned (.string ⟨(Lib.itoa m.key).toArray⟩)∧∃ k os,w'=Go.Sort.grow (W.drewN k) os):=fun W hW=>Tryz.strconv_Itoa m.key h0 h1 W hW
 clear hT h0 h1
 obtain ⟨y,hy⟩:∃ y:ByteArray,(⟨(Lib.itoa m.key).toArray⟩:ByteArray)=y:=⟨_,rfl⟩
 have hz:y.size≤21:=by
  rw [←hy]
  show (Lib.itoa m.key).toArray.size≤21
  simpa using hl
 have HS:Hid (copyS m.key=⟨#[64]⟩++y):=by
  show _=_
  rw [←hy]
  rfl
 rw [hy] at hI
 have hx1:((⟨#[64]⟩:ByteArray)++y).size=1+y.size:=by rw [ByteArray.size_append];rfl
 clear hy hl
 go_enter Tryz.func118,Tryz.ntmps118
 go_wp2_with fail
 refine (hI.out _ (HT.out _)).mono ?_
 rintro x w1 ⟨rfl,k,os,rfl⟩
 have HG:Hid (Grown w (Go.Sort.grow ((w.alloc (.cells (mi1 m).toArray 58)).drewN k) os)):=((Grown.refl w).alloc _).trans ⟨k,os,rfl⟩
 go_wp2
 go_ret
 exact ⟨by rw [HS.out];rfl,HG.out⟩
end Go.Proofs
namespace Go.Proofs
open Go.RowKit Go.Shelf
set_option maxRecDepth 100000
attribute [local go_sem] Oper.semAt_some
def OwnX (w:World) (b:Nat) (v:Value) (xs:List ByteArray):Prop:=w.ownsRow b 9 1 v xs.length (xs.map Value.string)
theorem OwnX.nil (w:World) (b:Nat):OwnX w b (.slice none 0 0) []:=World.ownsRow_nil _ _ _ _
theorem OwnX.form {w:World} {b:Nat} {v:Value} {xs:List ByteArray} (h:OwnX w b v xs):∃ A c,v = .slice A xs.length c:=by
 rcases h.2 with ⟨e,h0⟩ | ⟨g,cap,cur,e,_⟩
 · subst e;exact ⟨none,0,by rw [h0]⟩
 · exact ⟨_,_,e⟩
theorem OwnX.step {w w':World} {b:Nat} {v:Value} {xs:List ByteArray} (h:OwnX w b v xs) (hw:∀ k,k<w.heap.size→b≤k→w'.heap[k]? = w.heap[k]?):OwnX w' b v xs:=by
 refine ⟨h.1,h.2.imp id ?_⟩
 rintro ⟨g,cap,cur,rfl,k1,k2,k3⟩
 exact ⟨g,cap,cur,rfl,k1,(hw g (Array.getElem?_eq_some_iff.1 k2).1 k1).trans k2,k3⟩
theorem OwnX.lt {w:World} {b:Nat} {v:Value} {xs:List ByteArray} (h:OwnX w b v xs):∀ g,v.ownBlock=some g→b≤g∧g<w.heap.size:=fun g e=>World.ownsRow.lt h g e
theorem info9x:(Tryz.prog.info? 9).map (fun i=>(i.zero,i.size,i.bytes))=some (some (.string ⟨#[]⟩),1,16):=by kernel_rfl
theorem push_X {ops:Array Oper} {rest:List Oper} {o:Oper} {a:Act} {Q:Exit→Act→World→Prop} {w:World} (hgd:o.guard=none) (s x:Operand)
 (ho:o.op = .call { callee := .builtin .append,args:=#[s,x],argTypes:=#[77,77] })
 (b:Nat) (v:Value) (xs:List ByteArray) (hs:a.eval s=v) (hown:OwnX w b v xs) (g c:Nat) (t:ByteArray) (hx:a.eval x = .slice (some ⟨g,0,none⟩) 1 c)
 (hy:w.heap[g]? = some (.cells #[.string t] 9 (0,0))) (hl:xs.length+1≤1000000) (hbase:b≤w.heap.size)
 (h:∀ A c' w',OwnX w' b (.slice A (xs.length+1) c') (xs++[t])→w.grownBy w' v.ownBlock→wpList Tryz.prog ops Q rest (a.put o.dst (.slice A (xs.length+1) c')) w'):wpList Tryz.prog ops Q (o::rest) a w:=by
 obtain ⟨i0,hi,hz0,hz1,hz2⟩:=info_parts info9x
 refine wpList_append_own w hgd s x 77 ho b 9 i0 _ 1 16 Tryz.underlying77 hi hz0 hz1 hz2 rfl (by decide) v xs.length (xs.map Value.string) hs hown ⟨g,0,none⟩ 1 c [.string t] hx rfl ?_ (fun u hu=>by rw [List.mem_singleton] at hu;subst hu;rfl) (by unfold maxLen;omega) (by omega) hbase (fun v' w' k2 k3 _ => ?_)
 · intro j u hj
   rw [add_zero_at']
   simp only [World.cell?,hy]
   simpa using hj
 · have hf:∃ A c',v' = .slice A (xs.length+1) c':=by
    rcases k2.2 with ⟨e,h0⟩ | ⟨g,cap,cur,e,_⟩
    · omega
    · exact ⟨_,_,e⟩
   obtain ⟨A,c',rfl⟩:=hf
   refine h A c' w' ?_ k3
   unfold OwnX
   rw [List.length_append,List.map_append]
   exact k2
set_option maxHeartbeats 4000000 in
theorem itemTexts_step (f:It→ByteArray) (w:World) (A:Option Addr) (n c:Nat) (ms:List MI) (l:List It) (hR:RdR w A n ms) (hl:ms.length=l.length) (hn5:n≤100000)
 (hI:∀ (j:Nat) (m:MI) (i:It),ms[j]? = some m→l[j]? = some i→∀ W,Below w.heap.size w W→Calls Tryz.prog 69 #[mia m] W fun x w'=>x = .returned (.string (f i))∧Below W.heap.size W w') :
 Calls Tryz.prog 119 #[.slice A n c] w fun x w'=>∃ v,x = .returned v∧OwnX w' w.heap.size v (l.map f)∧Below w.heap.size w w':=by
 obtain ⟨hn,hnm,hr⟩:=hR
 have HI:Hid (∀ (j:Nat) (m:MI) (i:It),ms[j]? = some m→l[j]? = some i→∀ W,Below w.heap.size w W→Calls Tryz.prog 69 #[mia m] W fun x w'=>x = .returned (.string (f i))∧Below W.heap.size W w'):=hI
 have HL:Hid (n=l.length∧n=ms.length∧(n=0∨∃ g z,A=some ⟨g,z,none⟩∧ReadsI w g z ms)):=⟨by omega,hn,hr⟩
 clear hI hr hn hl
 go_enter Tryz.func119,Tryz.ntmps119
 go_wp2_with fail
 go_loopw [3,8] (fun v3 v8 wr=>∃ j:Nat,v8 = .int .i64 j∧j≤n∧Hid (Below w.heap.size w wr∧OwnX wr w.heap.size v3 ((l.take j).map f))) (fun _ v8 _=>n - (intOf v8).toNat)
 case atStart=>exact ⟨0,rfl,by omega,Below.refl _ _,OwnX.nil _ _⟩
 case round=>
  obtain ⟨j,rfl,hj,HG⟩:=hrel
  obtain ⟨wo,rfl⟩:∃ wo,wo=wr:=⟨_,rfl⟩
  by_cases hjn:j<n
  · have e1:decide ((j:Int)<(n:Int))=true:=by simpa using hjn
    obtain ⟨m,hm⟩:∃ m,ms[j]? = some m:=⟨ms[j]'(by have:=HL.out.2.1;omega),List.getElem?_eq_getElem _⟩
    obtain ⟨i,hi⟩:∃ i,l[j]? = some i:=⟨l[j]'(by have:=HL.out.1;omega),List.getElem?_eq_getElem _⟩
    obtain ⟨g,z,hA,hr⟩:=HL.out.2.2.resolve_left (by omega)
    subst hA
    obtain ⟨X,hX⟩:∃ X,(l.take j).map f=X:=⟨_,rfl⟩
    have HX:Hid ((l.take (j+1)).map f=X++[f i]∧X.length=j):=by
     have hjl:j<l.length:=by have:=HL.out.1;omega
     refine ⟨?_,by rw [←hX];simp;omega⟩
     rw [List.take_succ_eq_append_getElem hjl,List.map_append,hX]
     have:=hi
     rw [List.getElem?_eq_getElem hjl] at this
     rw [Option.some.inj this]
     rfl
    rw [hX] at HG
    clear hX
    obtain ⟨A3,c3',hv3⟩:=HG.out.2.form
    subst hv3
    have ck:=ck_below HG.out.1
    obtain ⟨c0,c1,c2,c3,c4,c5,c6,c7⟩:=hr.cells hm
    have k0:=ck _ _ c0
    have k1:=ck _ _ c1
    have k2:=ck _ _ c2
    have k3:=ck _ _ c3
    have k4:=ck _ _ c4
    have k5:=ck _ _ c5
    have k6:=ck _ _ c6
    have k7:=ck _ _ c7
    have HM:Hid (ms[j]? = some m∧l[j]? = some i):=⟨hm,hi⟩
    clear c0 c1 c2 c3 c4 c5 c6 c7 hm hi hr ck
    have hzo:=HG.out.1.size
    go_wp2_with fail
    refine (HI.out j m i HM.out.1 HM.out.2 _ (HG.out.1.alloc hzo _)).mono ?_
    rintro x w4 ⟨rfl,hb4⟩
    have H4:Hid (Below w.heap.size w w4∧OwnX w4 w.heap.size (.slice A3 X.length c3') X):=⟨(HG.out.1.alloc hzo _).trans (hb4.mono (by simp;omega)),HG.out.2.step (fun k h1 _=>(hb4.block k (by simp;omega)).trans (Below.heap_alloc _ _ _ h1))⟩
    have hz4:=H4.out.1.size
    clear hb4 k0 k1 k2 k3 k4 k5 k6 k7 HG
    go_wp2_with (first | (at_builtin;go_must (refine push_X rfl _ _ rfl w.heap.size _ X rfl (H4.out.2.step (fun k h1 _=>Below.heap_alloc _ _ _ h1)) w4.heap.size 1 (f i) rfl (World.alloc_heap_new _ _) (by have:=HX.out.2;omega) (by simp;omega) ?_);intro A8 c8 w8 hO8 hg8) | fail)
    have hlo:=H4.out.2.lt
    have H8:Hid (Below w.heap.size w w8∧OwnX w8 w.heap.size (.slice A8 (X.length+1) c8) ((l.take (j+1)).map f)):=⟨(H4.out.1.alloc hz4 _).grown hg8 (by simp;omega) (fun k hk=>(hlo k hk).1),by rw [HX.out.1];exact hO8⟩
    clear hO8 hg8 hlo
    go_wp2
    exact ⟨⟨j+1,by go_num,by omega,H8⟩,by simp [intOf];omega⟩
  · have e1:decide ((j:Int)<(n:Int))=false:=by simpa using hjn
    have HF:Hid (OwnX wo w.heap.size u3 (l.map f)):=by
     have h0:=HG.out.2
     rw [List.take_of_length_le (by have:=HL.out.1;omega)] at h0
     exact h0
    go_wp2
    go_ret
    exact ⟨_,rfl,HF.out,HG.out.1⟩
end Go.Proofs
