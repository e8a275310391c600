/-
  Several texts in one (W2k W3k W4k W5k).
-/
import Derived.Test.YtknaoahokopplaaGreatDoorMgwk
namespace Go.Proofs
open Go.RowKit Go.Shelf
set_option maxRecDepth 100000
attribute [local go_sem] Oper.semAt_some
def noRuleB (m:ML):Bool := !m.bg && (!m.en && (decide (m.s1.n=0) && (decide (m.s3.n=0) && (decide (m.s4.n=0) && m.cur == 0))))
set_option maxHeartbeats 500000 in
theorem isNoRule_any (m:ML) (w:World):Calls Tryz.prog 146 #[mla m] w fun e w'=>e = .returned (.bool (noRuleB m))∧Grown w w':=by
 go_enter Tryz.func146,Tryz.ntmps146
 go_wp2
 all_goals
  go_ret
  refine ⟨?_,(Grown.refl _).alloc _⟩
 all_goals (simp [noRuleB, *];try done)
def emptyB (t:ByteArray):Bool:=t.toList == []
def stL (m:ML):Bool:=
 if m.k=3 then emptyB m.t && (decide (m.s2.n=0) && noRuleB m)
 else if m.k=1 then nameOk m.t && (decide (m.s2.n=1) && noRuleB m)
 else if m.k=2 then emptyB m.t && (decide (0≤m.cur) && decide (m.cur≤(m.s4.n:Int)))
 else false
set_option maxHeartbeats 500000 in
theorem lineS_3 (a:Int) (t:ByteArray) (bg en:Bool) (s1 s2 s3 s4:SL) (cur:Int) (w:World):Calls Tryz.prog 112 #[mla ⟨3,a,t,bg,en,s1,s2,s3,s4,cur⟩] w fun e w'=>e = .returned (.bool (emptyB t && (decide (s2.n=0) && noRuleB ⟨3,a,t,bg,en,s1,s2,s3,s4,cur⟩)))∧Grown w w':=by
 generalize hE:emptyB t=E
 have hE2:(t.toList == [])=E:=hE
 clear hE
 go_enter Tryz.func112,Tryz.ntmps112
 cases E with
 | false=>
  go_wp2
  go_ret
  exact ⟨rfl,(Grown.refl w).alloc _⟩
 | true=>
  by_cases hn:s2.n=0
  · have hn2:((s2.n:Int) == 0)=true:=by simpa using hn
    have HN:Hid (s2.n=0):=hn
    clear hn
    go_wp2_with fail
    refine (isNoRule_any ⟨3,a,t,bg,en,s1,s2,s3,s4,cur⟩ _).mono ?_
    rintro e w9 ⟨rfl,hg⟩
    have HG:Hid (Grown w w9):=((Grown.refl w).alloc _).trans hg
    clear hg
    go_wp2
    go_ret
    exact ⟨by rw [HN.out];rfl,HG.out⟩
  · have hn2:((s2.n:Int) == 0)=false:=by simpa using hn
    have HN:Hid (decide (s2.n=0)=false):=by
     show _=_
     simpa using hn
    clear hn
    go_wp2
    go_ret
    exact ⟨by rw [HN.out];rfl,(Grown.refl w).alloc _⟩
set_option maxHeartbeats 500000 in
theorem lineS_1 (a:Int) (t:ByteArray) (bg en:Bool) (s1 s2 s3 s4:SL) (cur:Int) (ht:t.size≤maxLen) (w:World):Calls Tryz.prog 112 #[mla ⟨1,a,t,bg,en,s1,s2,s3,s4,cur⟩] w fun e w'=>e = .returned (.bool (nameOk t && (decide (s2.n=1) && noRuleB ⟨1,a,t,bg,en,s1,s2,s3,s4,cur⟩)))∧Grown w w':=by
 go_enter Tryz.func112,Tryz.ntmps112
 go_wp2_with (first | (go_at_call 147;refine (isName_any _ ht _).mono ?_;rintro e w' ⟨rfl,rfl⟩) | (go_at_call 146;refine (isNoRule_any ⟨1,a,t,bg,en,s1,s2,s3,s4,cur⟩ _).mono ?_;rintro e w9 ⟨rfl,hg⟩))
 all_goals go_ret
 all_goals first
  | exact ⟨by (simp [*];first | done | omega | (intros;omega)),((Grown.refl w).alloc _).trans hg⟩
  | exact ⟨by simp [*],((Grown.refl w).alloc _).trans hg⟩
  | exact ⟨by (simp [*];first | done | omega | (intros;omega)),(Grown.refl w).alloc _⟩
  | exact ⟨by simp [*],(Grown.refl w).alloc _⟩
set_option maxHeartbeats 500000 in
theorem lineS_2 (a:Int) (t:ByteArray) (bg en:Bool) (s1 s2 s3 s4:SL) (cur:Int) (w:World):Calls Tryz.prog 112 #[mla ⟨2,a,t,bg,en,s1,s2,s3,s4,cur⟩] w fun e w'=>e = .returned (.bool (emptyB t && (decide (0≤cur) && decide (cur≤(s4.n:Int)))))∧Grown w w':=by
 go_enter Tryz.func112,Tryz.ntmps112
 go_wp2
 all_goals go_ret
 all_goals first
  | exact ⟨by (simp [emptyB, *];first | done | omega | (intros;omega)),(Grown.refl w).alloc _⟩
  | exact ⟨by simp [emptyB, *],(Grown.refl w).alloc _⟩
set_option maxHeartbeats 500000 in
theorem lineS_no (m:ML) (w:World) (h1:m.k≠1) (h2:m.k≠2) (h3:m.k≠3):Calls Tryz.prog 112 #[mla m] w fun e w'=>e = .returned (.bool false)∧Grown w w':=by
 have e1:(m.k == 1)=false:=by simpa using h1
 have e2:(m.k == 2)=false:=by simpa using h2
 have e3:(m.k == 3)=false:=by simpa using h3
 clear h1 h2 h3
 go_enter Tryz.func112,Tryz.ntmps112
 go_wp2
 go_ret
 exact ⟨rfl,(Grown.refl w).alloc _⟩
theorem lineStands_any (m:ML) (ht:m.t.size≤maxLen) (w:World):Calls Tryz.prog 112 #[mla m] w fun e w'=>e = .returned (.bool (stL m))∧Grown w w':=by
 obtain ⟨k,a,t,bg,en,s1,s2,s3,s4,cur⟩:=m
 by_cases h3:k=3
 · subst h3;exact lineS_3 a t bg en s1 s2 s3 s4 cur w
 by_cases h1:k=1
 · subst h1;exact lineS_1 a t bg en s1 s2 s3 s4 cur ht w
 by_cases h2:k=2
 · subst h2;exact lineS_2 a t bg en s1 s2 s3 s4 cur w
 have:stL ⟨k,a,t,bg,en,s1,s2,s3,s4,cur⟩=false:=by simp [stL,h1,h2,h3]
 rw [this]
 exact lineS_no _ w h1 h2 h3
end Go.Proofs
namespace Go.Proofs
open Go.RowKit Go.Shelf
set_option maxRecDepth 100000
attribute [local go_sem] Oper.semAt_some
abbrev thrE (c:Int):Ending := .panicked [{ v := .iface 30 (.int .i64 c),recovered:=false }]
def Lk (w:World) (o:Option Int) (x:Ending) (w':World):Prop:=Grown w w'∧match o with
 | none=>x = .returned (.tuple #[])
 | some c=>x=thrE c
theorem demand_any (b:Bool) (c:Int) (w:World):Calls Tryz.prog 111 #[.bool b,.int .i64 c] w fun x w'=>w'=w∧x=if b then .returned (.tuple #[]) else thrE c:=by
 cases b with
 | true=>
  go_enter Tryz.func111,Tryz.ntmps111
  go_wp2
  refine bodyPost_end (results_none rfl _ _ _) rfl ?_
  exact ⟨rfl,rfl⟩
 | false=>
  go_enter Tryz.func111,Tryz.ntmps111
  go_wp2
  exact ⟨rfl,rfl,rfl⟩
theorem shr_none (may:Nat) (hm:may4 may) (k:Int) (h8:8<k):Op.shift .shr .i64 (may:Int) .i64 k=pure (.int .i64 0):=by
 have hlt:(may:Int)<2 ^ (min k.toNat 64):=by
  have h1:(2:Int) ^ 9≤2 ^ (min k.toNat 64):=by
   have h3:(2:Nat) ^ 9≤2 ^ (min k.toNat 64):=Nat.pow_le_pow_right (by omega) (by omega)
   exact_mod_cast h3
  have h2:(may:Int)<2 ^ 9:=by rcases hm with rfl | rfl | rfl | rfl <;> decide
  omega
 have hd:(may:Int).fdiv (2 ^ (min k.toNat 64))=0:=by
  rw [Int.fdiv_eq_ediv_of_nonneg _ (Int.pow_nonneg (by decide))]
  exact Int.ediv_eq_zero_of_lt (by omega) hlt
 have hb:IntKind.i64.bits=64:=rfl
 simp [Op.shift,hb,hd]
 omega
def hasK (may:Nat) (k:Int):Bool:=decide (0<k) && (decide (k≤8) && may.testBit k.toNat)
set_option maxHeartbeats 1000000 in
theorem hasK_any (may:Nat) (hm:may4 may) (k:Int) (w:World):Calls Tryz.prog 168 #[.int .i64 may,.int .i64 k] w fun x w'=>x = .returned (.bool (hasK may k))∧w'=w:=by
 by_cases h0:0≤k∧k≤8
 · obtain ⟨n,rfl⟩:∃ n:Nat,k=(n:Int):=⟨k.toNat,by omega⟩
   have h:=has_n may n n rfl hm (by omega) w
   have e:hasK may (n:Int)=may.testBit n:=by
    unfold hasK
    by_cases hn:n=0
    · subst hn
      rcases hm with rfl | rfl | rfl | rfl <;> rfl
    · rw [decide_eq_true (by omega),decide_eq_true (by omega)]
      simp
   rw [e]
   exact h
 · have e:hasK may k=false:=by
    unfold hasK
    by_cases h1:0<k
    · rw [decide_eq_false (show ¬ k≤8 by omega)];simp
    · rw [decide_eq_false h1];rfl
   rw [e]
   by_cases h1:0<k
   · have h8:8<k:=by omega
     have d1:decide (0<k)=true:=by simpa using h1
     have hsh:=shr_none may hm k h8
     clear h0 e
     go_enter Tryz.func168,Tryz.ntmps168
     go_wp2
     go_ret
     exact ⟨rfl,rfl⟩
   · have d1:decide (0<k)=false:=by simpa using h1
     go_enter Tryz.func168,Tryz.ntmps168
     go_wp2
     go_ret
     exact ⟨rfl,rfl⟩
def itM:It→MI
 | .mk k u t ps lo hi nt key=>⟨k,u,t,none,ps.length,0,lo,hi,nt,key⟩
def It.knd:It→Int
 | .mk k _ _ _ _ _ _ _=>k
def It.rng:It→Bool
 | .mk _ _ _ _ lo hi _ _=>isRng lo hi
theorem stI_same {m:MI} {i:It} (h:Plain m i) (hn:m.n=i.ps.length):stI m=stI (itM i):=by
 obtain ⟨k,u,t,A,n,c,lo,hi,nt,key⟩:=m
 obtain ⟨k',u',t',ps,lo',hi',nt',key'⟩:=i
 obtain ⟨h1,h2,h3,h4,h5,h6,h7⟩:=h
 simp only at h1 h2 h3 h4 h5 h6 h7 hn
 subst h1 h2 h3 h4 h5 h6 h7
 subst hn
 rfl
def ckB (may:Nat) (i:It) (sub:Nat→Option Int):Option Int:=
 if hasK may i.knd && stI (itM i) then (if i.knd=5 then sub 78 else if i.knd=8 then sub 60 else if i.knd=6 then (if i.rng then none else some 51) else none) else some 50
def ckRw (f:It→Option Int) (l:List It):Option Int:=if 512<l.length then some 52 else l.findSome? f
def ckI:Nat→Nat→It→Option Int
 | 0,may,i=>ckB may i fun _=>none
 | d+1,may,i=>ckB may i fun m2=>ckRw (ckI d m2) i.ps
end Go.Proofs
namespace Go.Proofs
open Go.RowKit Go.Shelf
set_option maxRecDepth 100000
attribute [local go_sem] Oper.semAt_some
def ckC (bk bs br:Bool) (k:Int) (sub:Nat→Option Int):Option Int:=if bk && bs then (if k=5 then sub 78 else if k=8 then sub 60 else if k=6 then (if br then none else some 51) else none) else some 50
set_option maxHeartbeats 4000000 in
theorem ckItem_step (may:Nat) (hm:may4 may) (k u:Int) (t:ByteArray) (A:Option Addr) (n c:Nat) (lo hi:Int) (nt:Bool) (key:Int) (ht:t.size≤maxLen) (i:It) (hP:Plain ⟨k,u,t,A,n,c,lo,hi,nt,key⟩ i) (hn:n=i.ps.length) (sub:Nat→Option Int) (w:World)
 (hsub:∀ m2,m2=78∨m2=60→∀ W,Grown w W→Calls Tryz.prog 113 #[.slice A n c,.int .i64 (m2:Nat)] W (Lk W (sub m2))) :
 Calls Tryz.prog 148 #[mia ⟨k,u,t,A,n,c,lo,hi,nt,key⟩,.int .i64 may] w (Lk w (ckB may i sub)):=by
 have hst:=stI_same hP hn
 have hkk:i.knd=k:=by
  obtain ⟨k',u',t',ps,lo',hi',nt',key'⟩:=i
  exact hP.1.symm
 have hrr:i.rng=isRng lo hi:=by
  obtain ⟨k',u',t',ps,lo',hi',nt',key'⟩:=i
  obtain ⟨h1,h2,h3,h4,h5,h6,h7⟩:=hP
  simp only at h4 h5
  rw [It.rng,h4,h5]
 obtain ⟨bk,hbk⟩:∃ bk,hasK may k=bk:=⟨_,rfl⟩
 obtain ⟨bs,hbs⟩:∃ bs,stI ⟨k,u,t,A,n,c,lo,hi,nt,key⟩=bs:=⟨_,rfl⟩
 obtain ⟨br,hbr⟩:∃ br,isRng lo hi=br:=⟨_,rfl⟩
 obtain ⟨S,hS⟩:∃ S,ckB may i sub=S:=⟨_,rfl⟩
 have HC:Hid (S=ckC bk bs br k sub):=by
  show _=_
  rw [←hS]
  unfold ckB ckC
  rw [hkk,hrr,←hst,hbk,hbs,hbr]
 have H168:Hid (∀ W,Calls Tryz.prog 168 #[.int .i64 may,.int .i64 k] W fun x w'=>x = .returned (.bool bk)∧w'=W):=fun W=>by
  have:=hasK_any may hm k W
  rw [hbk] at this
  exact this
 have H171:Hid (∀ W,Calls Tryz.prog 171 #[mia ⟨k,u,t,A,n,c,lo,hi,nt,key⟩] W fun x w'=>x = .returned (.bool bs)∧Grown W w'):=fun W=>by
  have:=itemStands_any ⟨k,u,t,A,n,c,lo,hi,nt,key⟩ ht W
  rw [hbs] at this
  exact this
 have H172:Hid (∀ W,Calls Tryz.prog 172 #[.int .i64 lo,.int .i64 hi] W fun x w'=>x = .returned (.bool br)∧w'=W):=fun W=>by
  have:=isRange_any lo hi W
  rw [hbr] at this
  exact this
 have HSUB:Hid (∀ m2,m2=78∨m2=60→∀ W,Grown w W→Calls Tryz.prog 113 #[.slice A n c,.int .i64 (m2:Nat)] W (Lk W (sub m2))):=hsub
 have HG0:Hid (Grown w (w.alloc (.cells (mi1 ⟨k,u,t,A,n,c,lo,hi,nt,key⟩).toArray 58))):=(Grown.refl w).alloc _
 rw [hS]
 clear hS hst hkk hrr hbk hbs hbr hsub hP hn hm ht
 go_enter Tryz.func148,Tryz.ntmps148
 go_wp2_with fail
 refine (H168.out _).mono ?_
 rintro x w1 ⟨rfl,rfl⟩
 cases bk with
 | false=>
  have HS:Hid (S=some 50):=HC.out
  clear HC
  go_wp2_with fail
  refine (demand_any false 50 _).mono ?_
  rintro x w2 ⟨rfl,rfl⟩
  exact ⟨rfl,HG0.out,by rw [HS.out]⟩
 | true=>
  go_wp2_with fail
  refine (H171.out _).mono ?_
  rintro x w2 ⟨rfl,hg2⟩
  have HG2:Hid (Grown w w2):=HG0.out.trans hg2
  have hib:IB w2 w.heap.size ⟨k,u,t,A,n,c,lo,hi,nt,key⟩:=(hg2.below.block _ (by simp)).trans (World.alloc_heap_new _ _)
  obtain ⟨c0,c1,c2,c3,c4,c5,c6,c7⟩:=hib.cells
  clear hg2 hib
  cases bs with
  | false=>
   have HS:Hid (S=some 50):=HC.out
   clear HC
   go_wp2_with fail
   refine (demand_any false 50 _).mono ?_
   rintro x w3 ⟨rfl,rfl⟩
   exact ⟨rfl,HG2.out,by first | (rw [HS.out];done) | (rw [HS.out];rfl)⟩
  | true=>
   go_wp2_with fail
   refine (demand_any true 50 _).mono ?_
   rintro x w3 ⟨rfl,rfl⟩
   rw [if_pos rfl]
   by_cases h5:k=5
   · have HS:Hid (S=sub 78):=by
      show _=_
      rw [HC.out,ckC,if_pos (show (true && true)=true from rfl),if_pos h5]
     have e5:(k == 5)=true:=by simpa using h5
     clear HC h5
     go_wp2_with fail
     refine (HSUB.out 78 (.inl rfl) _ HG2.out).mono ?_
     intro x w4 hx
     obtain ⟨hg4,hx⟩:=hx
     cases hs:sub 78 with
     | some cd=>
      rw [hs] at hx
      simp only at hx
      subst hx
      exact ⟨rfl,HG2.out.trans hg4,by rw [HS.out,hs]⟩
     | none=>
      rw [hs] at hx
      simp only at hx
      subst hx
      have HF:Hid (Grown w w4∧S=none):=⟨HG2.out.trans hg4,by rw [HS.out,hs]⟩
      clear hs hg4
      go_wp2
      refine bodyPost_end (results_none rfl _ _ _) rfl ?_
      exact ⟨HF.out.1,by rw [HF.out.2]⟩
   have e5:(k == 5)=false:=by simpa using h5
   by_cases h8:k=8
   · have HS:Hid (S=sub 60):=by
      show _=_
      rw [HC.out,ckC,if_pos (show (true && true)=true from rfl),if_neg h5,if_pos h8]
     have e8:(k == 8)=true:=by simpa using h8
     clear HC h5 h8
     go_wp2_with fail
     refine (HSUB.out 60 (.inr rfl) _ HG2.out).mono ?_
     intro x w4 hx
     obtain ⟨hg4,hx⟩:=hx
     cases hs:sub 60 with
     | some cd=>
      rw [hs] at hx
      simp only at hx
      subst hx
      exact ⟨rfl,HG2.out.trans hg4,by rw [HS.out,hs]⟩
     | none=>
      rw [hs] at hx
      simp only at hx
      subst hx
      have HF:Hid (Grown w w4∧S=none):=⟨HG2.out.trans hg4,by rw [HS.out,hs]⟩
      clear hs hg4
      go_wp2
      refine bodyPost_end (results_none rfl _ _ _) rfl ?_
      exact ⟨HF.out.1,by rw [HF.out.2]⟩
   have e8:(k == 8)=false:=by simpa using h8
   by_cases h6:k=6
   · have HS:Hid (S=if br then none else some 51):=by
      show _=_
      rw [HC.out,ckC,if_pos (show (true && true)=true from rfl),if_neg h5,if_neg h8,if_pos h6]
     have e6:(k == 6)=true:=by simpa using h6
     clear HC h5 h8 h6
     go_wp2_with fail
     refine (H172.out _).mono ?_
     rintro x w4 ⟨rfl,rfl⟩
     cases br with
     | false=>
      go_wp2_with fail
      refine (demand_any false 51 _).mono ?_
      rintro x w5 ⟨rfl,rfl⟩
      exact ⟨rfl,HG2.out,by first | (rw [HS.out];done) | (rw [HS.out];rfl)⟩
     | true=>
      go_wp2_with fail
      refine (demand_any true 51 _).mono ?_
      rintro x w5 ⟨rfl,rfl⟩
      rw [if_pos rfl]
      go_wp2
      refine bodyPost_end (results_none rfl _ _ _) rfl ?_
      exact ⟨HG2.out,by rw [HS.out];rfl⟩
   · have HS:Hid (S=none):=by
      show _=_
      rw [HC.out,ckC,if_pos (show (true && true)=true from rfl),if_neg h5,if_neg h8,if_neg h6]
     have e6:(k == 6)=false:=by simpa using h6
     clear HC h5 h8 h6
     go_wp2
     refine bodyPost_end (results_none rfl _ _ _) rfl ?_
     exact ⟨HG2.out,by rw [HS.out]⟩
end Go.Proofs
namespace Go.Proofs
open Go.RowKit Go.Shelf
set_option maxRecDepth 100000
attribute [local go_sem] Oper.semAt_some
theorem find_at {α β:Type} (f:α→Option β):∀ (l:List α) (j:Nat) (x:α) (y:β),(l.take j).findSome? f=none→l[j]? = some x→f x=some y→l.findSome? f=some y
 | [],j,x,y,_,h,_=>by simp at h
 | a::l,0,x,y,_,h,hf=>by
  simp at h
  subst h
  simp [List.findSome?,hf]
 | a::l,j+1,x,y,h0,h,hf=>by
  simp only [List.take_succ_cons,List.findSome?] at h0
  cases ha:f a with
  | some z=>rw [ha] at h0;cases h0
  | none=>
   rw [ha] at h0
   simp only [List.findSome?,ha]
   exact find_at f l j x y h0 (by simpa using h) hf
theorem find_more {α β:Type} (f:α→Option β):∀ (l:List α) (j:Nat) (x:α),(l.take j).findSome? f=none→l[j]? = some x→f x=none→(l.take (j+1)).findSome? f=none
 | [],j,x,_,h,_=>by simp at h
 | a::l,0,x,_,h,hf=>by
  simp at h
  subst h
  simp [List.findSome?,hf]
 | a::l,j+1,x,h0,h,hf=>by
  simp only [List.take_succ_cons,List.findSome?] at h0 ⊢
  cases ha:f a with
  | some z=>rw [ha] at h0;cases h0
  | none=>
   rw [ha] at h0
   exact find_more f l j x h0 (by simpa using h) hf
theorem ReadsI.cells {w:World} {g z:Nat} {ms:List MI} (h:ReadsI w g z ms) {j:Nat} {m:MI} (hj:ms[j]? = some m) :
 w.cell? ⟨g,z+j*8,none⟩=some (.int .i64 m.k)∧w.cell? ⟨g,z+j*8+1,none⟩=some (.int .i64 m.u)∧w.cell? ⟨g,z+j*8+2,none⟩=some (.string m.t)∧w.cell? ⟨g,z+j*8+3,none⟩=some (.slice m.A m.n m.c)∧w.cell? ⟨g,z+j*8+4,none⟩=some (.int .i64 m.lo)∧w.cell? ⟨g,z+j*8+5,none⟩=some (.int .i64 m.hi)∧w.cell? ⟨g,z+j*8+6,none⟩=some (.bool m.nt)∧w.cell? ⟨g,z+j*8+7,none⟩=some (.int .i64 m.key):=
 ⟨h j m hj 0 _ rfl,h j m hj 1 _ rfl,h j m hj 2 _ rfl,h j m hj 3 _ rfl,h j m hj 4 _ rfl,h j m hj 5 _ rfl,h j m hj 6 _ rfl,h j m hj 7 _ rfl⟩
set_option maxHeartbeats 4000000 in
theorem ckRow_step (may:Nat) (f:It→Option Int) (w:World) (A:Option Addr) (n c:Nat) (ms:List MI) (l:List It) (hR:RdR w A n ms) (hl:ms.length=l.length)
 (hI:∀ (j:Nat) (m:MI) (i:It),ms[j]? = some m→l[j]? = some i→∀ W,Grown w W→Calls Tryz.prog 148 #[mia m,.int .i64 may] W (Lk W (f i))) :
 Calls Tryz.prog 113 #[.slice A n c,.int .i64 may] w (Lk w (ckRw f l)):=by
 obtain ⟨hn,hnm,hr⟩:=hR
 have HI:Hid (∀ (j:Nat) (m:MI) (i:It),ms[j]? = some m→l[j]? = some i→∀ W,Grown w W→Calls Tryz.prog 148 #[mia m,.int .i64 may] W (Lk W (f i))):=hI
 obtain ⟨S,hS⟩:∃ S,ckRw f l=S:=⟨_,rfl⟩
 rw [hS]
 clear hI
 by_cases h512:512<n
 · have d1:decide ((n:Int)≤512)=false:=by simp;omega
   have HS:Hid (S=some 52):=by
    show _=_
    rw [←hS,ckRw,if_pos (by omega)]
   clear hS hr hn hl
   go_enter Tryz.func113,Tryz.ntmps113
   go_wp2_with fail
   refine (demand_any false 52 _).mono ?_
   rintro x w2 ⟨rfl,rfl⟩
   exact ⟨rfl,Grown.refl _,by rw [HS.out]⟩
 · have d1:decide ((n:Int)≤512)=true:=by simp;omega
   have HS:Hid (S=l.findSome? f):=by
    show _=_
    rw [←hS,ckRw,if_neg (by omega)]
   have HL:Hid (n=l.length∧n=ms.length∧(n=0∨∃ g z,A=some ⟨g,z,none⟩∧ReadsI w g z ms)):=⟨by omega,hn,hr⟩
   have hn512:n≤512:=by omega
   clear hS hr hn hl h512
   go_enter Tryz.func113,Tryz.ntmps113
   go_wp2_with fail
   refine (demand_any true 52 _).mono ?_
   rintro x w2 ⟨rfl,rfl⟩
   rw [if_pos rfl]
   go_wp2_with fail
   go_loopw [12] (fun v12 wr=>∃ j:Nat,v12 = .int .i64 j∧j≤n∧Hid (Grown w2 wr∧(l.take j).findSome? f=none)) (fun v12 _=>n - (intOf v12).toNat)
   case atStart=>exact ⟨0,rfl,by omega,Grown.refl _,rfl⟩
   case round=>
    obtain ⟨j,rfl,hj,HG⟩:=hrel
    obtain ⟨wo,rfl⟩:∃ wo,wo=wr:=⟨_,rfl⟩
    by_cases hjn:j<n
    · have e1:decide ((j:Int)<(n:Int))=true:=by simpa using hjn
      obtain ⟨m,hm⟩:∃ m,ms[j]? = some m:=⟨ms[j]'(by have:=HL.out.2.1;omega),List.getElem?_eq_getElem _⟩
      obtain ⟨i,hi⟩:∃ i,l[j]? = some i:=⟨l[j]'(by have:=HL.out.1;omega),List.getElem?_eq_getElem _⟩
      obtain ⟨g,z,hA,hr⟩:=HL.out.2.2.resolve_left (by omega)
      subst hA
      obtain ⟨c0,c1,c2,c3,c4,c5,c6,c7⟩:=hr.cells hm
      have k0:=HG.out.1.cellv c0
      have k1:=HG.out.1.cellv c1
      have k2:=HG.out.1.cellv c2
      have k3:=HG.out.1.cellv c3
      have k4:=HG.out.1.cellv c4
      have k5:=HG.out.1.cellv c5
      have k6:=HG.out.1.cellv c6
      have k7:=HG.out.1.cellv c7
      have HM:Hid (ms[j]? = some m∧l[j]? = some i):=⟨hm,hi⟩
      clear c0 c1 c2 c3 c4 c5 c6 c7 hm hi hr
      go_wp2_with fail
      refine (HI.out j m i HM.out.1 HM.out.2 _ (HG.out.1.alloc _)).mono ?_
      intro x w4 hx
      obtain ⟨hg4,hx⟩:=hx
      have HG4:Hid (Grown w2 w4):=(HG.out.1.alloc _).trans hg4
      cases hs:f i with
      | some cd=>
       rw [hs] at hx
       simp only at hx
       subst hx
       exact ⟨rfl,HG4.out,by rw [HS.out,find_at f l j i cd HG.out.2 HM.out.2 hs]⟩
      | none=>
       rw [hs] at hx
       simp only at hx
       subst hx
       have HF:Hid ((l.take (j+1)).findSome? f=none):=find_more f l j i HG.out.2 HM.out.2 hs
       clear hs hg4 k0 k1 k2 k3 k4 k5 k6 k7
       go_wp2
       exact ⟨⟨j+1,by go_num,by omega,HG4.out,HF.out⟩,by simp [intOf];omega⟩
    · have e1:decide ((j:Int)<(n:Int))=false:=by simpa using hjn
      have HF:Hid (S=none):=by
       show _=_
       have h0:=HG.out.2
       rw [List.take_of_length_le (by have:=HL.out.1;omega)] at h0
       rw [HS.out,h0]
      go_wp2
      refine bodyPost_end (results_none rfl _ _ _) rfl ?_
      exact ⟨HG.out.1,by rw [HF.out]⟩
end Go.Proofs
