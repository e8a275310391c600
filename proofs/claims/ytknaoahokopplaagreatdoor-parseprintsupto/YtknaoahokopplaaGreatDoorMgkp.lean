/-
  Several texts in one (W1p W2p W3p).
-/
import Derived.Test.YtknaoahokopplaaGreatDoorMgjp
import Derived.Test.YtknaoahokopplaaGreatDoorJhp
namespace Go.Proofs
open Go.RowKit Go.Shelf
set_option maxRecDepth 100000
attribute [local go_sem] Oper.semAt_some
theorem grown2 {w W:World} (o o2:Obj) (h:Grown ((w.alloc o).alloc o2) W):Grown w W:=(((Grown.refl w).alloc o).alloc o2).trans h
set_option maxHeartbeats 4000000 in
theorem stands_1 (u:Int) (t:ByteArray) (A:Option Addr) (n c:Nat) (lo hi:Int) (nt:Bool) (key:Int) (w:World):Calls Tryz.prog 171 #[mia ⟨1,u,t,A,n,c,lo,hi,nt,key⟩] w fun e w'=>e = .returned (.bool (decide (0<wd u) && blankB ⟨1,0,t,A,n,c,lo,hi,nt,key⟩))∧Grown w w':=by
 go_enter Tryz.func171,Tryz.ntmps171
 go_wp2_with (first | (go_at_call 189;refine (unitB_any _ _).mono ?_;rintro e w' ⟨rfl,rfl⟩) | (go_at_call 190;refine (copyB_any _ _).mono ?_;rintro e w' ⟨rfl,rfl⟩) | (go_at_call 191;refine (isBlank_any ⟨1,0,t,A,n,c,lo,hi,nt,key⟩ _).mono ?_;rintro e w9 ⟨rfl,hg⟩))
 all_goals go_ret
 all_goals first
  | exact ⟨by (simp [*];first | done | omega | (intros;omega)),grown2 _ _ hg⟩
  | exact ⟨by simp [*],grown2 _ _ hg⟩
  | exact ⟨by (simp [*];first | done | omega | (intros;omega)),((Grown.refl w).alloc _).alloc _⟩
  | exact ⟨by simp [*],((Grown.refl w).alloc _).alloc _⟩
set_option maxHeartbeats 4000000 in
theorem stands_2 (u:Int) (t:ByteArray) (A:Option Addr) (n c:Nat) (lo hi:Int) (nt:Bool) (key:Int) (ht:t.size≤maxLen) (w:World):Calls Tryz.prog 171 #[mia ⟨2,u,t,A,n,c,lo,hi,nt,key⟩] w fun e w'=>e = .returned (.bool (nameOk t && blankB ⟨2,u,⟨#[]⟩,A,n,c,lo,hi,nt,key⟩))∧Grown w w':=by
 go_enter Tryz.func171,Tryz.ntmps171
 go_wp2_with (first | (go_at_call 189;refine (unitB_any _ _).mono ?_;rintro e w' ⟨rfl,rfl⟩) | (go_at_call 190;refine (copyB_any _ _).mono ?_;rintro e w' ⟨rfl,rfl⟩) | (go_at_call 147;refine (isName_any _ ht _).mono ?_;rintro e w' ⟨rfl,rfl⟩) | (go_at_call 191;refine (isBlank_any ⟨2,u,⟨#[]⟩,A,n,c,lo,hi,nt,key⟩ _).mono ?_;rintro e w9 ⟨rfl,hg⟩))
 all_goals go_ret
 all_goals first
  | exact ⟨by (simp [*];first | done | omega | (intros;omega)),grown2 _ _ hg⟩
  | exact ⟨by simp [*],grown2 _ _ hg⟩
  | exact ⟨by (simp [*];first | done | omega | (intros;omega)),((Grown.refl w).alloc _).alloc _⟩
  | exact ⟨by simp [*],((Grown.refl w).alloc _).alloc _⟩
set_option maxHeartbeats 4000000 in
theorem stands_3 (u:Int) (t:ByteArray) (A:Option Addr) (n c:Nat) (lo hi:Int) (nt:Bool) (key:Int) (ht:t.size≤maxLen) (w:World):Calls Tryz.prog 171 #[mia ⟨3,u,t,A,n,c,lo,hi,nt,key⟩] w fun e w'=>e = .returned (.bool (nameOk t && blankB ⟨3,u,⟨#[]⟩,A,n,c,lo,hi,nt,key⟩))∧Grown w w':=by
 go_enter Tryz.func171,Tryz.ntmps171
 go_wp2_with (first | (go_at_call 189;refine (unitB_any _ _).mono ?_;rintro e w' ⟨rfl,rfl⟩) | (go_at_call 190;refine (copyB_any _ _).mono ?_;rintro e w' ⟨rfl,rfl⟩) | (go_at_call 147;refine (isName_any _ ht _).mono ?_;rintro e w' ⟨rfl,rfl⟩) | (go_at_call 191;refine (isBlank_any ⟨3,u,⟨#[]⟩,A,n,c,lo,hi,nt,key⟩ _).mono ?_;rintro e w9 ⟨rfl,hg⟩))
 all_goals go_ret
 all_goals first
  | exact ⟨by (simp [*];first | done | omega | (intros;omega)),grown2 _ _ hg⟩
  | exact ⟨by simp [*],grown2 _ _ hg⟩
  | exact ⟨by (simp [*];first | done | omega | (intros;omega)),((Grown.refl w).alloc _).alloc _⟩
  | exact ⟨by simp [*],((Grown.refl w).alloc _).alloc _⟩
set_option maxHeartbeats 4000000 in
theorem stands_5 (u:Int) (t:ByteArray) (A:Option Addr) (n c:Nat) (lo hi:Int) (nt:Bool) (key:Int) (w:World):Calls Tryz.prog 171 #[mia ⟨5,u,t,A,n,c,lo,hi,nt,key⟩] w fun e w'=>e = .returned (.bool (true && blankB ⟨5,u,t,none,0,0,lo,hi,false,key⟩))∧Grown w w':=by
 go_enter Tryz.func171,Tryz.ntmps171
 go_wp2_with (first | (go_at_call 189;refine (unitB_any _ _).mono ?_;rintro e w' ⟨rfl,rfl⟩) | (go_at_call 190;refine (copyB_any _ _).mono ?_;rintro e w' ⟨rfl,rfl⟩) | (go_at_call 191;refine (isBlank_any ⟨5,u,t,none,0,0,lo,hi,false,key⟩ _).mono ?_;rintro e w9 ⟨rfl,hg⟩))
 all_goals go_ret
 all_goals first
  | exact ⟨by (simp [*];first | done | omega | (intros;omega)),grown2 _ _ hg⟩
  | exact ⟨by simp [*],grown2 _ _ hg⟩
  | exact ⟨by (simp [*];first | done | omega | (intros;omega)),((Grown.refl w).alloc _).alloc _⟩
  | exact ⟨by simp [*],((Grown.refl w).alloc _).alloc _⟩
set_option maxHeartbeats 4000000 in
theorem stands_6 (u:Int) (t:ByteArray) (A:Option Addr) (n c:Nat) (lo hi:Int) (nt:Bool) (key:Int) (w:World):Calls Tryz.prog 171 #[mia ⟨6,u,t,A,n,c,lo,hi,nt,key⟩] w fun e w'=>e = .returned (.bool ((decide (0<wd lo) && decide (0<wd hi)) && blankB ⟨6,u,t,A,n,c,0,0,nt,key⟩))∧Grown w w':=by
 go_enter Tryz.func171,Tryz.ntmps171
 go_wp2_with (first | (go_at_call 189;refine (unitB_any _ _).mono ?_;rintro e w' ⟨rfl,rfl⟩) | (go_at_call 190;refine (copyB_any _ _).mono ?_;rintro e w' ⟨rfl,rfl⟩) | (go_at_call 191;refine (isBlank_any ⟨6,u,t,A,n,c,0,0,nt,key⟩ _).mono ?_;rintro e w9 ⟨rfl,hg⟩))
 all_goals go_ret
 all_goals first
  | exact ⟨by (simp [*];first | done | omega | (intros;omega)),grown2 _ _ hg⟩
  | exact ⟨by simp [*],grown2 _ _ hg⟩
  | exact ⟨by (simp [*];first | done | omega | (intros;omega)),((Grown.refl w).alloc _).alloc _⟩
  | exact ⟨by simp [*],((Grown.refl w).alloc _).alloc _⟩
set_option maxHeartbeats 4000000 in
theorem stands_7 (u:Int) (t:ByteArray) (A:Option Addr) (n c:Nat) (lo hi:Int) (nt:Bool) (key:Int) (w:World):Calls Tryz.prog 171 #[mia ⟨7,u,t,A,n,c,lo,hi,nt,key⟩] w fun e w'=>e = .returned (.bool (cpB key && blankB ⟨7,u,t,A,n,c,lo,hi,nt,0⟩))∧Grown w w':=by
 go_enter Tryz.func171,Tryz.ntmps171
 go_wp2_with (first | (go_at_call 189;refine (unitB_any _ _).mono ?_;rintro e w' ⟨rfl,rfl⟩) | (go_at_call 190;refine (copyB_any _ _).mono ?_;rintro e w' ⟨rfl,rfl⟩) | (go_at_call 191;refine (isBlank_any ⟨7,u,t,A,n,c,lo,hi,nt,0⟩ _).mono ?_;rintro e w9 ⟨rfl,hg⟩))
 all_goals go_ret
 all_goals first
  | exact ⟨by (simp [*];first | done | omega | (intros;omega)),grown2 _ _ hg⟩
  | exact ⟨by simp [*],grown2 _ _ hg⟩
  | exact ⟨by (simp [*];first | done | omega | (intros;omega)),((Grown.refl w).alloc _).alloc _⟩
  | exact ⟨by simp [*],((Grown.refl w).alloc _).alloc _⟩
set_option maxHeartbeats 4000000 in
theorem stands_8 (u:Int) (t:ByteArray) (A:Option Addr) (n c:Nat) (lo hi:Int) (nt:Bool) (key:Int) (w:World):Calls Tryz.prog 171 #[mia ⟨8,u,t,A,n,c,lo,hi,nt,key⟩] w fun e w'=>e = .returned (.bool ((cpB key && decide (n=1)) && blankB ⟨8,u,t,none,0,0,lo,hi,nt,0⟩))∧Grown w w':=by
 go_enter Tryz.func171,Tryz.ntmps171
 go_wp2_with (first | (go_at_call 189;refine (unitB_any _ _).mono ?_;rintro e w' ⟨rfl,rfl⟩) | (go_at_call 190;refine (copyB_any _ _).mono ?_;rintro e w' ⟨rfl,rfl⟩) | (go_at_call 191;refine (isBlank_any ⟨8,u,t,none,0,0,lo,hi,nt,0⟩ _).mono ?_;rintro e w9 ⟨rfl,hg⟩))
 all_goals go_ret
 all_goals first
  | exact ⟨by (simp [*];first | done | omega | (intros;omega)),grown2 _ _ hg⟩
  | exact ⟨by simp [*],grown2 _ _ hg⟩
  | exact ⟨by (simp [*];first | done | omega | (intros;omega)),((Grown.refl w).alloc _).alloc _⟩
  | exact ⟨by simp [*],((Grown.refl w).alloc _).alloc _⟩
set_option maxHeartbeats 4000000 in
theorem stands_else (k:Int) (u:Int) (t:ByteArray) (A:Option Addr) (n c:Nat) (lo hi:Int) (nt:Bool) (key:Int) (w:World) (h1:k≠1) (h2:k≠2) (h3:k≠3) (h5:k≠5) (h6:k≠6) (h7:k≠7) (h8:k≠8):Calls Tryz.prog 171 #[mia ⟨k,u,t,A,n,c,lo,hi,nt,key⟩] w fun e w'=>e = .returned (.bool (blankB ⟨k,u,t,A,n,c,lo,hi,nt,key⟩))∧Grown w w':=by
 have e1:(k == 1)=false:=by simpa using h1
 have e2:(k == 2)=false:=by simpa using h2
 have e3:(k == 3)=false:=by simpa using h3
 have e5:(k == 5)=false:=by simpa using h5
 have e6:(k == 6)=false:=by simpa using h6
 have e7:(k == 7)=false:=by simpa using h7
 have e8:(k == 8)=false:=by simpa using h8
 clear h1 h2 h3 h5 h6 h7 h8
 go_enter Tryz.func171,Tryz.ntmps171
 go_wp2_with fail
 refine (isBlank_any ⟨k,u,t,A,n,c,lo,hi,nt,key⟩ _).mono ?_
 rintro e w9 ⟨rfl,hg⟩
 have HG:Hid (Grown w w9):=grown2 _ _ hg
 clear hg
 go_wp2
 go_ret
 exact ⟨rfl,HG.out⟩
def stI (m:MI):Bool:=
 if m.k=1 then decide (0<wd m.u) && blankB { m with u:=0 }
 else if m.k=2∨m.k=3 then nameOk m.t && blankB { m with t:=⟨#[]⟩ }
 else if m.k=5 then true && blankB { m with nt:=false,A:=none,n:=0,c:=0 }
 else if m.k=6 then (decide (0<wd m.lo) && decide (0<wd m.hi)) && blankB { m with lo:=0,hi:=0 }
 else if m.k=7 then cpB m.key && blankB { m with key:=0 }
 else if m.k=8 then (cpB m.key && decide (m.n=1)) && blankB { m with key:=0,A:=none,n:=0,c:=0 }
 else blankB m
theorem itemStands_any (m:MI) (ht:m.t.size≤maxLen) (w:World):Calls Tryz.prog 171 #[mia m] w fun e w'=>e = .returned (.bool (stI m))∧Grown w w':=by
 obtain ⟨k,u,t,A,n,c,lo,hi,nt,key⟩:=m
 by_cases h1:k=1
 · subst h1;exact stands_1 u t A n c lo hi nt key w
 by_cases h2:k=2
 · subst h2;exact stands_2 u t A n c lo hi nt key ht w
 by_cases h3:k=3
 · subst h3;exact stands_3 u t A n c lo hi nt key ht w
 by_cases h5:k=5
 · subst h5;exact stands_5 u t A n c lo hi nt key w
 by_cases h6:k=6
 · subst h6;exact stands_6 u t A n c lo hi nt key w
 by_cases h7:k=7
 · subst h7;exact stands_7 u t A n c lo hi nt key w
 by_cases h8:k=8
 · subst h8;exact stands_8 u t A n c lo hi nt key w
 have:stI ⟨k,u,t,A,n,c,lo,hi,nt,key⟩=blankB ⟨k,u,t,A,n,c,lo,hi,nt,key⟩:=by simp [stI,h1,h2,h3,h5,h6,h7,h8]
 rw [this]
 exact stands_else k u t A n c lo hi nt key w h1 h2 h3 h5 h6 h7 h8
end Go.Proofs
namespace Go.Proofs
open Go.RowKit Go.Shelf
set_option maxRecDepth 100000
attribute [local go_sem] Oper.semAt_some
def noRuleB (m:ML):Bool := !m.bg && (!m.en && (decide (m.s1.n=0) && (decide (m.s3.n=0) && (decide (m.s4.n=0) && m.cur == 0))))
set_option maxHeartbeats 500000 in
theorem isNoRule_any (m:ML) (w:World):Calls Tryz.prog 146 #[mla m] w fun e w'=>e = .returned (.bool (noRuleB m))∧Grown w w':=by
 go_enter Tryz.func146,Tryz.ntmps146
 go_wp2
 all_goals
  go_ret
  refine ⟨?_,(Grown.refl _).alloc _⟩
 all_goals (simp [noRuleB, *];try done)
def emptyB (t:ByteArray):Bool:=t.toList == []
def stL (m:ML):Bool:=
 if m.k=3 then emptyB m.t && (decide (m.s2.n=0) && noRuleB m)
 else if m.k=1 then nameOk m.t && (decide (m.s2.n=1) && noRuleB m)
 else if m.k=2 then emptyB m.t && (decide (0≤m.cur) && decide (m.cur≤(m.s4.n:Int)))
 else false
set_option maxHeartbeats 500000 in
theorem lineS_3 (a:Int) (t:ByteArray) (bg en:Bool) (s1 s2 s3 s4:SL) (cur:Int) (w:World):Calls Tryz.prog 112 #[mla ⟨3,a,t,bg,en,s1,s2,s3,s4,cur⟩] w fun e w'=>e = .returned (.bool (emptyB t && (decide (s2.n=0) && noRuleB ⟨3,a,t,bg,en,s1,s2,s3,s4,cur⟩)))∧Grown w w':=by
 generalize hE:emptyB t=E
 have hE2:(t.toList == [])=E:=hE
 clear hE
 go_enter Tryz.func112,Tryz.ntmps112
 cases E with
 | false=>
  go_wp2
  go_ret
  exact ⟨rfl,(Grown.refl w).alloc _⟩
 | true=>
  by_cases hn:s2.n=0
  · have hn2:((s2.n:Int) == 0)=true:=by simpa using hn
    have HN:Hid (s2.n=0):=hn
    clear hn
    go_wp2_with fail
    refine (isNoRule_any ⟨3,a,t,bg,en,s1,s2,s3,s4,cur⟩ _).mono ?_
    rintro e w9 ⟨rfl,hg⟩
    have HG:Hid (Grown w w9):=((Grown.refl w).alloc _).trans hg
    clear hg
    go_wp2
    go_ret
    exact ⟨by rw [HN.out];rfl,HG.out⟩
  · have hn2:((s2.n:Int) == 0)=false:=by simpa using hn
    have HN:Hid (decide (s2.n=0)=false):=by
     show _=_
     simpa using hn
    clear hn
    go_wp2
    go_ret
    exact ⟨by rw [HN.out];rfl,(Grown.refl w).alloc _⟩
set_option maxHeartbeats 500000 in
theorem lineS_1 (a:Int) (t:ByteArray) (bg en:Bool) (s1 s2 s3 s4:SL) (cur:Int) (ht:t.size≤maxLen) (w:World):Calls Tryz.prog 112 #[mla ⟨1,a,t,bg,en,s1,s2,s3,s4,cur⟩] w fun e w'=>e = .returned (.bool (nameOk t && (decide (s2.n=1) && noRuleB ⟨1,a,t,bg,en,s1,s2,s3,s4,cur⟩)))∧Grown w w':=by
 go_enter Tryz.func112,Tryz.ntmps112
 go_wp2_with (first | (go_at_call 147;refine (isName_any _ ht _).mono ?_;rintro e w' ⟨rfl,rfl⟩) | (go_at_call 146;refine (isNoRule_any ⟨1,a,t,bg,en,s1,s2,s3,s4,cur⟩ _).mono ?_;rintro e w9 ⟨rfl,hg⟩))
 all_goals go_ret
 all_goals first
  | exact ⟨by (simp [*];first | done | omega | (intros;omega)),((Grown.refl w).alloc _).trans hg⟩
  | exact ⟨by simp [*],((Grown.refl w).alloc _).trans hg⟩
  | exact ⟨by (simp [*];first | done | omega | (intros;omega)),(Grown.refl w).alloc _⟩
  | exact ⟨by simp [*],(Grown.refl w).alloc _⟩
set_option maxHeartbeats 500000 in
theorem lineS_2 (a:Int) (t:ByteArray) (bg en:Bool) (s1 s2 s3 s4:SL) (cur:Int) (w:World):Calls Tryz.prog 112 #[mla ⟨2,a,t,bg,en,s1,s2,s3,s4,cur⟩] w fun e w'=>e = .returned (.bool (emptyB t && (decide (0≤cur) && decide (cur≤(s4.n:Int)))))∧Grown w w':=by
 go_enter Tryz.func112,Tryz.ntmps112
 go_wp2
 all_goals go_ret
 all_goals first
  | exact ⟨by (simp [emptyB, *];first | done | omega | (intros;omega)),(Grown.refl w).alloc _⟩
  | exact ⟨by simp [emptyB, *],(Grown.refl w).alloc _⟩
set_option maxHeartbeats 500000 in
theorem lineS_no (m:ML) (w:World) (h1:m.k≠1) (h2:m.k≠2) (h3:m.k≠3):Calls Tryz.prog 112 #[mla m] w fun e w'=>e = .returned (.bool false)∧Grown w w':=by
 have e1:(m.k == 1)=false:=by simpa using h1
 have e2:(m.k == 2)=false:=by simpa using h2
 have e3:(m.k == 3)=false:=by simpa using h3
 clear h1 h2 h3
 go_enter Tryz.func112,Tryz.ntmps112
 go_wp2
 go_ret
 exact ⟨rfl,(Grown.refl w).alloc _⟩
theorem lineStands_any (m:ML) (ht:m.t.size≤maxLen) (w:World):Calls Tryz.prog 112 #[mla m] w fun e w'=>e = .returned (.bool (stL m))∧Grown w w':=by
 obtain ⟨k,a,t,bg,en,s1,s2,s3,s4,cur⟩:=m
 by_cases h3:k=3
 · subst h3;exact lineS_3 a t bg en s1 s2 s3 s4 cur w
 by_cases h1:k=1
 · subst h1;exact lineS_1 a t bg en s1 s2 s3 s4 cur ht w
 by_cases h2:k=2
 · subst h2;exact lineS_2 a t bg en s1 s2 s3 s4 cur w
 have:stL ⟨k,a,t,bg,en,s1,s2,s3,s4,cur⟩=false:=by simp [stL,h1,h2,h3]
 rw [this]
 exact lineS_no _ w h1 h2 h3
end Go.Proofs
namespace Go.Proofs
open Go.RowKit Go.Shelf
set_option maxRecDepth 100000
attribute [local go_sem] Oper.semAt_some
abbrev thrE (c:Int):Ending := .panicked [{ v := .iface 30 (.int .i64 c),recovered:=false }]
def Lk (w:World) (o:Option Int) (x:Ending) (w':World):Prop:=Grown w w'∧match o with
 | none=>x = .returned (.tuple #[])
 | some c=>x=thrE c
theorem demand_any (b:Bool) (c:Int) (w:World):Calls Tryz.prog 111 #[.bool b,.int .i64 c] w fun x w'=>w'=w∧x=if b then .returned (.tuple #[]) else thrE c:=by
 cases b with
 | true=>
  go_enter Tryz.func111,Tryz.ntmps111
  go_wp2
  refine bodyPost_end (results_none rfl _ _ _) rfl ?_
  exact ⟨rfl,rfl⟩
 | false=>
  go_enter Tryz.func111,Tryz.ntmps111
  go_wp2
  exact ⟨rfl,rfl,rfl⟩
theorem shr_none (may:Nat) (hm:may4 may) (k:Int) (h8:8<k):Op.shift .shr .i64 (may:Int) .i64 k=pure (.int .i64 0):=by
 have hlt:(may:Int)<2 ^ (min k.toNat 64):=by
  have h1:(2:Int) ^ 9≤2 ^ (min k.toNat 64):=by
   have h3:(2:Nat) ^ 9≤2 ^ (min k.toNat 64):=Nat.pow_le_pow_right (by omega) (by omega)
   exact_mod_cast h3
  have h2:(may:Int)<2 ^ 9:=by rcases hm with rfl | rfl | rfl | rfl <;> decide
  omega
 have hd:(may:Int).fdiv (2 ^ (min k.toNat 64))=0:=by
  rw [Int.fdiv_eq_ediv_of_nonneg _ (Int.pow_nonneg (by decide))]
  exact Int.ediv_eq_zero_of_lt (by omega) hlt
 have hb:IntKind.i64.bits=64:=rfl
 simp [Op.shift,hb,hd]
 omega
def hasK (may:Nat) (k:Int):Bool:=decide (0<k) && (decide (k≤8) && may.testBit k.toNat)
set_option maxHeartbeats 1000000 in
theorem hasK_any (may:Nat) (hm:may4 may) (k:Int) (w:World):Calls Tryz.prog 168 #[.int .i64 may,.int .i64 k] w fun x w'=>x = .returned (.bool (hasK may k))∧w'=w:=by
 by_cases h0:0≤k∧k≤8
 · obtain ⟨n,rfl⟩:∃ n:Nat,k=(n:Int):=⟨k.toNat,by omega⟩
   have h:=has_n may n n rfl hm (by omega) w
   have e:hasK may (n:Int)=may.testBit n:=by
    unfold hasK
    by_cases hn:n=0
    · subst hn
      rcases hm with rfl | rfl | rfl | rfl <;> rfl
    · rw [decide_eq_true (by omega),decide_eq_true (by omega)]
      simp
   rw [e]
   exact h
 · have e:hasK may k=false:=by
    unfold hasK
    by_cases h1:0<k
    · rw [decide_eq_false (show ¬ k≤8 by omega)];simp
    · rw [decide_eq_false h1];rfl
   rw [e]
   by_cases h1:0<k
   · have h8:8<k:=by omega
     have d1:decide (0<k)=true:=by simpa using h1
     have hsh:=shr_none may hm k h8
     clear h0 e
     go_enter Tryz.func168,Tryz.ntmps168
     go_wp2
     go_ret
     exact ⟨rfl,rfl⟩
   · have d1:decide (0<k)=false:=by simpa using h1
     go_enter Tryz.func168,Tryz.ntmps168
     go_wp2
     go_ret
     exact ⟨rfl,rfl⟩
def itM:It→MI
 | .mk k u t ps lo hi nt key=>⟨k,u,t,none,ps.length,0,lo,hi,nt,key⟩
def It.knd:It→Int
 | .mk k _ _ _ _ _ _ _=>k
def It.rng:It→Bool
 | .mk _ _ _ _ lo hi _ _=>isRng lo hi
theorem stI_same {m:MI} {i:It} (h:Plain m i) (hn:m.n=i.ps.length):stI m=stI (itM i):=by
 obtain ⟨k,u,t,A,n,c,lo,hi,nt,key⟩:=m
 obtain ⟨k',u',t',ps,lo',hi',nt',key'⟩:=i
 obtain ⟨h1,h2,h3,h4,h5,h6,h7⟩:=h
 simp only at h1 h2 h3 h4 h5 h6 h7 hn
 subst h1 h2 h3 h4 h5 h6 h7
 subst hn
 rfl
def ckB (may:Nat) (i:It) (sub:Nat→Option Int):Option Int:=
 if hasK may i.knd && stI (itM i) then (if i.knd=5 then sub 78 else if i.knd=8 then sub 60 else if i.knd=6 then (if i.rng then none else some 51) else none) else some 50
def ckRw (f:It→Option Int) (l:List It):Option Int:=if 512<l.length then some 52 else l.findSome? f
def ckI:Nat→Nat→It→Option Int
 | 0,may,i=>ckB may i fun _=>none
 | d+1,may,i=>ckB may i fun m2=>ckRw (ckI d m2) i.ps
end Go.Proofs
