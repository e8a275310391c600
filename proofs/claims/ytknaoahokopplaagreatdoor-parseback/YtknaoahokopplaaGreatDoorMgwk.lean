/-
  Several texts in one (Lak W0k W1k).
-/
import Derived.Shelf.Abstract
import Derived.Shelf.RegionOpen
import Derived.WalkKit
import Derived.WalkSpells
import Derived.WalkLawsBesides
import Derived.BigQuiet
import Derived.Deep.QuietTactic
import Derived.Deep.LoopGhost
import Derived.WalkMore
import Derived.Shelf.SlSortCmp.QuietGrown
import Derived.Test.YtknaoahokopplaaGreatDoorMgrk
import Derived.Test.YtknaoahokopplaaGreatDoorMgvk
import Derived.Test.YtknaoahokopplaaGreatDoorMgsk
import Derived.Test.YtknaoahokopplaaGreatDoorMgqk
namespace Go.Proofs
open Go.RowKit Go.Shelf
set_option maxRecDepth 100000
attribute [local go_sem] Oper.semAt_some
theorem grown_of {P:Program} {f:FuncId} {args:Array Value} {w:World} {n:Nat} {os:Array Obj} {v:Value}
 (h:Calls P f args (Go.Sort.grow (w.drewN n) os) fun e w'=>e = .returned v∧Grown (Go.Sort.grow (w.drewN n) os) w'):Calls P f args (Go.Sort.grow (w.drewN n) os) fun e w''=>e = .returned v∧∃ p:GrownBy,w''=Go.Sort.grow (w.drewN p.n) p.os:=
 Calls.grown_of h
def CK (w w':World):Prop:=∀ a v,w.cell? a=some v→w'.cell? a=some v
theorem CK.trans {a b c:World} (h:CK a b) (k:CK b c):CK a c:=fun x v hx=>k x v (h x v hx)
theorem Grown.ck {w w':World} (h:Grown w w'):CK w w':=fun _ _ hv=>h.cellv hv
theorem ck_below {w w':World} (h:Below w.heap.size w w'):CK w w':=fun a v hv=>by
 obtain ⟨o,ho,_⟩:=cells_of_cell hv
 rw [h.cell (Array.getElem?_eq_some_iff.1 ho).1];exact hv
def ReadsI (w:World) (g z:Nat) (ms:List MI):Prop:=∀ j x,ms[j]? = some x→∀ i v,(mi1 x)[i]? = some v→w.cell? ⟨g,z+j*8+i,none⟩=some v
def RdR (w:World) (A:Option Addr) (n:Nat) (ms:List MI):Prop:=n=ms.length∧n≤9223372036854775807∧(n=0∨∃ g z,A=some ⟨g,z,none⟩∧ReadsI w g z ms)
def RdM:Nat→World→MI→It→Prop
 | 0,_,m,i=>Plain m i∧i.ps=[]∧m.n=0
 | d+1,w,m,i=>Plain m i∧∃ ms,RdR w m.A m.n ms∧All2 (RdM d w) ms i.ps
def RdI (d:Nat) (w:World) (A:Option Addr) (n:Nat) (l:List It):Prop:=∃ ms,RdR w A n ms∧All2 (RdM d w) ms l
theorem RdR.ck {w w':World} {A:Option Addr} {n:Nat} {ms:List MI} (h:RdR w A n ms) (k:CK w w'):RdR w' A n ms:=
 ⟨h.1,h.2.1,h.2.2.imp id fun ⟨g,z,e,r⟩=>⟨g,z,e,fun j x hj i v hv=>k _ _ (r j x hj i v hv)⟩⟩
theorem RdM.ck {w w':World} (k:CK w w'):∀ {d:Nat} {m:MI} {i:It},RdM d w m i→RdM d w' m i
 | 0,_,_,h=>h
 | _+1,_,_,h=>⟨h.1,h.2.imp fun _ q=>⟨q.1.ck k,q.2.mono fun _ _ r=>RdM.ck k r⟩⟩
theorem RdI.ck {d:Nat} {w w':World} {A:Option Addr} {n:Nat} {l:List It} (h:RdI d w A n l) (k:CK w w'):RdI d w' A n l:=
 h.imp fun _ q=>⟨q.1.ck k,q.2.mono fun _ _ r=>r.ck k⟩
theorem RdI.len {d:Nat} {w:World} {A:Option Addr} {n:Nat} {l:List It} (h:RdI d w A n l):n=l.length:=by
 obtain ⟨ms,h1,h2⟩:=h
 rw [h1.1,h2.length]
theorem RdM.plain:∀ {d:Nat} {w:World} {m:MI} {i:It},RdM d w m i→Plain m i
 | 0,_,_,_,h=>h.1
 | _+1,_,_,_,h=>h.1
theorem fi_at (l:List MI) {j:Nat} {x:MI} (hj:l[j]? = some x) (i:Nat) (v:Value) (hv:(mi1 x)[i]? = some v):(fi l)[j*8+i]? = some v:=by
 induction l generalizing j with
 | nil=>simp at hj
 | cons a l ih=>
  have hl:(mi1 a).length=8:=rfl
  cases j with
  | zero=>
   simp at hj;subst hj
   have:i<(mi1 a).length:=(List.getElem?_eq_some_iff.1 hv).1
   simp only [fi,List.flatMap_cons]
   rw [List.getElem?_append_left (by omega)]
   simpa using hv
  | succ j=>
   have:=ih (j:=j) (by simpa using hj)
   simp only [fi,List.flatMap_cons]
   rw [List.getElem?_append_right (by omega),show (j+1)*8+i - (mi1 a).length=j*8+i by omega]
   exact this
theorem RowI.rd {w:World} {b:Nat} {x:Option Nat} {A:Option Addr} {n c:Nat} {ms:List MI} (h:RowI w b x A n c ms):RdR w A n ms:=by
 refine ⟨h.1,?_,?_⟩
 · rcases h.2 with ⟨_,h0,_⟩ | ⟨g,cur,_,_,_,_,h1,h2,_⟩
   · omega
   · unfold maxLen at h2;omega
 · rcases h.2 with ⟨_,h0,_⟩ | ⟨g,cur,e,_,_,hg,h1,h2,h3,h4⟩
   · exact .inl h0
   · refine .inr ⟨g,0,e,fun j y hj i v hv => ?_⟩
     rw [Nat.zero_add]
     have:=fi_at ms hj i v hv
     rw [←h4,List.getElem?_take] at this
     split at this
     · simp only [World.cell?,hg]
       simpa using this
     · cases this
theorem DR.rd {w:World} {b:Nat} {x:Option Nat} : ∀ {d:Nat} {m:MI} {i:It},DR d w b x m i→RdM d w m i
 | 0,_,_,h=>⟨h.1,h.2.1,h.2.2.2.1⟩
 | _+1,_,_,h=>⟨h.1,h.2.imp fun _ q=>⟨q.1.rd,q.2.mono fun _ _ r=>DR.rd r⟩⟩
theorem Rows.rd {d:Nat} {w:World} {b:Nat} {x:Option Nat} {A:Option Addr} {n c:Nat} {l:List It} (h:Rows d w b x A n c l):RdI d w A n l:=
 h.imp fun _ q=>⟨q.1.rd,q.2.mono fun _ _ r=>DR.rd r⟩
theorem All2.get {α β:Type} {R:α→β→Prop} : ∀ {l:List α} {m:List β} (_:All2 R l m) {k:Nat} {a:α} {b:β},l[k]? = some a→m[k]? = some b→R a b
 | [],[],_,k,a,b,h1,_=>by simp at h1
 | _::_,_::_,h,0,a,b,h1,h2=>by simp at h1 h2;rw [←h1,←h2];exact h.1
 | _::_,_::_,h,k+1,a,b,h1,h2=>All2.get h.2 (by simpa using h1) (by simpa using h2)
 | [],_::_,h,_,_,_,_,_=>h.elim
 | _::_,[],h,_,_,_,_,_=>h.elim
set_option maxHeartbeats 4000000 in
theorem bare_any (k u:Int) (t:ByteArray) (A A':Option Addr) (n c n' c':Nat) (lo hi:Int) (nt:Bool) (key:Int) (w:World) :
 Calls Tryz.prog 63 #[mia ⟨k,u,t,A,n,c,lo,hi,nt,key⟩,mia ⟨k,u,t,A',n',c',lo,hi,nt,key⟩] w fun e w'=>e = .returned (.bool true)∧Grown w w':=by
 go_enter Tryz.func63,Tryz.ntmps63
 go_wp2
 go_ret
 exact ⟨rfl,((Grown.refl _).alloc _).alloc _⟩
set_option maxHeartbeats 1000000 in
theorem items_nil (A A':Option Addr) (c c':Nat) (deep:Int) (w:World):Calls Tryz.prog 31 #[.slice A 0 c,.slice A' 0 c',.int .i64 deep] w fun e w'=>e = .returned (.bool true)∧Grown w w':=by
 go_enter Tryz.func31,Tryz.ntmps31
 go_wp2
 refine wp_loop_rounds 1 ?_
 rw [rounds_succ]
 go_wp2
 go_ret
 exact ⟨rfl,Grown.refl _⟩
def PartsC (d:Nat):Prop:=∀ (w:World) (m m':MI) (i:It) (deep:Int),0≤deep→deep≤40→RdM d w m i→RdM d w m' i→Calls Tryz.prog 31 #[.slice m.A m.n m.c,.slice m'.A m'.n m'.c,.int .i64 deep] w fun e w'=>e = .returned (.bool true)∧Grown w w'
set_option maxHeartbeats 4000000 in
theorem items_of (d:Nat) (hP:PartsC d) (w:World) (g g' z z' n c c':Nat) (l:List It) (ms ms':List MI) (deep:Int) (hd1:0≤deep) (hd2:deep≤40) (hn:n=l.length) (hnn:n≤9223372036854775807)
 (h1:ReadsI w g z ms) (h2:ReadsI w g' z' ms') (a1:All2 (RdM d w) ms l) (a2:All2 (RdM d w) ms' l) :
 Calls Tryz.prog 31 #[.slice (some ⟨g,z,none⟩) n c,.slice (some ⟨g',z',none⟩) n c',.int .i64 deep] w fun e w'=>e = .returned (.bool true)∧Grown w w':=by
 have hl1:=a1.length
 have hl2:=a2.length
 have HH:Hid (PartsC d∧ReadsI w g z ms∧ReadsI w g' z' ms'∧All2 (RdM d w) ms l∧All2 (RdM d w) ms' l∧ms.length=n∧ms'.length=n∧l.length=n):=⟨hP,h1,h2,a1,a2,by omega,by omega,by omega⟩
 clear hP h1 h2 a1 a2 hl1 hl2 hn
 go_enter Tryz.func31,Tryz.ntmps31
 go_wp2
 go_loopw [7] (fun vi wr=>∃ k:Nat,vi = .int .i64 k∧k≤n∧Grown w wr) (fun vi _=>n - (intOf vi).toNat)
 case atStart=>exact ⟨0,rfl,by omega,Grown.refl _⟩
 case round=>
  obtain ⟨k,rfl,hk,hG⟩:=hrel
  have HG:Hid (Grown w wr):=hG
  by_cases hkn:k=n
  · subst hkn
    clear hG
    go_wp2
    go_ret
    exact ⟨rfl,HG.out⟩
  · have hkn:k<n:=by omega
    have hkd:decide ((k:Int)<(n:Int))=true:=by simpa using hkn
    obtain ⟨q1,q2,q3,q4,q5,q6,q7,q8⟩:=HH.out
    obtain ⟨x,hx⟩:∃ x,ms[k]? = some x:=⟨ms[k]'(by omega),List.getElem?_eq_getElem (by omega)⟩
    obtain ⟨y,hy⟩:∃ y,ms'[k]? = some y:=⟨ms'[k]'(by omega),List.getElem?_eq_getElem (by omega)⟩
    obtain ⟨i,hi⟩:∃ i,l[k]? = some i:=⟨l[k]'(by omega),List.getElem?_eq_getElem (by omega)⟩
    have r1:=q4.get hx hi
    have r2:=q5.get hy hi
    have hb:∀ w2,Calls Tryz.prog 63 #[mia x,mia y] w2 fun e w'=>e = .returned (.bool true)∧Grown w2 w':=fun w2=>by
     obtain ⟨ik,iu,it,ips,ilo,ihi,int,ikey⟩:=i
     obtain ⟨b1,b2,b3,b4,b5,b6,b7⟩:=r1.plain
     obtain ⟨c1,c2,c3,c4,c5,c6,c7⟩:=r2.plain
     have:=bare_any ik iu it x.A y.A x.n x.c y.n y.c ilo ihi int ikey w2
     obtain ⟨xk,xu,xt,xA,xn,xc,xlo,xhi,xnt,xkey⟩:=x
     obtain ⟨yk,yu,yt,yA,yn,yc,ylo,yhi,ynt,ykey⟩:=y
     simp only at b1 b2 b3 b4 b5 b6 b7 c1 c2 c3 c4 c5 c6 c7 this
     subst b1 b2 b3 b4 b5 b6 b7
     rw [c1,c2,c3,c4,c5,c6,c7]
     exact this
    have hp:1≤deep→∀ w2,Grown w w2→Calls Tryz.prog 31 #[.slice x.A x.n x.c,.slice y.A y.n y.c,.int .i64 (deep - 1)] w2 fun e w'=>e = .returned (.bool true)∧Grown w2 w':=fun h1 w2 hg=>q1 w2 x y i (deep - 1) (by omega) (by omega) (r1.ck hg.ck) (r2.ck hg.ck)
    have HC:Hid ((∀ w2,Calls Tryz.prog 63 #[mia x,mia y] w2 fun e w'=>e = .returned (.bool true)∧Grown w2 w')∧(1≤deep→∀ w2,Grown w w2→Calls Tryz.prog 31 #[.slice x.A x.n x.c,.slice y.A y.n y.c,.int .i64 (deep - 1)] w2 fun e w'=>e = .returned (.bool true)∧Grown w2 w')):=⟨hb,hp⟩
    have f1:∀ j v,(mi1 x)[j]? = some v→∀ w2,Grown w w2→w2.cell? ⟨g,z+k*8+j,none⟩=some v:=fun j v hv w2 hg=>hg.cellv (q2 k x hx j v hv)
    have f2:∀ j v,(mi1 y)[j]? = some v→∀ w2,Grown w w2→w2.cell? ⟨g',z'+k*8+j,none⟩=some v:=fun j v hv w2 hg=>hg.cellv (q3 k y hy j v hv)
    have HF:Hid ((∀ j v,(mi1 x)[j]? = some v→∀ w2,Grown w w2→w2.cell? ⟨g,z+k*8+j,none⟩=some v)∧(∀ j v,(mi1 y)[j]? = some v→∀ w2,Grown w w2→w2.cell? ⟨g',z'+k*8+j,none⟩=some v)):=⟨f1,f2⟩
    clear q1 q2 q3 q4 q5 q6 q7 q8 hx hy hi r1 r2 hb hp f1 f2
    obtain ⟨xk,xu,xt,xA,xn,xc,xlo,xhi,xnt,xkey⟩:=x
    obtain ⟨yk,yu,yt,yA,yn,yc,ylo,yhi,ynt,ykey⟩:=y
    have a0:=fun q os=>HF.out.1 0 _ rfl _ (hG.quiet q os)
    have a1:=fun q os=>HF.out.1 1 _ rfl _ (hG.quiet q os)
    have a2:=fun q os=>HF.out.1 2 _ rfl _ (hG.quiet q os)
    have a3:=fun q os=>HF.out.1 3 _ rfl _ (hG.quiet q os)
    have a4:=fun q os=>HF.out.1 4 _ rfl _ (hG.quiet q os)
    have a5:=fun q os=>HF.out.1 5 _ rfl _ (hG.quiet q os)
    have a6:=fun q os=>HF.out.1 6 _ rfl _ (hG.quiet q os)
    have a7:=fun q os=>HF.out.1 7 _ rfl _ (hG.quiet q os)
    have b0:=fun q os=>HF.out.2 0 _ rfl _ (hG.quiet q os)
    have b1:=fun q os=>HF.out.2 1 _ rfl _ (hG.quiet q os)
    have b2:=fun q os=>HF.out.2 2 _ rfl _ (hG.quiet q os)
    have b3:=fun q os=>HF.out.2 3 _ rfl _ (hG.quiet q os)
    have b4:=fun q os=>HF.out.2 4 _ rfl _ (hG.quiet q os)
    have b5:=fun q os=>HF.out.2 5 _ rfl _ (hG.quiet q os)
    have b6:=fun q os=>HF.out.2 6 _ rfl _ (hG.quiet q os)
    have b7:=fun q os=>HF.out.2 7 _ rfl _ (hG.quiet q os)
    clear hG
    simp only [Nat.add_zero] at a0 b0
    go_wp2
    refine wp_region_quiet_grown mixed (by kernel_rfl) ?_
    repeat (go_big_quiet_step ((go_at_call 63;exact grown_of (HC.out.1 _))))
    refine wpQuiet_nil ?_
    intro _ hw'
    obtain ⟨⟨nq,osq⟩,hw''⟩:=hw'
    subst hw''
    clear a0 a1 a2 a3 a4 a5 a6 a7 b0 b1 b2 b3 b4 b5 b6 b7
    obtain ⟨w2,hw2⟩:∃ x,x=Go.Sort.grow (wr.drewN nq) osq:=⟨_,rfl⟩
    rw [←hw2]
    have hG2:Grown w w2:=by rw [hw2];exact HG.out.quiet nq osq
    clear hw2
    have HG2:Hid (Grown w w2):=hG2
    have a3:=fun q os=>HF.out.1 3 _ rfl _ (hG2.quiet q os)
    have b3:=fun q os=>HF.out.2 3 _ rfl _ (hG2.quiet q os)
    clear hG2
    by_cases hdp:deep<1
    · have hdd:decide (deep<1)=true:=by simpa using hdp
      go_wp2
      refine wp_region_quiet_grown mixed (by kernel_rfl) ?_
      repeat (go_big_quiet_step (fail))
      refine wpQuiet_nil ?_
      intro _ hw'
      obtain ⟨⟨nq2,osq2⟩,hw''⟩:=hw'
      subst hw''
      go_wp2
      exact ⟨⟨k+1,by go_num,by omega,HG2.out.quiet _ _⟩,by simp [intOf];omega⟩
    · have hdd:decide (deep<1)=false:=by simpa using hdp
      have hd3:1≤deep:=by omega
      go_wp2
      refine wp_region_quiet_grown mixed (by kernel_rfl) ?_
      repeat (go_big_quiet_step ((go_at_call 31;exact grown_of (HC.out.2 hd3 _ (HG2.out.quiet _ _)))))
      refine wpQuiet_nil ?_
      intro _ hw'
      obtain ⟨⟨nq2,osq2⟩,hw''⟩:=hw'
      subst hw''
      go_wp2
      exact ⟨⟨k+1,by go_num,by omega,HG2.out.quiet _ _⟩,by simp [intOf];omega⟩
theorem items_rows (d:Nat) (hP:PartsC d) (w:World) (A A':Option Addr) (n n' c c':Nat) (l:List It) (deep:Int) (hd1:0≤deep) (hd2:deep≤40) (h1:RdI d w A n l) (h2:RdI d w A' n' l) :
 Calls Tryz.prog 31 #[.slice A n c,.slice A' n' c',.int .i64 deep] w fun e w'=>e = .returned (.bool true)∧Grown w w':=by
 have e1:=h1.len
 have e2:=h2.len
 obtain ⟨ms,r1,a1⟩:=h1
 obtain ⟨ms',r2,a2⟩:=h2
 obtain rfl:n'=n:=by omega
 rcases r1.2.2 with h0 | ⟨g,z,rfl,k1⟩
 · subst h0
   exact items_nil A A' c c' deep w
 · rcases r2.2.2 with h0 | ⟨g',z',rfl,k2⟩
   · subst h0
     exact items_nil _ A' c c' deep w
   · exact items_of d hP w g g' z z' n' c c' l ms ms' deep hd1 hd2 e1 r1.2.1 k1 k2 a1 a2
theorem partsC_all:∀ d,PartsC d
 | 0=>fun w m m' i deep _ _ h1 h2=>by
  rw [h1.2.2,h2.2.2]
  exact items_nil _ _ _ _ _ _
 | d+1=>fun w m m' i deep b1 b2 h1 h2=>by
  exact items_rows d (partsC_all d) w m.A m'.A m.n m'.n m.c m'.c i.ps deep b1 b2 h1.2 h2.2
theorem items_any (d:Nat) (w:World) (A A':Option Addr) (n n' c c':Nat) (l:List It) (deep:Int) (hd1:0≤deep) (hd2:deep≤40) (h1:RdI d w A n l) (h2:RdI d w A' n' l) :
 Calls Tryz.prog 31 #[.slice A n c,.slice A' n' c',.int .i64 deep] w fun e w'=>e = .returned (.bool true)∧Grown w w':=items_rows d (partsC_all d) w A A' n n' c c' l deep hd1 hd2 h1 h2
end Go.Proofs
namespace Go.Proofs
open Go.RowKit Go.Shelf
set_option maxRecDepth 100000
attribute [local go_sem] Oper.semAt_some
set_option maxHeartbeats 1000000 in
theorem nameByte_any (b:UInt8) (w:World):Calls Tryz.prog 170 #[.int .u8 b.toNat] w fun e w'=>e = .returned (.bool (isNm b))∧w'=w:=by
 go_enter Tryz.func170,Tryz.ntmps170
 go_wp2
 all_goals (go_ret;refine ⟨?_,rfl⟩;simp [isNm,isLt,isDg];first | done | omega | (try rw [Bool.eq_iff_iff];simp;omega))
def cpB (n:Int):Bool:=decide (1≤n) && decide (n≤999999999)
theorem copyB_any (n:Int) (w:World):Calls Tryz.prog 190 #[.int .i64 n] w fun e w'=>e = .returned (.bool (cpB n))∧w'=w:=by
 go_enter Tryz.func190,Tryz.ntmps190
 go_wp2
 all_goals (go_ret;refine ⟨?_,rfl⟩;simp [cpB];first | done | omega)
theorem unitB_any (u:Int) (w:World):Calls Tryz.prog 189 #[.int .i64 u] w fun e w'=>e = .returned (.bool (decide (0<wd u)))∧w'=w:=by
 go_enter Tryz.func189,Tryz.ntmps189
 go_wp2_with (go_at_call 48;refine (width_any u _).mono ?_;rintro e w' ⟨rfl,rfl⟩)
 go_ret
 exact ⟨rfl,rfl⟩
def nameOk (s:ByteArray):Bool:=s.data.toList.all isNm && (decide (1≤s.size) && decide (s.size≤32))
theorem nameOk_no {s:ByteArray} {j:Nat} (hj:j<s.size) (hb:isNm s[j]=false):nameOk s=false:=by
 have hm:s[j]∈s.data.toList:=by
  rw [Array.mem_toList_iff]
  exact Array.getElem_mem (xs:=s.data) hj
 have:s.data.toList.all isNm=false:=by
  rw [List.all_eq_false]
  exact ⟨_,hm,by simp [hb]⟩
 unfold nameOk
 rw [this]
 rfl
theorem nameOk_step {s:ByteArray} {j:Nat} (hj:j<s.size) (h:(s.data.toList.take j).all isNm=true) (hb:isNm s[j]=true):(s.data.toList.take (j+1)).all isNm=true:=by
 have hl:j<s.data.toList.length:=by rw [Array.length_toList];exact hj
 rw [List.take_succ_eq_append_getElem hl,List.all_append,h]
 have:s.data.toList[j]=s[j]:=by simp;rfl
 rw [this]
 simp [hb]
theorem nameOk_end {s:ByteArray} {j:Nat} (hj:¬ j<s.size) (h:(s.data.toList.take j).all isNm=true):nameOk s=(decide (1≤s.size) && decide (s.size≤32)):=by
 rw [List.take_of_length_le (by rw [Array.length_toList];show s.size≤_;omega)] at h
 unfold nameOk
 rw [h]
 rfl
set_option maxHeartbeats 1000000 in
theorem isName_any (s:ByteArray) (hs:s.size≤maxLen) (w:World):Calls Tryz.prog 147 #[.string s] w fun e w'=>e = .returned (.bool (nameOk s))∧w'=w:=by
 have hs':(s.size:Int)≤9223372036854775807:=by unfold maxLen at hs;omega
 obtain ⟨n,hn⟩:∃ n,s.size=n:=⟨_,rfl⟩
 have hz:s.data.toList.length=s.size:=by rw [Array.length_toList];rfl
 go_enter Tryz.func147,Tryz.ntmps147
 go_wp2_with fail
 go_loopw [6] (fun v6 wr=>∃ j:Nat,v6 = .int .i64 j∧j≤s.size∧Hid ((s.data.toList.take j).all isNm=true)∧wr=w) (fun v6 _=>s.size - (intOf v6).toNat)
 case atStart=>exact ⟨0,rfl,by omega,rfl,rfl⟩
 case round=>
  obtain ⟨j,rfl,hj,HA,rfl⟩:=hrel
  by_cases hjn:j<s.size
  · have e1:decide ((j:Int)<(s.size:Int))=true:=by simpa using hjn
    have hb:=hjn
    go_wp2_with (go_at_call 170;refine (nameByte_any _ _).mono ?_;rintro e w' ⟨rfl,rfl⟩)
    · rename_i hb2
      go_ret
      exact ⟨by rw [nameOk_no hjn (by simpa using hb2)];rfl,rfl⟩
    · rename_i hb2
      exact ⟨⟨j+1,by go_num,by omega,nameOk_step hjn HA.out (by simpa using hb2),trivial⟩,by simp [intOf];omega⟩
  · have e1:decide ((j:Int)<(s.size:Int))=false:=by simpa using hjn
    have HN:Hid (nameOk s=(decide (1≤s.size) && decide (s.size≤32))):=nameOk_end hjn HA.out
    go_wp2
    all_goals
     go_ret
     refine ⟨?_,rfl⟩
     rw [HN.out,hn]
     simp
     try (first | omega | (rw [Bool.eq_iff_iff];simp;omega))
def blankB (m:MI):Bool:=m.u == 0 && (m.t.toList == (⟨#[]⟩:ByteArray).toList) && decide (m.n=0) && m.lo == 0 && m.hi == 0 && !m.nt && m.key == 0
set_option maxHeartbeats 1000000 in
theorem isBlank_any (m:MI) (w:World):Calls Tryz.prog 191 #[mia m] w fun e w'=>e = .returned (.bool (blankB m))∧Grown w w':=by
 go_enter Tryz.func191,Tryz.ntmps191
 go_wp2
 all_goals
  go_ret
  refine ⟨?_,(Grown.refl _).alloc _⟩
 all_goals (simp [blankB, *];try done)
end Go.Proofs
namespace Go.Proofs
open Go.RowKit Go.Shelf
set_option maxRecDepth 100000
attribute [local go_sem] Oper.semAt_some
theorem grown2 {w W:World} (o o2:Obj) (h:Grown ((w.alloc o).alloc o2) W):Grown w W:=(((Grown.refl w).alloc o).alloc o2).trans h
set_option maxHeartbeats 4000000 in
theorem stands_1 (u:Int) (t:ByteArray) (A:Option Addr) (n c:Nat) (lo hi:Int) (nt:Bool) (key:Int) (w:World):Calls Tryz.prog 171 #[mia ⟨1,u,t,A,n,c,lo,hi,nt,key⟩] w fun e w'=>e = .returned (.bool (decide (0<wd u) && blankB ⟨1,0,t,A,n,c,lo,hi,nt,key⟩))∧Grown w w':=by
 go_enter Tryz.func171,Tryz.ntmps171
 go_wp2_with (first | (go_at_call 189;refine (unitB_any _ _).mono ?_;rintro e w' ⟨rfl,rfl⟩) | (go_at_call 190;refine (copyB_any _ _).mono ?_;rintro e w' ⟨rfl,rfl⟩) | (go_at_call 191;refine (isBlank_any ⟨1,0,t,A,n,c,lo,hi,nt,key⟩ _).mono ?_;rintro e w9 ⟨rfl,hg⟩))
 all_goals go_ret
 all_goals first
  | exact ⟨by (simp [*];first | done | omega | (intros;omega)),grown2 _ _ hg⟩
  | exact ⟨by simp [*],grown2 _ _ hg⟩
  | exact ⟨by (simp [*];first | done | omega | (intros;omega)),((Grown.refl w).alloc _).alloc _⟩
  | exact ⟨by simp [*],((Grown.refl w).alloc _).alloc _⟩
set_option maxHeartbeats 4000000 in
theorem stands_2 (u:Int) (t:ByteArray) (A:Option Addr) (n c:Nat) (lo hi:Int) (nt:Bool) (key:Int) (ht:t.size≤maxLen) (w:World):Calls Tryz.prog 171 #[mia ⟨2,u,t,A,n,c,lo,hi,nt,key⟩] w fun e w'=>e = .returned (.bool (nameOk t && blankB ⟨2,u,⟨#[]⟩,A,n,c,lo,hi,nt,key⟩))∧Grown w w':=by
 go_enter Tryz.func171,Tryz.ntmps171
 go_wp2_with (first | (go_at_call 189;refine (unitB_any _ _).mono ?_;rintro e w' ⟨rfl,rfl⟩) | (go_at_call 190;refine (copyB_any _ _).mono ?_;rintro e w' ⟨rfl,rfl⟩) | (go_at_call 147;refine (isName_any _ ht _).mono ?_;rintro e w' ⟨rfl,rfl⟩) | (go_at_call 191;refine (isBlank_any ⟨2,u,⟨#[]⟩,A,n,c,lo,hi,nt,key⟩ _).mono ?_;rintro e w9 ⟨rfl,hg⟩))
 all_goals go_ret
 all_goals first
  | exact ⟨by (simp [*];first | done | omega | (intros;omega)),grown2 _ _ hg⟩
  | exact ⟨by simp [*],grown2 _ _ hg⟩
  | exact ⟨by (simp [*];first | done | omega | (intros;omega)),((Grown.refl w).alloc _).alloc _⟩
  | exact ⟨by simp [*],((Grown.refl w).alloc _).alloc _⟩
set_option maxHeartbeats 4000000 in
theorem stands_3 (u:Int) (t:ByteArray) (A:Option Addr) (n c:Nat) (lo hi:Int) (nt:Bool) (key:Int) (ht:t.size≤maxLen) (w:World):Calls Tryz.prog 171 #[mia ⟨3,u,t,A,n,c,lo,hi,nt,key⟩] w fun e w'=>e = .returned (.bool (nameOk t && blankB ⟨3,u,⟨#[]⟩,A,n,c,lo,hi,nt,key⟩))∧Grown w w':=by
 go_enter Tryz.func171,Tryz.ntmps171
 go_wp2_with (first | (go_at_call 189;refine (unitB_any _ _).mono ?_;rintro e w' ⟨rfl,rfl⟩) | (go_at_call 190;refine (copyB_any _ _).mono ?_;rintro e w' ⟨rfl,rfl⟩) | (go_at_call 147;refine (isName_any _ ht _).mono ?_;rintro e w' ⟨rfl,rfl⟩) | (go_at_call 191;refine (isBlank_any ⟨3,u,⟨#[]⟩,A,n,c,lo,hi,nt,key⟩ _).mono ?_;rintro e w9 ⟨rfl,hg⟩))
 all_goals go_ret
 all_goals first
  | exact ⟨by (simp [*];first | done | omega | (intros;omega)),grown2 _ _ hg⟩
  | exact ⟨by simp [*],grown2 _ _ hg⟩
  | exact ⟨by (simp [*];first | done | omega | (intros;omega)),((Grown.refl w).alloc _).alloc _⟩
  | exact ⟨by simp [*],((Grown.refl w).alloc _).alloc _⟩
set_option maxHeartbeats 4000000 in
theorem stands_5 (u:Int) (t:ByteArray) (A:Option Addr) (n c:Nat) (lo hi:Int) (nt:Bool) (key:Int) (w:World):Calls Tryz.prog 171 #[mia ⟨5,u,t,A,n,c,lo,hi,nt,key⟩] w fun e w'=>e = .returned (.bool (true && blankB ⟨5,u,t,none,0,0,lo,hi,false,key⟩))∧Grown w w':=by
 go_enter Tryz.func171,Tryz.ntmps171
 go_wp2_with (first | (go_at_call 189;refine (unitB_any _ _).mono ?_;rintro e w' ⟨rfl,rfl⟩) | (go_at_call 190;refine (copyB_any _ _).mono ?_;rintro e w' ⟨rfl,rfl⟩) | (go_at_call 191;refine (isBlank_any ⟨5,u,t,none,0,0,lo,hi,false,key⟩ _).mono ?_;rintro e w9 ⟨rfl,hg⟩))
 all_goals go_ret
 all_goals first
  | exact ⟨by (simp [*];first | done | omega | (intros;omega)),grown2 _ _ hg⟩
  | exact ⟨by simp [*],grown2 _ _ hg⟩
  | exact ⟨by (simp [*];first | done | omega | (intros;omega)),((Grown.refl w).alloc _).alloc _⟩
  | exact ⟨by simp [*],((Grown.refl w).alloc _).alloc _⟩
set_option maxHeartbeats 4000000 in
theorem stands_6 (u:Int) (t:ByteArray) (A:Option Addr) (n c:Nat) (lo hi:Int) (nt:Bool) (key:Int) (w:World):Calls Tryz.prog 171 #[mia ⟨6,u,t,A,n,c,lo,hi,nt,key⟩] w fun e w'=>e = .returned (.bool ((decide (0<wd lo) && decide (0<wd hi)) && blankB ⟨6,u,t,A,n,c,0,0,nt,key⟩))∧Grown w w':=by
 go_enter Tryz.func171,Tryz.ntmps171
 go_wp2_with (first | (go_at_call 189;refine (unitB_any _ _).mono ?_;rintro e w' ⟨rfl,rfl⟩) | (go_at_call 190;refine (copyB_any _ _).mono ?_;rintro e w' ⟨rfl,rfl⟩) | (go_at_call 191;refine (isBlank_any ⟨6,u,t,A,n,c,0,0,nt,key⟩ _).mono ?_;rintro e w9 ⟨rfl,hg⟩))
 all_goals go_ret
 all_goals first
  | exact ⟨by (simp [*];first | done | omega | (intros;omega)),grown2 _ _ hg⟩
  | exact ⟨by simp [*],grown2 _ _ hg⟩
  | exact ⟨by (simp [*];first | done | omega | (intros;omega)),((Grown.refl w).alloc _).alloc _⟩
  | exact ⟨by simp [*],((Grown.refl w).alloc _).alloc _⟩
set_option maxHeartbeats 4000000 in
theorem stands_7 (u:Int) (t:ByteArray) (A:Option Addr) (n c:Nat) (lo hi:Int) (nt:Bool) (key:Int) (w:World):Calls Tryz.prog 171 #[mia ⟨7,u,t,A,n,c,lo,hi,nt,key⟩] w fun e w'=>e = .returned (.bool (cpB key && blankB ⟨7,u,t,A,n,c,lo,hi,nt,0⟩))∧Grown w w':=by
 go_enter Tryz.func171,Tryz.ntmps171
 go_wp2_with (first | (go_at_call 189;refine (unitB_any _ _).mono ?_;rintro e w' ⟨rfl,rfl⟩) | (go_at_call 190;refine (copyB_any _ _).mono ?_;rintro e w' ⟨rfl,rfl⟩) | (go_at_call 191;refine (isBlank_any ⟨7,u,t,A,n,c,lo,hi,nt,0⟩ _).mono ?_;rintro e w9 ⟨rfl,hg⟩))
 all_goals go_ret
 all_goals first
  | exact ⟨by (simp [*];first | done | omega | (intros;omega)),grown2 _ _ hg⟩
  | exact ⟨by simp [*],grown2 _ _ hg⟩
  | exact ⟨by (simp [*];first | done | omega | (intros;omega)),((Grown.refl w).alloc _).alloc _⟩
  | exact ⟨by simp [*],((Grown.refl w).alloc _).alloc _⟩
set_option maxHeartbeats 4000000 in
theorem stands_8 (u:Int) (t:ByteArray) (A:Option Addr) (n c:Nat) (lo hi:Int) (nt:Bool) (key:Int) (w:World):Calls Tryz.prog 171 #[mia ⟨8,u,t,A,n,c,lo,hi,nt,key⟩] w fun e w'=>e = .returned (.bool ((cpB key && decide (n=1)) && blankB ⟨8,u,t,none,0,0,lo,hi,nt,0⟩))∧Grown w w':=by
 go_enter Tryz.func171,Tryz.ntmps171
 go_wp2_with (first | (go_at_call 189;refine (unitB_any _ _).mono ?_;rintro e w' ⟨rfl,rfl⟩) | (go_at_call 190;refine (copyB_any _ _).mono ?_;rintro e w' ⟨rfl,rfl⟩) | (go_at_call 191;refine (isBlank_any ⟨8,u,t,none,0,0,lo,hi,nt,0⟩ _).mono ?_;rintro e w9 ⟨rfl,hg⟩))
 all_goals go_ret
 all_goals first
  | exact ⟨by (simp [*];first | done | omega | (intros;omega)),grown2 _ _ hg⟩
  | exact ⟨by simp [*],grown2 _ _ hg⟩
  | exact ⟨by (simp [*];first | done | omega | (intros;omega)),((Grown.refl w).alloc _).alloc _⟩
  | exact ⟨by simp [*],((Grown.refl w).alloc _).alloc _⟩
set_option maxHeartbeats 4000000 in
theorem stands_else (k:Int) (u:Int) (t:ByteArray) (A:Option Addr) (n c:Nat) (lo hi:Int) (nt:Bool) (key:Int) (w:World) (h1:k≠1) (h2:k≠2) (h3:k≠3) (h5:k≠5) (h6:k≠6) (h7:k≠7) (h8:k≠8):Calls Tryz.prog 171 #[mia ⟨k,u,t,A,n,c,lo,hi,nt,key⟩] w fun e w'=>e = .returned (.bool (blankB ⟨k,u,t,A,n,c,lo,hi,nt,key⟩))∧Grown w w':=by
 have e1:(k == 1)=false:=by simpa using h1
 have e2:(k == 2)=false:=by simpa using h2
 have e3:(k == 3)=false:=by simpa using h3
 have e5:(k == 5)=false:=by simpa using h5
 have e6:(k == 6)=false:=by simpa using h6
 have e7:(k == 7)=false:=by simpa using h7
 have e8:(k == 8)=false:=by simpa using h8
 clear h1 h2 h3 h5 h6 h7 h8
 go_enter Tryz.func171,Tryz.ntmps171
 go_wp2_with fail
 refine (isBlank_any ⟨k,u,t,A,n,c,lo,hi,nt,key⟩ _).mono ?_
 rintro e w9 ⟨rfl,hg⟩
 have HG:Hid (Grown w w9):=grown2 _ _ hg
 clear hg
 go_wp2
 go_ret
 exact ⟨rfl,HG.out⟩
def stI (m:MI):Bool:=
 if m.k=1 then decide (0<wd m.u) && blankB { m with u:=0 }
 else if m.k=2∨m.k=3 then nameOk m.t && blankB { m with t:=⟨#[]⟩ }
 else if m.k=5 then true && blankB { m with nt:=false,A:=none,n:=0,c:=0 }
 else if m.k=6 then (decide (0<wd m.lo) && decide (0<wd m.hi)) && blankB { m with lo:=0,hi:=0 }
 else if m.k=7 then cpB m.key && blankB { m with key:=0 }
 else if m.k=8 then (cpB m.key && decide (m.n=1)) && blankB { m with key:=0,A:=none,n:=0,c:=0 }
 else blankB m
theorem itemStands_any (m:MI) (ht:m.t.size≤maxLen) (w:World):Calls Tryz.prog 171 #[mia m] w fun e w'=>e = .returned (.bool (stI m))∧Grown w w':=by
 obtain ⟨k,u,t,A,n,c,lo,hi,nt,key⟩:=m
 by_cases h1:k=1
 · subst h1;exact stands_1 u t A n c lo hi nt key w
 by_cases h2:k=2
 · subst h2;exact stands_2 u t A n c lo hi nt key ht w
 by_cases h3:k=3
 · subst h3;exact stands_3 u t A n c lo hi nt key ht w
 by_cases h5:k=5
 · subst h5;exact stands_5 u t A n c lo hi nt key w
 by_cases h6:k=6
 · subst h6;exact stands_6 u t A n c lo hi nt key w
 by_cases h7:k=7
 · subst h7;exact stands_7 u t A n c lo hi nt key w
 by_cases h8:k=8
 · subst h8;exact stands_8 u t A n c lo hi nt key w
 have:stI ⟨k,u,t,A,n,c,lo,hi,nt,key⟩=blankB ⟨k,u,t,A,n,c,lo,hi,nt,key⟩:=by simp [stI,h1,h2,h3,h5,h6,h7,h8]
 rw [this]
 exact stands_else k u t A n c lo hi nt key w h1 h2 h3 h5 h6 h7 h8
end Go.Proofs
