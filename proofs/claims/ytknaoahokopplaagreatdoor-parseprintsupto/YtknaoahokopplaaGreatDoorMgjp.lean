/-
  Several texts in one (Lap Jkp W0p).
-/
import Derived.Shelf.Abstract
import Derived.Shelf.RegionOpen
import Derived.WalkKit
import Derived.WalkSpells
import Derived.WalkLawsBesides
import Derived.BigQuiet
import Derived.Deep.QuietTactic
import Derived.Deep.LoopGhost
import Derived.WalkMore
import Derived.Shelf.SlSortCmp.QuietGrown
import Derived.Test.YtknaoahokopplaaGreatDoorMgip
import Derived.Defers
import Derived.Recover
namespace Go.Proofs
open Go.RowKit Go.Shelf
set_option maxRecDepth 100000
attribute [local go_sem] Oper.semAt_some
theorem mixed:Tryz.prog.follows .mixedOrders=true:=by kernel_rfl
theorem grown_of {P:Program} {f:FuncId} {args:Array Value} {w:World} {n:Nat} {os:Array Obj} {v:Value}
 (h:Calls P f args (Go.Sort.grow (w.drewN n) os) fun e w'=>e = .returned v∧Grown (Go.Sort.grow (w.drewN n) os) w'):Calls P f args (Go.Sort.grow (w.drewN n) os) fun e w''=>e = .returned v∧∃ p:GrownBy,w''=Go.Sort.grow (w.drewN p.n) p.os:=
 Calls.grown_of h
def CK (w w':World):Prop:=∀ a v,w.cell? a=some v→w'.cell? a=some v
theorem CK.trans {a b c:World} (h:CK a b) (k:CK b c):CK a c:=fun x v hx=>k x v (h x v hx)
theorem Grown.ck {w w':World} (h:Grown w w'):CK w w':=fun _ _ hv=>h.cellv hv
theorem ck_below {w w':World} (h:Below w.heap.size w w'):CK w w':=fun a v hv=>by
 obtain ⟨o,ho,_⟩:=cells_of_cell hv
 rw [h.cell (Array.getElem?_eq_some_iff.1 ho).1];exact hv
def ReadsI (w:World) (g z:Nat) (ms:List MI):Prop:=∀ j x,ms[j]? = some x→∀ i v,(mi1 x)[i]? = some v→w.cell? ⟨g,z+j*8+i,none⟩=some v
def RdR (w:World) (A:Option Addr) (n:Nat) (ms:List MI):Prop:=n=ms.length∧n≤9223372036854775807∧(n=0∨∃ g z,A=some ⟨g,z,none⟩∧ReadsI w g z ms)
def RdM:Nat→World→MI→It→Prop
 | 0,_,m,i=>Plain m i∧i.ps=[]∧m.n=0
 | d+1,w,m,i=>Plain m i∧∃ ms,RdR w m.A m.n ms∧All2 (RdM d w) ms i.ps
def RdI (d:Nat) (w:World) (A:Option Addr) (n:Nat) (l:List It):Prop:=∃ ms,RdR w A n ms∧All2 (RdM d w) ms l
theorem RdR.ck {w w':World} {A:Option Addr} {n:Nat} {ms:List MI} (h:RdR w A n ms) (k:CK w w'):RdR w' A n ms:=
 ⟨h.1,h.2.1,h.2.2.imp id fun ⟨g,z,e,r⟩=>⟨g,z,e,fun j x hj i v hv=>k _ _ (r j x hj i v hv)⟩⟩
theorem RdM.ck {w w':World} (k:CK w w'):∀ {d:Nat} {m:MI} {i:It},RdM d w m i→RdM d w' m i
 | 0,_,_,h=>h
 | _+1,_,_,h=>⟨h.1,h.2.imp fun _ q=>⟨q.1.ck k,q.2.mono fun _ _ r=>RdM.ck k r⟩⟩
theorem RdI.ck {d:Nat} {w w':World} {A:Option Addr} {n:Nat} {l:List It} (h:RdI d w A n l) (k:CK w w'):RdI d w' A n l:=
 h.imp fun _ q=>⟨q.1.ck k,q.2.mono fun _ _ r=>r.ck k⟩
theorem RdI.len {d:Nat} {w:World} {A:Option Addr} {n:Nat} {l:List It} (h:RdI d w A n l):n=l.length:=by
 obtain ⟨ms,h1,h2⟩:=h
 rw [h1.1,h2.length]
theorem RdM.plain:∀ {d:Nat} {w:World} {m:MI} {i:It},RdM d w m i→Plain m i
 | 0,_,_,_,h=>h.1
 | _+1,_,_,_,h=>h.1
theorem All2.get {α β:Type} {R:α→β→Prop} : ∀ {l:List α} {m:List β} (_:All2 R l m) {k:Nat} {a:α} {b:β},l[k]? = some a→m[k]? = some b→R a b
 | [],[],_,k,a,b,h1,_=>by simp at h1
 | _::_,_::_,h,0,a,b,h1,h2=>by simp at h1 h2;rw [←h1,←h2];exact h.1
 | _::_,_::_,h,k+1,a,b,h1,h2=>All2.get h.2 (by simpa using h1) (by simpa using h2)
 | [],_::_,h,_,_,_,_,_=>h.elim
 | _::_,[],h,_,_,_,_,_=>h.elim
set_option maxHeartbeats 4000000 in
theorem bare_any (k u:Int) (t:ByteArray) (A A':Option Addr) (n c n' c':Nat) (lo hi:Int) (nt:Bool) (key:Int) (w:World) :
 Calls Tryz.prog 63 #[mia ⟨k,u,t,A,n,c,lo,hi,nt,key⟩,mia ⟨k,u,t,A',n',c',lo,hi,nt,key⟩] w fun e w'=>e = .returned (.bool true)∧Grown w w':=by
 go_enter Tryz.func63,Tryz.ntmps63
 go_wp2
 go_ret
 exact ⟨rfl,((Grown.refl _).alloc _).alloc _⟩
set_option maxHeartbeats 1000000 in
theorem items_nil (A A':Option Addr) (c c':Nat) (deep:Int) (w:World):Calls Tryz.prog 31 #[.slice A 0 c,.slice A' 0 c',.int .i64 deep] w fun e w'=>e = .returned (.bool true)∧Grown w w':=by
 go_enter Tryz.func31,Tryz.ntmps31
 go_wp2
 refine wp_loop_rounds 1 ?_
 rw [rounds_succ]
 go_wp2
 go_ret
 exact ⟨rfl,Grown.refl _⟩
def PartsC (d:Nat):Prop:=∀ (w:World) (m m':MI) (i:It) (deep:Int),0≤deep→deep≤40→RdM d w m i→RdM d w m' i→Calls Tryz.prog 31 #[.slice m.A m.n m.c,.slice m'.A m'.n m'.c,.int .i64 deep] w fun e w'=>e = .returned (.bool true)∧Grown w w'
set_option maxHeartbeats 4000000 in
theorem items_of (d:Nat) (hP:PartsC d) (w:World) (g g' z z' n c c':Nat) (l:List It) (ms ms':List MI) (deep:Int) (hd1:0≤deep) (hd2:deep≤40) (hn:n=l.length) (hnn:n≤9223372036854775807)
 (h1:ReadsI w g z ms) (h2:ReadsI w g' z' ms') (a1:All2 (RdM d w) ms l) (a2:All2 (RdM d w) ms' l) :
 Calls Tryz.prog 31 #[.slice (some ⟨g,z,none⟩) n c,.slice (some ⟨g',z',none⟩) n c',.int .i64 deep] w fun e w'=>e = .returned (.bool true)∧Grown w w':=by
 have hl1:=a1.length
 have hl2:=a2.length
 have HH:Hid (PartsC d∧ReadsI w g z ms∧ReadsI w g' z' ms'∧All2 (RdM d w) ms l∧All2 (RdM d w) ms' l∧ms.length=n∧ms'.length=n∧l.length=n):=⟨hP,h1,h2,a1,a2,by omega,by omega,by omega⟩
 clear hP h1 h2 a1 a2 hl1 hl2 hn
 go_enter Tryz.func31,Tryz.ntmps31
 go_wp2
 go_loopw [7] (fun vi wr=>∃ k:Nat,vi = .int .i64 k∧k≤n∧Grown w wr) (fun vi _=>n - (intOf vi).toNat)
 case atStart=>exact ⟨0,rfl,by omega,Grown.refl _⟩
 case round=>
  obtain ⟨k,rfl,hk,hG⟩:=hrel
  have HG:Hid (Grown w wr):=hG
  by_cases hkn:k=n
  · subst hkn
    clear hG
    go_wp2
    go_ret
    exact ⟨rfl,HG.out⟩
  · have hkn:k<n:=by omega
    have hkd:decide ((k:Int)<(n:Int))=true:=by simpa using hkn
    obtain ⟨q1,q2,q3,q4,q5,q6,q7,q8⟩:=HH.out
    obtain ⟨x,hx⟩:∃ x,ms[k]? = some x:=⟨ms[k]'(by omega),List.getElem?_eq_getElem (by omega)⟩
    obtain ⟨y,hy⟩:∃ y,ms'[k]? = some y:=⟨ms'[k]'(by omega),List.getElem?_eq_getElem (by omega)⟩
    obtain ⟨i,hi⟩:∃ i,l[k]? = some i:=⟨l[k]'(by omega),List.getElem?_eq_getElem (by omega)⟩
    have r1:=q4.get hx hi
    have r2:=q5.get hy hi
    have hb:∀ w2,Calls Tryz.prog 63 #[mia x,mia y] w2 fun e w'=>e = .returned (.bool true)∧Grown w2 w':=fun w2=>by
     obtain ⟨ik,iu,it,ips,ilo,ihi,int,ikey⟩:=i
     obtain ⟨b1,b2,b3,b4,b5,b6,b7⟩:=r1.plain
     obtain ⟨c1,c2,c3,c4,c5,c6,c7⟩:=r2.plain
     have:=bare_any ik iu it x.A y.A x.n x.c y.n y.c ilo ihi int ikey w2
     obtain ⟨xk,xu,xt,xA,xn,xc,xlo,xhi,xnt,xkey⟩:=x
     obtain ⟨yk,yu,yt,yA,yn,yc,ylo,yhi,ynt,ykey⟩:=y
     simp only at b1 b2 b3 b4 b5 b6 b7 c1 c2 c3 c4 c5 c6 c7 this
     subst b1 b2 b3 b4 b5 b6 b7
     rw [c1,c2,c3,c4,c5,c6,c7]
     exact this
    have hp:1≤deep→∀ w2,Grown w w2→Calls Tryz.prog 31 #[.slice x.A x.n x.c,.slice y.A y.n y.c,.int .i64 (deep - 1)] w2 fun e w'=>e = .returned (.bool true)∧Grown w2 w':=fun h1 w2 hg=>q1 w2 x y i (deep - 1) (by omega) (by omega) (r1.ck hg.ck) (r2.ck hg.ck)
    have HC:Hid ((∀ w2,Calls Tryz.prog 63 #[mia x,mia y] w2 fun e w'=>e = .returned (.bool true)∧Grown w2 w')∧(1≤deep→∀ w2,Grown w w2→Calls Tryz.prog 31 #[.slice x.A x.n x.c,.slice y.A y.n y.c,.int .i64 (deep - 1)] w2 fun e w'=>e = .returned (.bool true)∧Grown w2 w')):=⟨hb,hp⟩
    have f1:∀ j v,(mi1 x)[j]? = some v→∀ w2,Grown w w2→w2.cell? ⟨g,z+k*8+j,none⟩=some v:=fun j v hv w2 hg=>hg.cellv (q2 k x hx j v hv)
    have f2:∀ j v,(mi1 y)[j]? = some v→∀ w2,Grown w w2→w2.cell? ⟨g',z'+k*8+j,none⟩=some v:=fun j v hv w2 hg=>hg.cellv (q3 k y hy j v hv)
    have HF:Hid ((∀ j v,(mi1 x)[j]? = some v→∀ w2,Grown w w2→w2.cell? ⟨g,z+k*8+j,none⟩=some v)∧(∀ j v,(mi1 y)[j]? = some v→∀ w2,Grown w w2→w2.cell? ⟨g',z'+k*8+j,none⟩=some v)):=⟨f1,f2⟩
    clear q1 q2 q3 q4 q5 q6 q7 q8 hx hy hi r1 r2 hb hp f1 f2
    obtain ⟨xk,xu,xt,xA,xn,xc,xlo,xhi,xnt,xkey⟩:=x
    obtain ⟨yk,yu,yt,yA,yn,yc,ylo,yhi,ynt,ykey⟩:=y
    have a0:=fun q os=>HF.out.1 0 _ rfl _ (hG.quiet q os)
    have a1:=fun q os=>HF.out.1 1 _ rfl _ (hG.quiet q os)
    have a2:=fun q os=>HF.out.1 2 _ rfl _ (hG.quiet q os)
    have a3:=fun q os=>HF.out.1 3 _ rfl _ (hG.quiet q os)
    have a4:=fun q os=>HF.out.1 4 _ rfl _ (hG.quiet q os)
    have a5:=fun q os=>HF.out.1 5 _ rfl _ (hG.quiet q os)
    have a6:=fun q os=>HF.out.1 6 _ rfl _ (hG.quiet q os)
    have a7:=fun q os=>HF.out.1 7 _ rfl _ (hG.quiet q os)
    have b0:=fun q os=>HF.out.2 0 _ rfl _ (hG.quiet q os)
    have b1:=fun q os=>HF.out.2 1 _ rfl _ (hG.quiet q os)
    have b2:=fun q os=>HF.out.2 2 _ rfl _ (hG.quiet q os)
    have b3:=fun q os=>HF.out.2 3 _ rfl _ (hG.quiet q os)
    have b4:=fun q os=>HF.out.2 4 _ rfl _ (hG.quiet q os)
    have b5:=fun q os=>HF.out.2 5 _ rfl _ (hG.quiet q os)
    have b6:=fun q os=>HF.out.2 6 _ rfl _ (hG.quiet q os)
    have b7:=fun q os=>HF.out.2 7 _ rfl _ (hG.quiet q os)
    clear hG
    simp only [Nat.add_zero] at a0 b0
    go_wp2
    refine wp_region_quiet_grown mixed (by kernel_rfl) ?_
    repeat (go_big_quiet_step ((go_at_call 63;exact grown_of (HC.out.1 _))))
    refine wpQuiet_nil ?_
    intro _ hw'
    obtain ⟨⟨nq,osq⟩,hw''⟩:=hw'
    subst hw''
    clear a0 a1 a2 a3 a4 a5 a6 a7 b0 b1 b2 b3 b4 b5 b6 b7
    obtain ⟨w2,hw2⟩:∃ x,x=Go.Sort.grow (wr.drewN nq) osq:=⟨_,rfl⟩
    rw [←hw2]
    have hG2:Grown w w2:=by rw [hw2];exact HG.out.quiet nq osq
    clear hw2
    have HG2:Hid (Grown w w2):=hG2
    have a3:=fun q os=>HF.out.1 3 _ rfl _ (hG2.quiet q os)
    have b3:=fun q os=>HF.out.2 3 _ rfl _ (hG2.quiet q os)
    clear hG2
    by_cases hdp:deep<1
    · have hdd:decide (deep<1)=true:=by simpa using hdp
      go_wp2
      refine wp_region_quiet_grown mixed (by kernel_rfl) ?_
      repeat (go_big_quiet_step (fail))
      refine wpQuiet_nil ?_
      intro _ hw'
      obtain ⟨⟨nq2,osq2⟩,hw''⟩:=hw'
      subst hw''
      go_wp2
      exact ⟨⟨k+1,by go_num,by omega,HG2.out.quiet _ _⟩,by simp [intOf];omega⟩
    · have hdd:decide (deep<1)=false:=by simpa using hdp
      have hd3:1≤deep:=by omega
      go_wp2
      refine wp_region_quiet_grown mixed (by kernel_rfl) ?_
      repeat (go_big_quiet_step ((go_at_call 31;exact grown_of (HC.out.2 hd3 _ (HG2.out.quiet _ _)))))
      refine wpQuiet_nil ?_
      intro _ hw'
      obtain ⟨⟨nq2,osq2⟩,hw''⟩:=hw'
      subst hw''
      go_wp2
      exact ⟨⟨k+1,by go_num,by omega,HG2.out.quiet _ _⟩,by simp [intOf];omega⟩
theorem items_rows (d:Nat) (hP:PartsC d) (w:World) (A A':Option Addr) (n n' c c':Nat) (l:List It) (deep:Int) (hd1:0≤deep) (hd2:deep≤40) (h1:RdI d w A n l) (h2:RdI d w A' n' l) :
 Calls Tryz.prog 31 #[.slice A n c,.slice A' n' c',.int .i64 deep] w fun e w'=>e = .returned (.bool true)∧Grown w w':=by
 have e1:=h1.len
 have e2:=h2.len
 obtain ⟨ms,r1,a1⟩:=h1
 obtain ⟨ms',r2,a2⟩:=h2
 obtain rfl:n'=n:=by omega
 rcases r1.2.2 with h0 | ⟨g,z,rfl,k1⟩
 · subst h0
   exact items_nil A A' c c' deep w
 · rcases r2.2.2 with h0 | ⟨g',z',rfl,k2⟩
   · subst h0
     exact items_nil _ A' c c' deep w
   · exact items_of d hP w g g' z z' n' c c' l ms ms' deep hd1 hd2 e1 r1.2.1 k1 k2 a1 a2
theorem partsC_all:∀ d,PartsC d
 | 0=>fun w m m' i deep _ _ h1 h2=>by
  rw [h1.2.2,h2.2.2]
  exact items_nil _ _ _ _ _ _
 | d+1=>fun w m m' i deep b1 b2 h1 h2=>by
  exact items_rows d (partsC_all d) w m.A m'.A m.n m'.n m.c m'.c i.ps deep b1 b2 h1.2 h2.2
theorem items_any (d:Nat) (w:World) (A A':Option Addr) (n n' c c':Nat) (l:List It) (deep:Int) (hd1:0≤deep) (hd2:deep≤40) (h1:RdI d w A n l) (h2:RdI d w A' n' l) :
 Calls Tryz.prog 31 #[.slice A n c,.slice A' n' c',.int .i64 deep] w fun e w'=>e = .returned (.bool true)∧Grown w w':=items_rows d (partsC_all d) w A A' n n' c c' l deep hd1 hd2 h1 h2
end Go.Proofs
namespace Go.Proofs
open Go.RowKit Go.Shelf
set_option maxRecDepth 100000
attribute [local go_sem] Oper.semAt_some
set_option maxHeartbeats 1000000 in
theorem catch_idle (p q:Addr) (w:World) :
 CallsD Tryz.prog 52 #[.pointer (some p),.pointer (some q)] .returning w fun e u' w'=>e = .returned (.tuple #[])∧u' = .returning∧w'=w:=by
 refine callsD_of_wpS Tryz.func52 rfl fun c₀ cs hu => ?_
 apply wpS_seq
 apply wpS_region
 simp [wpOpsS,go_sem,recoverD,hu,Tryz.ntmps52,Exit.thenS]
 refine wpS_of_wp ?_
 go_wp2
 cases c₀
 simp_all [bodyPostS,results,Tryz.results52]
set_option maxHeartbeats 1000000 in
theorem catch_thrown (P Q:Nat) (v0:Value) (a0 e0 a c:Int) (w:World) (hP:w.heap[P]? = some (.cells #[v0] 29 (0,0))) (hQ:FB w Q a0 e0) (hPQ:P≠Q) :
 CallsD Tryz.prog 52 #[.pointer (some ⟨P,0,none⟩),.pointer (some ⟨Q,0,none⟩)] (.panicking [{ v := .iface 32 (.agg #[.int .i64 a,.int .i64 c]),recovered:=false }]) w fun e u' w'=>
  e = .returned (.tuple #[])∧u' = .panicking [{ v := .iface 32 (.agg #[.int .i64 a,.int .i64 c]),recovered:=true }]∧w'.heap[P]? = some (.cells #[.slice none 0 0] 29 (0,0))∧FB w' Q a c∧Mv w w' P (some Q):=by
 refine callsD_of_wpS Tryz.func52 rfl fun c₀ cs hu => ?_
 apply wpS_seq
 apply wpS_region
 simp [wpOpsS,go_sem,recoverD,hu,Tryz.ntmps52,Exit.thenS]
 refine wpS_of_wp ?_
 have p0:w.cell? ⟨P,0,none⟩=some v0:=by simp [World.cell?,hP]
 have p1:w.frozen? ⟨P,0,none⟩=false:=by simp [World.frozen?,hP]
 obtain ⟨q0,q1,q2,q3⟩:=hQ.cells
 have hta:∀ (v:Value) (w:World),(Instr.typeAssert (.iface 32 v) 20 32 true).run Tryz.prog w = .ok (.tuple #[v,.bool true]) w:=fun _ _=>by kernel_rfl
 have hPl:P<w.heap.size:=(Array.getElem?_eq_some_iff.1 hP).1
 have hQl:=hQ.lt
 go_wp2
 have hP2:(w.alloc (.cells #[.int .i64 a,.int .i64 c] 32)).heap[P]? = some (.cells #[v0] 29 (0,0)):=(Below.heap_alloc _ _ _ hPl).trans hP
 have hQ2:FB (w.alloc (.cells #[.int .i64 a,.int .i64 c] 32)) Q a0 e0:=hQ.allocs _
 have hN:FB (w.alloc (.cells #[.int .i64 a,.int .i64 c] 32)) w.heap.size a c:=FB.new _ _ _
 have hM:Mv w (w.alloc (.cells #[.int .i64 a,.int .i64 c] 32)) P (some Q):=(Mv.refl _ _ _).alloc _
 have hNP:w.heap.size≠P:=by omega
 have hNQ:w.heap.size≠Q:=by omega
 have hQP:Q≠P:=fun e=>hPQ e.symm
 have hPN:P≠w.heap.size:=by omega
 have hQN:Q≠w.heap.size:=by omega
 generalize w.alloc (.cells #[.int .i64 a,.int .i64 c] 32)=W at *
 generalize w.heap.size=N at *
 have p0:W.cell? ⟨P,0,none⟩=some v0:=by simp [World.cell?,hP2]
 have p1:W.frozen? ⟨P,0,none⟩=false:=by simp [World.frozen?,hP2]
 obtain ⟨q0,q1,q2,q3⟩:=hQ2.cells
 obtain ⟨n0,n1,n2,n3⟩:=hN.cells
 have hfin:((((W.setCell ⟨P,0,none⟩ (.slice none 0 0)).setCell ⟨Q,0,none⟩ (.int .i64 a)).setCell ⟨Q,1,none⟩ (.int .i64 c)).drew).heap[P]? = some (.cells #[.slice none 0 0] 29 (0,0))∧FB ((((W.setCell ⟨P,0,none⟩ (.slice none 0 0)).setCell ⟨Q,0,none⟩ (.int .i64 a)).setCell ⟨Q,1,none⟩ (.int .i64 c)).drew) Q a c∧Mv w ((((W.setCell ⟨P,0,none⟩ (.slice none 0 0)).setCell ⟨Q,0,none⟩ (.int .i64 a)).setCell ⟨Q,1,none⟩ (.int .i64 c)).drew) P (some Q):=by
  have h1:((((W.setCell ⟨P,0,none⟩ (.slice none 0 0)).setCell ⟨Q,0,none⟩ (.int .i64 a)).setCell ⟨Q,1,none⟩ (.int .i64 c))).heap[P]? = some (.cells #[.slice none 0 0] 29 (0,0)):=by
   rw [heap_set_other _ hPQ,heap_set_other _ hPQ]
   exact cells_setS hP2
  have h2:FB (((W.setCell ⟨P,0,none⟩ (.slice none 0 0)).setCell ⟨Q,0,none⟩ (.int .i64 a)).setCell ⟨Q,1,none⟩ (.int .i64 c)) Q a c:=FB.set (show FB (W.setCell ⟨P,0,none⟩ (.slice none 0 0)) Q a0 e0 from (heap_set_other _ hQP _ _).trans hQ2) a c
  refine ⟨h1,h2,?_⟩
  refine ⟨hM.os,hM.tape,hM.output,by simpa using hM.size,fun k k1 k2 k3 => ?_⟩
  have k4:k≠Q:=fun e=>k3 (by rw [e])
  exact (heap_set_other _ k4 _ _).trans ((heap_set_other _ k4 _ _).trans ((heap_set_other _ k2 _ _).trans (hM.block k k1 k2 k3)))
 go_region
 all_goals exact ⟨rfl,_,rfl,.tuple #[],by simp [results,Tryz.f52],rfl,rfl,hfin⟩
end Go.Proofs
namespace Go.Proofs
open Go.RowKit Go.Shelf
set_option maxRecDepth 100000
attribute [local go_sem] Oper.semAt_some
set_option maxHeartbeats 1000000 in
theorem nameByte_any (b:UInt8) (w:World):Calls Tryz.prog 170 #[.int .u8 b.toNat] w fun e w'=>e = .returned (.bool (isNm b))∧w'=w:=by
 go_enter Tryz.func170,Tryz.ntmps170
 go_wp2
 all_goals (go_ret;refine ⟨?_,rfl⟩;simp [isNm,isLt,isDg];first | done | omega | (try rw [Bool.eq_iff_iff];simp;omega))
def cpB (n:Int):Bool:=decide (1≤n) && decide (n≤999999999)
theorem copyB_any (n:Int) (w:World):Calls Tryz.prog 190 #[.int .i64 n] w fun e w'=>e = .returned (.bool (cpB n))∧w'=w:=by
 go_enter Tryz.func190,Tryz.ntmps190
 go_wp2
 all_goals (go_ret;refine ⟨?_,rfl⟩;simp [cpB];first | done | omega)
theorem unitB_any (u:Int) (w:World):Calls Tryz.prog 189 #[.int .i64 u] w fun e w'=>e = .returned (.bool (decide (0<wd u)))∧w'=w:=by
 go_enter Tryz.func189,Tryz.ntmps189
 go_wp2_with (go_at_call 48;refine (width_any u _).mono ?_;rintro e w' ⟨rfl,rfl⟩)
 go_ret
 exact ⟨rfl,rfl⟩
def nameOk (s:ByteArray):Bool:=s.data.toList.all isNm && (decide (1≤s.size) && decide (s.size≤32))
theorem nameOk_no {s:ByteArray} {j:Nat} (hj:j<s.size) (hb:isNm s[j]=false):nameOk s=false:=by
 have hm:s[j]∈s.data.toList:=by
  rw [Array.mem_toList_iff]
  exact Array.getElem_mem (xs:=s.data) hj
 have:s.data.toList.all isNm=false:=by
  rw [List.all_eq_false]
  exact ⟨_,hm,by simp [hb]⟩
 unfold nameOk
 rw [this]
 rfl
theorem nameOk_step {s:ByteArray} {j:Nat} (hj:j<s.size) (h:(s.data.toList.take j).all isNm=true) (hb:isNm s[j]=true):(s.data.toList.take (j+1)).all isNm=true:=by
 have hl:j<s.data.toList.length:=by rw [Array.length_toList];exact hj
 rw [List.take_succ_eq_append_getElem hl,List.all_append,h]
 have:s.data.toList[j]=s[j]:=by simp;rfl
 rw [this]
 simp [hb]
theorem nameOk_end {s:ByteArray} {j:Nat} (hj:¬ j<s.size) (h:(s.data.toList.take j).all isNm=true):nameOk s=(decide (1≤s.size) && decide (s.size≤32)):=by
 rw [List.take_of_length_le (by rw [Array.length_toList];show s.size≤_;omega)] at h
 unfold nameOk
 rw [h]
 rfl
set_option maxHeartbeats 1000000 in
theorem isName_any (s:ByteArray) (hs:s.size≤maxLen) (w:World):Calls Tryz.prog 147 #[.string s] w fun e w'=>e = .returned (.bool (nameOk s))∧w'=w:=by
 have hs':(s.size:Int)≤9223372036854775807:=by unfold maxLen at hs;omega
 obtain ⟨n,hn⟩:∃ n,s.size=n:=⟨_,rfl⟩
 have hz:s.data.toList.length=s.size:=by rw [Array.length_toList];rfl
 go_enter Tryz.func147,Tryz.ntmps147
 go_wp2_with fail
 go_loopw [6] (fun v6 wr=>∃ j:Nat,v6 = .int .i64 j∧j≤s.size∧Hid ((s.data.toList.take j).all isNm=true)∧wr=w) (fun v6 _=>s.size - (intOf v6).toNat)
 case atStart=>exact ⟨0,rfl,by omega,rfl,rfl⟩
 case round=>
  obtain ⟨j,rfl,hj,HA,rfl⟩:=hrel
  by_cases hjn:j<s.size
  · have e1:decide ((j:Int)<(s.size:Int))=true:=by simpa using hjn
    have hb:=hjn
    go_wp2_with (go_at_call 170;refine (nameByte_any _ _).mono ?_;rintro e w' ⟨rfl,rfl⟩)
    · rename_i hb2
      go_ret
      exact ⟨by rw [nameOk_no hjn (by simpa using hb2)];rfl,rfl⟩
    · rename_i hb2
      exact ⟨⟨j+1,by go_num,by omega,nameOk_step hjn HA.out (by simpa using hb2),trivial⟩,by simp [intOf];omega⟩
  · have e1:decide ((j:Int)<(s.size:Int))=false:=by simpa using hjn
    have HN:Hid (nameOk s=(decide (1≤s.size) && decide (s.size≤32))):=nameOk_end hjn HA.out
    go_wp2
    all_goals
     go_ret
     refine ⟨?_,rfl⟩
     rw [HN.out,hn]
     simp
     try (first | omega | (rw [Bool.eq_iff_iff];simp;omega))
def blankB (m:MI):Bool:=m.u == 0 && (m.t.toList == (⟨#[]⟩:ByteArray).toList) && decide (m.n=0) && m.lo == 0 && m.hi == 0 && !m.nt && m.key == 0
set_option maxHeartbeats 1000000 in
theorem isBlank_any (m:MI) (w:World):Calls Tryz.prog 191 #[mia m] w fun e w'=>e = .returned (.bool (blankB m))∧Grown w w':=by
 go_enter Tryz.func191,Tryz.ntmps191
 go_wp2
 all_goals
  go_ret
  refine ⟨?_,(Grown.refl _).alloc _⟩
 all_goals (simp [blankB, *];try done)
end Go.Proofs
