/-
  Several texts in one (Lbk W6k Jpk).
-/
import Derived.Shelf.Abstract
import Derived.Shelf.RegionOpen
import Derived.WalkKit
import Derived.WalkSpells
import Derived.WalkLawsBesides
import Derived.BigQuiet
import Derived.Deep.QuietTactic
import Derived.Deep.LoopGhost
import Derived.WalkMore
import Derived.Shelf.SlSortCmp.QuietGrown
import Derived.Test.YtknaoahokopplaaGreatDoorMgwk
import Derived.Test.YtknaoahokopplaaGreatDoorJlk
import Derived.Test.YtknaoahokopplaaGreatDoorMgxk
import Derived.Lib.OthersKept
import Derived.Maps.AppendAt
import Derived.Lib.SmallJoins
import Derived.Lib.IndexBytes
import Derived.Lib.AppendStr
import Derived.Shelf.Strings.Builder1
import Derived.Test.YtknaoahokopplaaGreatDoorMgak
import Derived.Test.YtknaoahokopplaaGreatDoorMgbk
namespace Go.Proofs
open Go.RowKit Go.Shelf
set_option maxRecDepth 100000
attribute [local go_sem] Oper.semAt_some
def ReadsL (w:World) (g z:Nat) (ms:List ML):Prop:=∀ j x,ms[j]? = some x→∀ i v,(ml1 x)[i]? = some v→w.cell? ⟨g,z+j*10+i,none⟩=some v
def RdLn (d:Nat) (w:World) (m:ML) (l:Ln):Prop:=PlainL m l∧RdI d w m.s1.A m.s1.n l.ante∧RdI d w m.s2.A m.s2.n l.key∧RdI d w m.s3.A m.s3.n l.post∧RdI d w m.s4.A m.s4.n l.res
def RdLs (d:Nat) (w:World) (A:Option Addr) (n:Nat) (ls:List Ln):Prop:=∃ ms,n=ms.length∧(n=0∨∃ g z,A=some ⟨g,z,none⟩∧ReadsL w g z ms)∧All2 (RdLn d w) ms ls
theorem RdLn.ck {d:Nat} {w w':World} {m:ML} {l:Ln} (h:RdLn d w m l) (k:CK w w'):RdLn d w' m l:=⟨h.1,h.2.1.ck k,h.2.2.1.ck k,h.2.2.2.1.ck k,h.2.2.2.2.ck k⟩
theorem RdLs.ck {d:Nat} {w w':World} {A:Option Addr} {n:Nat} {ls:List Ln} (h:RdLs d w A n ls) (k:CK w w'):RdLs d w' A n ls:=
 h.imp fun _ q=>⟨q.1,q.2.1.imp id fun ⟨g,z,e,r⟩=>⟨g,z,e,fun j x hj i v hv=>k _ _ (r j x hj i v hv)⟩,q.2.2.mono fun _ _ r=>r.ck k⟩
theorem RdLs.len {d:Nat} {w:World} {A:Option Addr} {n:Nat} {ls:List Ln} (h:RdLs d w A n ls):n=ls.length:=by
 obtain ⟨ms,h1,_,h2⟩:=h
 rw [h1,h2.length]
theorem fl10_at (l:List ML) {j:Nat} {x:ML} (hj:l[j]? = some x) (i:Nat) (v:Value) (hv:(ml1 x)[i]? = some v):(fl10 l)[j*10+i]? = some v:=by
 induction l generalizing j with
 | nil=>simp at hj
 | cons a l ih=>
  have hl:(ml1 a).length=10:=rfl
  cases j with
  | zero=>
   simp at hj;subst hj
   have:i<(ml1 a).length:=(List.getElem?_eq_some_iff.1 hv).1
   simp only [fl10,List.flatMap_cons]
   rw [List.getElem?_append_left (by omega)]
   simpa using hv
  | succ j=>
   have:=ih (j:=j) (by simpa using hj)
   simp only [fl10,List.flatMap_cons]
   rw [List.getElem?_append_right (by omega),show (j+1)*10+i - (ml1 a).length=j*10+i by omega]
   exact this
theorem LR.rd {d:Nat} {w:World} {b:Nat} {x:Option Nat} {m:ML} {l:Ln} (h:LR d w b x m l):RdLn d w m l:=⟨h.1,Rows.rd h.2.1,Rows.rd h.2.2.1,Rows.rd h.2.2.2.1,Rows.rd h.2.2.2.2⟩
def SameA (b:Bool) (x y:Ln):Prop := { x with a:=0 } = { y with a:=0 } ∧ (b=true→x.a=y.a)
def LS2 (w W:World) (b:Nat) (x y:ML):Prop:=LB W b x∧LB W (b+1) y∧Below w.heap.size w W
theorem LS2.ck {w W:World} {b:Nat} {x y:ML} (h:LS2 w W b x y):CK w W:=ck_below h.2.2
theorem LS2.grown {w W W':World} {b:Nat} {x y:ML} (h:LS2 w W b x y) (g:Grown W W'):LS2 w W' b x y:=
 ⟨h.1.same (g.below.block _ h.1.lt),h.2.1.same (g.below.block _ h.2.1.lt),h.2.2.trans (g.below.mono h.2.2.size)⟩
theorem ls2_new {w W:World} (h:Below w.heap.size w W) (x y:ML):LS2 w ((W.alloc (.cells (ml1 x).toArray 44)).alloc (.cells (ml1 y).toArray 44)) W.heap.size x y:=by
 refine ⟨(LB.new W x).allocs _,?_,(h.alloc h.size _).alloc (by have:=h.size;simp;omega) _⟩
 have:=LB.new (W.alloc (.cells (ml1 x).toArray 44)) y
 rwa [World.size_alloc] at this
set_option maxHeartbeats 4000000 in
theorem lines_walk (d:Nat) (at':Bool) (w:World) (g g' z z' n c c':Nat) (ls ls':List Ln) (ms ms':List ML) (hn:n=ls.length) (hnn:n≤1000000000000000)
 (h1:ReadsL w g z ms) (h2:ReadsL w g' z' ms') (a1:All2 (RdLn d w) ms ls) (a2:All2 (RdLn d w) ms' ls') (hs:All2 (SameA at') ls ls') :
 Calls Tryz.prog 15 #[.slice (some ⟨g,z,none⟩) n c,.slice (some ⟨g',z',none⟩) n c',.bool at'] w fun e w'=>e = .returned (.bool true)∧Below w.heap.size w w':=by
 have hl1:=a1.length
 have hl2:=a2.length
 have hl3:=hs.length
 have HH:Hid (ReadsL w g z ms∧ReadsL w g' z' ms'∧All2 (RdLn d w) ms ls∧All2 (RdLn d w) ms' ls'∧All2 (SameA at') ls ls'∧ms.length=n∧ms'.length=n∧ls.length=n∧ls'.length=n):=⟨h1,h2,a1,a2,hs,by omega,by omega,by omega,by omega⟩
 clear h1 h2 a1 a2 hl1 hl2 hl3 hs hn
 go_enter Tryz.func15,Tryz.ntmps15
 go_wp2
 go_loopw [7] (fun vi wr=>∃ k:Nat,vi = .int .i64 k∧k≤n∧Below w.heap.size w wr) (fun vi _=>n - (intOf vi).toNat)
 case atStart=>exact ⟨0,rfl,by omega,Below.refl _ _⟩
 case round=>
  obtain ⟨k,rfl,hk,hG⟩:=hrel
  have HG:Hid (Below w.heap.size w wr):=hG
  by_cases hkn:k=n
  · subst hkn
    clear hG
    go_wp2
    go_ret
    exact ⟨rfl,HG.out⟩
  · have hkn:k<n:=by omega
    have hkd:decide ((k:Int)<(n:Int))=true:=by simpa using hkn
    obtain ⟨q1,q2,q3,q4,q5,q6,q7,q8,q9⟩:=HH.out
    obtain ⟨x,hx⟩:∃ x,ms[k]? = some x:=⟨ms[k]'(by omega),List.getElem?_eq_getElem (by omega)⟩
    obtain ⟨y,hy⟩:∃ y,ms'[k]? = some y:=⟨ms'[k]'(by omega),List.getElem?_eq_getElem (by omega)⟩
    obtain ⟨i,hi⟩:∃ i,ls[k]? = some i:=⟨ls[k]'(by omega),List.getElem?_eq_getElem (by omega)⟩
    obtain ⟨j,hj⟩:∃ j,ls'[k]? = some j:=⟨ls'[k]'(by omega),List.getElem?_eq_getElem (by omega)⟩
    have r1:=q3.get hx hi
    have r2:=q4.get hy hj
    have r3:=q5.get hi hj
    have ck:=ck_below hG
    have f1:∀ j v,(ml1 x)[j]? = some v→wr.cell? ⟨g,z+k*10+j,none⟩=some v:=fun j v hv=>ck _ _ (q1 k x hx j v hv)
    have f2:∀ j v,(ml1 y)[j]? = some v→wr.cell? ⟨g',z'+k*10+j,none⟩=some v:=fun j v hv=>ck _ _ (q2 k y hy j v hv)
    have hlt1:g<w.heap.size:=by
     obtain ⟨o,ho,_⟩:=cells_of_cell (q1 k x hx 0 _ rfl)
     exact (Array.getElem?_eq_some_iff.1 ho).1
    have hlt2:g'<w.heap.size:=by
     obtain ⟨o,ho,_⟩:=cells_of_cell (q2 k y hy 0 _ rfl)
     exact (Array.getElem?_eq_some_iff.1 ho).1
    obtain ⟨ik,ia,it,ibg,ien,i1,i2,i3,i4,icur⟩:=i
    obtain ⟨jk,ja,jt,jbg,jen,j1,j2,j3,j4,jcur⟩:=j
    obtain ⟨r3,r3a⟩:=r3
    simp only [Ln.mk.injEq] at r3 r3a
    obtain ⟨e1,-,e3,e4,e5,e6,e7,e8,e9,e10⟩:=r3
    subst e1 e3 e4 e5 e6 e7 e8 e9 e10
    obtain ⟨xk,xa,xt,xbg,xen,⟨xA1,xn1,xc1⟩,⟨xA2,xn2,xc2⟩,⟨xA3,xn3,xc3⟩,⟨xA4,xn4,xc4⟩,xcur⟩:=x
    obtain ⟨yk,ya,yt,ybg,yen,⟨yA1,yn1,yc1⟩,⟨yA2,yn2,yc2⟩,⟨yA3,yn3,yc3⟩,⟨yA4,yn4,yc4⟩,ycur⟩:=y
    obtain ⟨⟨p1,p2,p3,p4,p5,p6⟩,s1,s2,s3,s4⟩:=r1
    obtain ⟨⟨u1,u2,u3,u4,u5,u6⟩,t1,t2,t3,t4⟩:=r2
    simp only at p1 p2 p3 p4 p5 p6 u1 u2 u3 u4 u5 u6 s1 s2 s3 s4 t1 t2 t3 t4
    subst p1 p2 p3 p4 p5 p6 u1 u2 u3 u4 u5 u6
    have HC:Hid (CK w wr∧RdI d w xA1 xn1 i1∧RdI d w xA2 xn2 i2∧RdI d w xA3 xn3 i3∧RdI d w xA4 xn4 i4∧RdI d w yA1 yn1 i1∧RdI d w yA2 yn2 i2∧RdI d w yA3 yn3 i3∧RdI d w yA4 yn4 i4∧(at'=true→xa=ya)):=⟨ck,s1,s2,s3,s4,t1,t2,t3,t4,r3a⟩
    clear q1 q2 q3 q4 q5 q6 q7 q8 q9 hx hy hi hj ck s1 s2 s3 s4 t1 t2 t3 t4 r3a
    have b0:=f1 0 _ rfl
    have b1:=f1 1 _ rfl
    have b2:=f1 2 _ rfl
    have b3:=f1 3 _ rfl
    have b4:=f1 4 _ rfl
    have b5:=f1 5 _ rfl
    have b6:=f1 6 _ rfl
    have b7:=f1 7 _ rfl
    have b8:=f1 8 _ rfl
    have b9:=f1 9 _ rfl
    have d0:=fun o=>cell_up (f2 0 _ rfl) o
    have d1:=fun o=>cell_up (f2 1 _ rfl) o
    have d2:=fun o=>cell_up (f2 2 _ rfl) o
    have d3:=fun o=>cell_up (f2 3 _ rfl) o
    have d4:=fun o=>cell_up (f2 4 _ rfl) o
    have d5:=fun o=>cell_up (f2 5 _ rfl) o
    have d6:=fun o=>cell_up (f2 6 _ rfl) o
    have d7:=fun o=>cell_up (f2 7 _ rfl) o
    have d8:=fun o=>cell_up (f2 8 _ rfl) o
    have d9:=fun o=>cell_up (f2 9 _ rfl) o
    simp only [Nat.add_zero] at b0 d0
    clear f1 f2 hG
    have HS:Hid (LS2 w ((wr.alloc (.cells (ml1 ⟨yk,xa,yt,ybg,yen,⟨xA1,xn1,xc1⟩,⟨xA2,xn2,xc2⟩,⟨xA3,xn3,xc3⟩,⟨xA4,xn4,xc4⟩,ycur⟩).toArray 44)).alloc (.cells (ml1 ⟨yk,ya,yt,ybg,yen,⟨yA1,yn1,yc1⟩,⟨yA2,yn2,yc2⟩,⟨yA3,yn3,yc3⟩,⟨yA4,yn4,yc4⟩,ycur⟩).toArray 44)) wr.heap.size ⟨yk,xa,yt,ybg,yen,⟨xA1,xn1,xc1⟩,⟨xA2,xn2,xc2⟩,⟨xA3,xn3,xc3⟩,⟨xA4,xn4,xc4⟩,ycur⟩ ⟨yk,ya,yt,ybg,yen,⟨yA1,yn1,yc1⟩,⟨yA2,yn2,yc2⟩,⟨yA3,yn3,yc3⟩,⟨yA4,yn4,yc4⟩,ycur⟩):=ls2_new HG.out _ _
    go_wp2_with fail
    refine (items_any d _ xA1 yA1 xn1 yn1 xc1 yc1 i1 4 (by omega) (by omega) (HC.out.2.1.ck HS.out.ck) (HC.out.2.2.2.2.2.1.ck HS.out.ck)).mono ?_
    rintro e w1 ⟨rfl,hg⟩
    have HS1:Hid (LS2 w w1 wr.heap.size ⟨yk,xa,yt,ybg,yen,⟨xA1,xn1,xc1⟩,⟨xA2,xn2,xc2⟩,⟨xA3,xn3,xc3⟩,⟨xA4,xn4,xc4⟩,ycur⟩ ⟨yk,ya,yt,ybg,yen,⟨yA1,yn1,yc1⟩,⟨yA2,yn2,yc2⟩,⟨yA3,yn3,yc3⟩,⟨yA4,yn4,yc4⟩,ycur⟩):=HS.out.grown hg
    clear hg HS
    have HS:=HS1
    clear HS1
    obtain ⟨c0,c1,c2,c3,c4,c5,c6,c7,c8,c9⟩:=HS.out.1.cells
    obtain ⟨v0,v1,v2,v3,v4,v5,v6,v7,v8,v9⟩:=HS.out.2.1.cells
    go_wp2_with fail
    clear c0 c1 c2 c3 c4 c5 c6 c7 c8 c9 v0 v1 v2 v3 v4 v5 v6 v7 v8 v9
    refine (items_any d _ xA2 yA2 xn2 yn2 xc2 yc2 i2 4 (by omega) (by omega) (HC.out.2.2.1.ck HS.out.ck) (HC.out.2.2.2.2.2.2.1.ck HS.out.ck)).mono ?_
    rintro e w2 ⟨rfl,hg⟩
    have HS2:Hid (LS2 w w2 wr.heap.size ⟨yk,xa,yt,ybg,yen,⟨xA1,xn1,xc1⟩,⟨xA2,xn2,xc2⟩,⟨xA3,xn3,xc3⟩,⟨xA4,xn4,xc4⟩,ycur⟩ ⟨yk,ya,yt,ybg,yen,⟨yA1,yn1,yc1⟩,⟨yA2,yn2,yc2⟩,⟨yA3,yn3,yc3⟩,⟨yA4,yn4,yc4⟩,ycur⟩):=HS.out.grown hg
    clear hg HS
    have HS:=HS2
    clear HS2
    obtain ⟨c0,c1,c2,c3,c4,c5,c6,c7,c8,c9⟩:=HS.out.1.cells
    obtain ⟨v0,v1,v2,v3,v4,v5,v6,v7,v8,v9⟩:=HS.out.2.1.cells
    go_wp2_with fail
    clear c0 c1 c2 c3 c4 c5 c6 c7 c8 c9 v0 v1 v2 v3 v4 v5 v6 v7 v8 v9
    refine (items_any d _ xA3 yA3 xn3 yn3 xc3 yc3 i3 4 (by omega) (by omega) (HC.out.2.2.2.1.ck HS.out.ck) (HC.out.2.2.2.2.2.2.2.1.ck HS.out.ck)).mono ?_
    rintro e w3 ⟨rfl,hg⟩
    have HS3:Hid (LS2 w w3 wr.heap.size ⟨yk,xa,yt,ybg,yen,⟨xA1,xn1,xc1⟩,⟨xA2,xn2,xc2⟩,⟨xA3,xn3,xc3⟩,⟨xA4,xn4,xc4⟩,ycur⟩ ⟨yk,ya,yt,ybg,yen,⟨yA1,yn1,yc1⟩,⟨yA2,yn2,yc2⟩,⟨yA3,yn3,yc3⟩,⟨yA4,yn4,yc4⟩,ycur⟩):=HS.out.grown hg
    clear hg HS
    have HS:=HS3
    clear HS3
    obtain ⟨c0,c1,c2,c3,c4,c5,c6,c7,c8,c9⟩:=HS.out.1.cells
    obtain ⟨v0,v1,v2,v3,v4,v5,v6,v7,v8,v9⟩:=HS.out.2.1.cells
    go_wp2_with fail
    clear c0 c1 c2 c3 c4 c5 c6 c7 c8 c9 v0 v1 v2 v3 v4 v5 v6 v7 v8 v9
    refine (items_any d _ xA4 yA4 xn4 yn4 xc4 yc4 i4 4 (by omega) (by omega) (HC.out.2.2.2.2.1.ck HS.out.ck) (HC.out.2.2.2.2.2.2.2.2.1.ck HS.out.ck)).mono ?_
    rintro e w4 ⟨rfl,hg⟩
    have HS4:Hid (LS2 w w4 wr.heap.size ⟨yk,xa,yt,ybg,yen,⟨xA1,xn1,xc1⟩,⟨xA2,xn2,xc2⟩,⟨xA3,xn3,xc3⟩,⟨xA4,xn4,xc4⟩,ycur⟩ ⟨yk,ya,yt,ybg,yen,⟨yA1,yn1,yc1⟩,⟨yA2,yn2,yc2⟩,⟨yA3,yn3,yc3⟩,⟨yA4,yn4,yc4⟩,ycur⟩):=HS.out.grown hg
    clear hg HS
    have HS:=HS4
    clear HS4
    obtain ⟨c0,c1,c2,c3,c4,c5,c6,c7,c8,c9⟩:=HS.out.1.cells
    obtain ⟨v0,v1,v2,v3,v4,v5,v6,v7,v8,v9⟩:=HS.out.2.1.cells
    have ha:at'=true→xa=ya:=HC.out.2.2.2.2.2.2.2.2.2
    cases at' with
    | false=>
     go_wp2
     exact ⟨⟨k+1,by go_num,by omega,HS.out.2.2⟩,by simp [intOf];omega⟩
    | true=>
     obtain rfl:=ha rfl
     go_wp2
     exact ⟨⟨k+1,by go_num,by omega,HS.out.2.2⟩,by simp [intOf];omega⟩
set_option maxHeartbeats 1000000 in
theorem lines_nil (A A':Option Addr) (c c':Nat) (b:Bool) (w:World):Calls Tryz.prog 15 #[.slice A 0 c,.slice A' 0 c',.bool b] w fun e w'=>e = .returned (.bool true)∧Below w.heap.size w w':=by
 go_enter Tryz.func15,Tryz.ntmps15
 go_wp2
 refine wp_loop_rounds 1 ?_
 rw [rounds_succ]
 go_wp2
 go_ret
 exact ⟨rfl,Below.refl _ _⟩
theorem lines_any (d:Nat) (b:Bool) (w:World) (A A':Option Addr) (n n' c c':Nat) (ls ls':List Ln) (hnn:n≤1000000000000000) (h1:RdLs d w A n ls) (h2:RdLs d w A' n' ls') (hs:All2 (SameA b) ls ls') :
 Calls Tryz.prog 15 #[.slice A n c,.slice A' n' c',.bool b] w fun e w'=>e = .returned (.bool true)∧Below w.heap.size w w':=by
 have e1:=h1.len
 have e2:=h2.len
 have e3:=hs.length
 obtain rfl:n'=n:=by omega
 obtain ⟨ms,_,r1,a1⟩:=h1
 obtain ⟨ms',_,r2,a2⟩:=h2
 rcases r1 with h0 | ⟨g,z,rfl,k1⟩
 · subst h0
   exact lines_nil A A' c c' b w
 · rcases r2 with h0 | ⟨g',z',rfl,k2⟩
   · subst h0
     exact lines_nil _ A' c c' b w
   · exact lines_walk d b w g g' z z' n' c c' ls ls' ms ms' e1 hnn k1 k2 a1 a2 hs
end Go.Proofs
namespace Go.Proofs
open Go.RowKit Go.Shelf
set_option maxRecDepth 100000
attribute [local go_sem] Oper.semAt_some
def It.txt:It→ByteArray
 | .mk _ _ t _ _ _ _ _=>t
def Tz:Nat→It→Prop
 | 0,i=>i.txt.size≤maxLen
 | d+1,i=>i.txt.size≤maxLen∧∀ p∈i.ps,Tz d p
theorem Tz.txt:∀ {d:Nat} {i:It},Tz d i→i.txt.size≤maxLen
 | 0,_,h=>h
 | _+1,_,h=>h.1
theorem Plain.txt {m:MI} {i:It} (h:Plain m i):m.t=i.txt:=by
 obtain ⟨k,u,t,ps,lo,hi,nt,key⟩:=i
 exact h.2.2.1
theorem ckI_any:∀ (d may:Nat),may4 may→∀ (w:World) (m:MI) (i:It),RdM d w m i→Tz d i→Calls Tryz.prog 148 #[mia m,.int .i64 may] w (Lk w (ckI d may i))
 | 0,may,hm,w,m,i,h,ht=>by
  obtain ⟨k,u,t,A,n,c,lo,hi,nt,key⟩:=m
  obtain ⟨hP,hps,hn⟩:=h
  have hsz:t.size≤maxLen:=by rw [show t=i.txt from hP.txt];exact ht.txt
  refine ckItem_step may hm k u t A n c lo hi nt key hsz i hP (by rw [hps];exact hn) _ w ?_
  intro m2 _ W _
  have hn0:n=0:=hn
  subst hn0
  exact ckRow_step m2 (fun _=>none) W A 0 c [] [] ⟨rfl,by omega,.inl rfl⟩ rfl (fun j m i h=>by simp at h)
 | d+1,may,hm,w,m,i,h,ht=>by
  obtain ⟨k,u,t,A,n,c,lo,hi,nt,key⟩:=m
  obtain ⟨hP,ms,hR,hAll⟩:=h
  have hsz:t.size≤maxLen:=by rw [show t=i.txt from hP.txt];exact ht.txt
  have hlen:=hAll.length
  refine ckItem_step may hm k u t A n c lo hi nt key hsz i hP (by rw [←hlen];exact hR.1) _ w ?_
  intro m2 hm2 W hW
  refine ckRow_step m2 (ckI d m2) W A n c ms i.ps (RdR.ck hR hW.ck) hlen ?_
  intro j m' i' h1 h2 W2 hW2
  exact ckI_any d m2 (hm2.elim .inl fun h => .inr (.inr (.inl h))) W2 m' i' ((hAll.get h1 h2).ck (hW.ck.trans hW2.ck)) (ht.2 i' (List.mem_of_getElem? h2))
theorem ckRow_any (d may:Nat) (hm:may4 may) (w:World) (A:Option Addr) (n c:Nat) (l:List It) (h:RdI d w A n l) (ht:∀ i∈l,Tz d i):Calls Tryz.prog 113 #[.slice A n c,.int .i64 may] w (Lk w (ckRw (ckI d may) l)):=by
 obtain ⟨ms,hR,hAll⟩:=h
 refine ckRow_step may (ckI d may) w A n c ms l hR hAll.length ?_
 intro j m i h1 h2 W hW
 exact ckI_any d may hm W m i ((hAll.get h1 h2).ck hW.ck) (ht i (List.mem_of_getElem? h2))
def lnM (l:Ln):ML:=⟨l.k,l.a,l.t,l.bg,l.en,⟨none,l.ante.length,0⟩,⟨none,l.key.length,0⟩,⟨none,l.post.length,0⟩,⟨none,l.res.length,0⟩,l.cur⟩
theorem stL_same {d:Nat} {w:World} {m:ML} {l:Ln} (h:RdLn d w m l):stL m=stL (lnM l):=by
 obtain ⟨⟨h1,h2,h3,h4,h5,h6⟩,a1,a2,a3,a4⟩:=h
 have e1:=a1.len
 have e2:=a2.len
 have e3:=a3.len
 have e4:=a4.len
 obtain ⟨k,a,t,bg,en,⟨A1,n1,c1⟩,⟨A2,n2,c2⟩,⟨A3,n3,c3⟩,⟨A4,n4,c4⟩,cur⟩:=m
 simp only at h1 h2 h3 h4 h5 h6 e1 e2 e3 e4
 subst h1 h2 h3 h4 h5 h6
 subst e1 e2 e3 e4
 rfl
def ckLn (d:Nat) (l:Ln):Option Int:=
 if stL (lnM l) then ((ckRw (ckI d 62) l.ante).or ((ckRw (ckI d 62) l.key).or ((ckRw (ckI d 62) l.post).or (ckRw (ckI d 386) l.res)))) else some 50
def TzL (d:Nat) (l:Ln):Prop:=l.t.size≤maxLen∧(∀ i∈l.ante,Tz d i)∧(∀ i∈l.key,Tz d i)∧(∀ i∈l.post,Tz d i)∧∀ i∈l.res,Tz d i
set_option maxHeartbeats 4000000 in
theorem ckLine_any (d:Nat) (w:World) (m:ML) (l:Ln) (h:RdLn d w m l) (ht:TzL d l):Calls Tryz.prog 65 #[mla m] w (Lk w (ckLn d l)):=by
 have hst:=stL_same h
 obtain ⟨S,hS⟩:∃ S,ckLn d l=S:=⟨_,rfl⟩
 rw [hS]
 obtain ⟨bs,hbs⟩:∃ bs,stL m=bs:=⟨_,rfl⟩
 have hmt:m.t=l.t:=h.1.2.2.1
 have H112:Hid (∀ W,Calls Tryz.prog 112 #[mla m] W fun x w'=>x = .returned (.bool bs)∧Grown W w'):=fun W=>by
  have:=lineStands_any m (by rw [hmt];exact ht.1) W
  rw [hbs] at this
  exact this
 have HR:Hid (RdLn d w m l∧TzL d l):=⟨h,ht⟩
 have HG0:Hid (Grown w (w.alloc (.cells (ml1 m).toArray 44))):=(Grown.refl w).alloc _
 have HS:Hid (S=if bs then ((ckRw (ckI d 62) l.ante).or ((ckRw (ckI d 62) l.key).or ((ckRw (ckI d 62) l.post).or (ckRw (ckI d 386) l.res)))) else some 50):=by
  show _=_
  rw [←hS,ckLn,←hst,hbs]
 clear h ht hS hst hbs hmt
 go_enter Tryz.func65,Tryz.ntmps65
 go_wp2_with fail
 refine (H112.out _).mono ?_
 rintro x w2 ⟨rfl,hg2⟩
 have HG2:Hid (Grown w w2):=HG0.out.trans hg2
 have hlb:LB w2 w.heap.size m:=(hg2.below.block _ (by simp)).trans (World.alloc_heap_new _ _)
 have HB2:Hid (LB w2 w.heap.size m):=hlb
 clear hg2 hlb HG0
 cases bs with
 | false=>
  have HF:Hid (S=some 50):=HS.out
  go_wp2_with fail
  refine (demand_any false 50 _).mono ?_
  rintro x w3 ⟨rfl,rfl⟩
  exact ⟨rfl,HG2.out,by rw [HF.out]⟩
 | true=>
  have HF:Hid (S=((ckRw (ckI d 62) l.ante).or ((ckRw (ckI d 62) l.key).or ((ckRw (ckI d 62) l.post).or (ckRw (ckI d 386) l.res))))):=HS.out
  clear HS
  go_wp2_with fail
  refine (demand_any true 50 _).mono ?_
  rintro x w3 ⟨rfl,rfl⟩
  rw [if_pos rfl]
  obtain ⟨c0,c1,c2,c3,c4,c5,c6,c7,c8,c9⟩:=HB2.out.cells
  go_wp2_with fail
  refine (ckRow_any d 62 (.inr (.inl rfl)) _ m.s1.A m.s1.n m.s1.c l.ante (HR.out.1.2.1.ck HG2.out.ck) HR.out.2.2.1).mono ?_
  intro x v0 hx
  obtain ⟨hg,hx⟩:=hx
  have HGv0:Hid (Grown w v0):=HG2.out.trans hg
  have HBv0:Hid (LB v0 w.heap.size m):=HB2.out.same (hg.below.block _ HB2.out.lt)
  clear hg c0 c1 c2 c3 c4 c5 c6 c7 c8 c9
  cases hs0:ckRw (ckI d 62) l.ante with
  | some cd=>
   rw [hs0] at hx
   simp only at hx
   subst hx
   exact ⟨rfl,HGv0.out,by rw [HF.out,hs0];rfl⟩
  | none=>
   rw [hs0] at hx
   simp only at hx
   subst hx
   have HF0:Hid (S=((ckRw (ckI d 62) l.key).or ((ckRw (ckI d 62) l.post).or (ckRw (ckI d 386) l.res)))):=by
    show _=_
    rw [HF.out,hs0];rfl
   clear hs0 HF
   obtain ⟨c0,c1,c2,c3,c4,c5,c6,c7,c8,c9⟩:=HBv0.out.cells
   go_wp2_with fail
   refine (ckRow_any d 62 (.inr (.inl rfl)) _ m.s2.A m.s2.n m.s2.c l.key (HR.out.1.2.2.1.ck HGv0.out.ck) HR.out.2.2.2.1).mono ?_
   intro x v1 hx
   obtain ⟨hg,hx⟩:=hx
   have HGv1:Hid (Grown w v1):=HGv0.out.trans hg
   have HBv1:Hid (LB v1 w.heap.size m):=HBv0.out.same (hg.below.block _ HBv0.out.lt)
   clear hg c0 c1 c2 c3 c4 c5 c6 c7 c8 c9
   cases hs1:ckRw (ckI d 62) l.key with
   | some cd=>
    rw [hs1] at hx
    simp only at hx
    subst hx
    exact ⟨rfl,HGv1.out,by rw [HF0.out,hs1];rfl⟩
   | none=>
    rw [hs1] at hx
    simp only at hx
    subst hx
    have HF1:Hid (S=((ckRw (ckI d 62) l.post).or (ckRw (ckI d 386) l.res))):=by
     show _=_
     rw [HF0.out,hs1];rfl
    clear hs1 HF0
    obtain ⟨c0,c1,c2,c3,c4,c5,c6,c7,c8,c9⟩:=HBv1.out.cells
    go_wp2_with fail
    refine (ckRow_any d 62 (.inr (.inl rfl)) _ m.s3.A m.s3.n m.s3.c l.post (HR.out.1.2.2.2.1.ck HGv1.out.ck) HR.out.2.2.2.2.1).mono ?_
    intro x v2 hx
    obtain ⟨hg,hx⟩:=hx
    have HGv2:Hid (Grown w v2):=HGv1.out.trans hg
    have HBv2:Hid (LB v2 w.heap.size m):=HBv1.out.same (hg.below.block _ HBv1.out.lt)
    clear hg c0 c1 c2 c3 c4 c5 c6 c7 c8 c9
    cases hs2:ckRw (ckI d 62) l.post with
    | some cd=>
     rw [hs2] at hx
     simp only at hx
     subst hx
     exact ⟨rfl,HGv2.out,by rw [HF1.out,hs2];rfl⟩
    | none=>
     rw [hs2] at hx
     simp only at hx
     subst hx
     have HF2:Hid (S=(ckRw (ckI d 386) l.res)):=by
      show _=_
      rw [HF1.out,hs2];rfl
     clear hs2 HF1
     obtain ⟨c0,c1,c2,c3,c4,c5,c6,c7,c8,c9⟩:=HBv2.out.cells
     go_wp2_with fail
     refine (ckRow_any d 386 (.inr (.inr (.inr rfl))) _ m.s4.A m.s4.n m.s4.c l.res (HR.out.1.2.2.2.2.ck HGv2.out.ck) HR.out.2.2.2.2.2).mono ?_
     intro x v3 hx
     obtain ⟨hg,hx⟩:=hx
     have HGv3:Hid (Grown w v3):=HGv2.out.trans hg
     have HBv3:Hid (LB v3 w.heap.size m):=HBv2.out.same (hg.below.block _ HBv2.out.lt)
     clear hg c0 c1 c2 c3 c4 c5 c6 c7 c8 c9
     cases hs3:ckRw (ckI d 386) l.res with
     | some cd=>
      rw [hs3] at hx
      simp only at hx
      subst hx
      exact ⟨rfl,HGv3.out,by rw [HF2.out,hs3]⟩
     | none=>
      rw [hs3] at hx
      simp only at hx
      subst hx
      have HF3:Hid (S=none):=by
       show _=_
       rw [HF2.out,hs3]
      clear hs3 HF2
      go_wp2
      refine bodyPost_end (results_none rfl _ _ _) rfl ?_
      exact ⟨HGv3.out,by rw [HF3.out]⟩
end Go.Proofs
namespace Go.Proofs
open Go.RowKit Go.Shelf
set_option maxRecDepth 100000
attribute [local go_sem] Oper.semAt_some
theorem info5:(Tryz.prog.info? 5).map (fun i=>(i.zero,i.size,i.bytes))=some (some (.int .u8 0),1,1):=by kernel_rfl
theorem sizeB:(Tryz.prog.info? 71).map (·.size)=some 2:=by kernel_rfl
theorem liesB:liesAt Tryz.prog Tryz.prog.depth 71 (2 / Tryz.prog.cellsOf 71) 0 71 1=true:=by kernel_rfl
set_option maxHeartbeats 1000000 in
theorem check_used (b:Nat) (w:World) (h0:w.cell? ⟨b,0,none⟩=some (.pointer (some ⟨b,0,none⟩))) :
 Calls Tryz.prog 66 #[.pointer (some ⟨b,0,none⟩)] w fun e w'=>e = .returned (.tuple #[])∧w'=w:=by
 obtain ⟨j,hj,_⟩:=Option.map_eq_some_iff.1 sizeB
 have hne:=fun W:World=>Lib.run_neq_ptr_same (P:=Tryz.prog) W ⟨b,0,none⟩ Tryz.underlying69 hj
 go_enter Tryz.func66,Tryz.ntmps66
 go_wp2
 go_end0
 exact ⟨rfl,rfl⟩
set_option maxHeartbeats 1000000 in
theorem check_fresh (b:Nat) (w:World) (h0:w.cell? ⟨b,0,none⟩=some (.pointer none)) (hsh:w.shape? b=some (71,2)) (hfz:w.frozen? ⟨b,0,none⟩=false) :
 Calls Tryz.prog 66 #[.pointer (some ⟨b,0,none⟩)] w fun e w'=>e = .returned (.tuple #[])∧w'=w.setCell ⟨b,0,none⟩ (.pointer (some ⟨b,0,none⟩)):=by
 obtain ⟨j,hj,hjs⟩:=Option.map_eq_some_iff.1 sizeB
 have hne:=fun W:World=>Lib.run_neq_ptr_same (P:=Tryz.prog) W ⟨b,0,none⟩ Tryz.underlying69 hj
 have hto:=Lib.run_to_unsafe (P:=Tryz.prog) w ⟨b,0,none⟩ Tryz.underlying69 Tryz.underlying129 hj (by rw [hjs];decide) hsh (Nat.zero_lt_succ 1)
 have hfr:=Lib.run_from_unsafe (P:=Tryz.prog) w ⟨b,0,none⟩ Tryz.underlying129 Tryz.underlying69 hj hsh liesB
 have hno:(callFunc 114 #[.pointer (some ⟨b,0,none⟩)]).run Tryz.prog w = .ok (.value (.pointer (some ⟨b,0,none⟩))) w:=by
  rw [run_callFunc_extern Tryz.func114 (by kernel_rfl) (by kernel_rfl) (by kernel_rfl) (e:=Extern.AbiNoEscape.same) (by kernel_rfl),Lib.run_noEscape]
  rfl
 go_enter Tryz.func66,Tryz.ntmps66
 go_wp2
 go_end0
 exact ⟨rfl,rfl⟩
theorem check_any (B b:Nat) (bs:List Value) (w:World) (h:Lib.IsBuilder 71 5 B b bs w) :
 Calls Tryz.prog 66 #[.pointer (some ⟨b,0,none⟩)] w fun e w'=>e = .returned (.tuple #[])∧(Lib.BuilderAt 71 5 B b (.pointer (some ⟨b,0,none⟩)) bs w'∧Below B w w'):=by
 rcases h with h | h
 · refine (check_fresh b w h.cell0 h.shape h.frozen0).mono ?_
   rintro e w' ⟨rfl,rfl⟩
   exact ⟨rfl,h.used _,(Below.refl B w).setCell (p:=⟨b,0,none⟩) h.1 _⟩
 · refine (check_used b w h.cell0).mono ?_
   rintro e w' ⟨rfl,rfl⟩
   exact ⟨rfl,h,Below.refl B _⟩
set_option maxHeartbeats 2000000 in
theorem write_any (B b:Nat) (bs:List Value) (s:ByteArray) (w:World) (h:Lib.IsBuilder 71 5 B b bs w) (hlen:bs.length+s.size≤140737488355328) (hBw:B≤w.heap.size) :
 Calls Tryz.prog 36 #[.pointer (some ⟨b,0,none⟩),.string s] w fun e w'=>e = .returned (.tuple #[.int .i64 s.size,.nilIface])∧(Lib.BuilderAt 71 5 B b (.pointer (some ⟨b,0,none⟩)) (bs++Lib.strCells s) w'∧Below B w w'):=by
 obtain ⟨i0,hi,hz0,hz1,hz2⟩:=info_parts info5
 go_enter Tryz.func36,Tryz.ntmps36
 go_wp2_with (go_at_call 66;refine (check_any B b bs _ h).mono ?_)
 rintro e w1 ⟨rfl,h1,hb1⟩
 obtain ⟨hB,v,hbk,hown,hne⟩:=h1
 have hz:=hb1.size
 have c0:w1.cell? ⟨b,0,none⟩=some (.pointer (some ⟨b,0,none⟩)):=by rw [Lib.cell_of_heap hbk];rfl
 have c1:w1.cell? ⟨b,1,none⟩=some v:=by rw [Lib.cell_of_heap hbk];rfl
 go_wp2_with (at_builtin;refine Lib.wpList_append_own_string _ rfl _ _ 50 9 rfl B 5 i0 Tryz.underlying50 Tryz.underlying9 hi hz0 hz1 hz2 _ _ _ rfl hown s rfl ?c3 ?c4 ?c5 ?_)
 case c3=>unfold maxLen;omega
 case c4=>omega
 case c5=>omega
 intro v' w2 hown' hgrow _
 have hlt:b<w1.heap.size:=(Array.getElem?_eq_some_iff.1 hbk).1
 have hb2:w2.heap[b]? = some (.cells #[.pointer (some ⟨b,0,none⟩),v] 71 (0,0)):=by
  rw [hgrow.block b hlt (fun e=>hne e.symm)]
  exact hbk
 have d0:w2.cell? ⟨b,0,none⟩=some (.pointer (some ⟨b,0,none⟩)):=by rw [Lib.cell_of_heap hb2];rfl
 have d1:w2.cell? ⟨b,1,none⟩=some v:=by rw [Lib.cell_of_heap hb2];rfl
 have f1:w2.frozen? ⟨b,1,none⟩=false:=Lib.frozen_of_heap hb2 1
 obtain ⟨ao,n',cap,rfl⟩:∃ ao n' cap,v' = .slice ao n' cap:=by
  rcases hown'.2 with ⟨hv,_⟩ | ⟨g,cap,cur,hv,_⟩
  · exact ⟨_,_,_,hv⟩
  · exact ⟨_,_,_,hv⟩
 go_wp2
 go_ret2
 refine ⟨rfl,?_,?_⟩
 · exact Lib.BuilderAt.put (T:=71) (e:=5) hB hb2 (bs':=bs++Lib.strCells s) (by simpa [Lib.strCells_length] using hown') (by decide)
 · exact (hb1.grown hgrow (by omega) (fun k hk=>(hown.lt k hk).1)).setCell (p:=⟨b,1,none⟩) hB _
set_option maxHeartbeats 2000000 in
theorem byte_any (B b:Nat) (bs:List Value) (c:Int) (w:World) (h:Lib.IsBuilder 71 5 B b bs w) (hlen:bs.length+1≤140737488355328) (hBw:B≤w.heap.size) :
 Calls Tryz.prog 39 #[.pointer (some ⟨b,0,none⟩),.int .u8 c] w fun e w'=>e = .returned .nilIface∧(Lib.BuilderAt 71 5 B b (.pointer (some ⟨b,0,none⟩)) (bs++[.int .u8 c]) w'∧Below B w w'):=by
 obtain ⟨i0,hi,hz0,hz1,hz2⟩:=info_parts info5
 go_enter Tryz.func39,Tryz.ntmps39
 go_wp2_with (go_at_call 66;refine (check_any B b bs _ h).mono ?_)
 rintro e w1 ⟨rfl,h1,hb1⟩
 obtain ⟨hB,v,hbk,hown,hne⟩:=h1
 have hz:=hb1.size
 have hlt:b<w1.heap.size:=(Array.getElem?_eq_some_iff.1 hbk).1
 have c0:w1.cell? ⟨b,0,none⟩=some (.pointer (some ⟨b,0,none⟩)):=by rw [Lib.cell_of_heap hbk];rfl
 have c1:w1.cell? ⟨b,1,none⟩=some v:=by rw [Lib.cell_of_heap hbk];rfl
 have hown2:(w1.alloc (.cells #[.int .u8 c] 5)).ownsRow B 5 1 v bs.length bs:=World.ownsRow.alloc hown _
 go_wp2_with (at_builtin;refine wpList_append_own _ rfl _ _ 50 rfl B 5 i0 _ 1 1 Tryz.underlying50 hi hz0 hz1 hz2 rfl (by decide) _ _ _ rfl hown2 ⟨w1.heap.size,0,none⟩ 1 1 [.int .u8 c] rfl rfl ?c1 ?c2 ?c3 ?c4 ?c5 ?_)
 case c1=>
  intro j u hj
  match j,hj with
  | 0,hj=>
   simp at hj
   subst hj
   have hn:=World.alloc_heap_new w1 (.cells #[.int .u8 c] 5)
   show (w1.alloc (.cells #[.int .u8 c] 5)).cell? ⟨w1.heap.size,0,none⟩=_
   rw [Lib.cell_of_heap hn]
   rfl
 case c2=>intro u hu;simp at hu;subst hu;rfl
 case c3=>unfold maxLen;omega
 case c4=>omega
 case c5=>simp;omega
 intro v' w2 hown' hgrow _
 have hb2:w2.heap[b]? = some (.cells #[.pointer (some ⟨b,0,none⟩),v] 71 (0,0)):=by
  rw [hgrow.block b (by simp;omega) (fun e=>hne e.symm)]
  exact (Below.heap_alloc _ _ _ hlt).trans hbk
 have d0:w2.cell? ⟨b,0,none⟩=some (.pointer (some ⟨b,0,none⟩)):=by rw [Lib.cell_of_heap hb2];rfl
 have d1:w2.cell? ⟨b,1,none⟩=some v:=by rw [Lib.cell_of_heap hb2];rfl
 have f1:w2.frozen? ⟨b,1,none⟩=false:=Lib.frozen_of_heap hb2 1
 obtain ⟨ao,n',cap,rfl⟩:∃ ao n' cap,v' = .slice ao n' cap:=by
  rcases hown'.2 with ⟨hv,_⟩ | ⟨g,cap,cur,hv,_⟩
  · exact ⟨_,_,_,hv⟩
  · exact ⟨_,_,_,hv⟩
 go_wp2
 go_ret
 refine ⟨rfl,?_,?_⟩
 · exact Lib.BuilderAt.put (T:=71) (e:=5) hB hb2 (bs':=bs++[.int .u8 c]) (by simpa using hown') (by decide)
 · exact ((hb1.alloc (by omega) _).grown hgrow (by simp;omega) (fun k hk=>(hown.lt k hk).1)).setCell (p:=⟨b,1,none⟩) hB _
end Go.Proofs
