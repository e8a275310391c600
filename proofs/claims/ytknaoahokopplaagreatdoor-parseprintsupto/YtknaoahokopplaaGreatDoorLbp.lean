/-
  Lists of lines that mean the same are alike.
-/
import Derived.Shelf.Abstract
import Derived.Shelf.RegionOpen
import Derived.WalkKit
import Derived.WalkSpells
import Derived.WalkLawsBesides
import Derived.BigQuiet
import Derived.Deep.QuietTactic
import Derived.Deep.LoopGhost
import Derived.WalkMore
import Derived.Shelf.SlSortCmp.QuietGrown
import Derived.Test.YtknaoahokopplaaGreatDoorMgjp
import Derived.Test.YtknaoahokopplaaGreatDoorJlp
namespace Go.Proofs
open Go.RowKit Go.Shelf
set_option maxRecDepth 100000
attribute [local go_sem] Oper.semAt_some
def ReadsL (w:World) (g z:Nat) (ms:List ML):Prop:=∀ j x,ms[j]? = some x→∀ i v,(ml1 x)[i]? = some v→w.cell? ⟨g,z+j*10+i,none⟩=some v
def RdLn (d:Nat) (w:World) (m:ML) (l:Ln):Prop:=PlainL m l∧RdI d w m.s1.A m.s1.n l.ante∧RdI d w m.s2.A m.s2.n l.key∧RdI d w m.s3.A m.s3.n l.post∧RdI d w m.s4.A m.s4.n l.res
def RdLs (d:Nat) (w:World) (A:Option Addr) (n:Nat) (ls:List Ln):Prop:=∃ ms,n=ms.length∧(n=0∨∃ g z,A=some ⟨g,z,none⟩∧ReadsL w g z ms)∧All2 (RdLn d w) ms ls
theorem RdLn.ck {d:Nat} {w w':World} {m:ML} {l:Ln} (h:RdLn d w m l) (k:CK w w'):RdLn d w' m l:=⟨h.1,h.2.1.ck k,h.2.2.1.ck k,h.2.2.2.1.ck k,h.2.2.2.2.ck k⟩
theorem RdLs.ck {d:Nat} {w w':World} {A:Option Addr} {n:Nat} {ls:List Ln} (h:RdLs d w A n ls) (k:CK w w'):RdLs d w' A n ls:=
 h.imp fun _ q=>⟨q.1,q.2.1.imp id fun ⟨g,z,e,r⟩=>⟨g,z,e,fun j x hj i v hv=>k _ _ (r j x hj i v hv)⟩,q.2.2.mono fun _ _ r=>r.ck k⟩
theorem RdLs.len {d:Nat} {w:World} {A:Option Addr} {n:Nat} {ls:List Ln} (h:RdLs d w A n ls):n=ls.length:=by
 obtain ⟨ms,h1,_,h2⟩:=h
 rw [h1,h2.length]
theorem fl10_at (l:List ML) {j:Nat} {x:ML} (hj:l[j]? = some x) (i:Nat) (v:Value) (hv:(ml1 x)[i]? = some v):(fl10 l)[j*10+i]? = some v:=by
 induction l generalizing j with
 | nil=>simp at hj
 | cons a l ih=>
  have hl:(ml1 a).length=10:=rfl
  cases j with
  | zero=>
   simp at hj;subst hj
   have:i<(ml1 a).length:=(List.getElem?_eq_some_iff.1 hv).1
   simp only [fl10,List.flatMap_cons]
   rw [List.getElem?_append_left (by omega)]
   simpa using hv
  | succ j=>
   have:=ih (j:=j) (by simpa using hj)
   simp only [fl10,List.flatMap_cons]
   rw [List.getElem?_append_right (by omega),show (j+1)*10+i - (ml1 a).length=j*10+i by omega]
   exact this
def SameA (b:Bool) (x y:Ln):Prop := { x with a:=0 } = { y with a:=0 } ∧ (b=true→x.a=y.a)
def LS2 (w W:World) (b:Nat) (x y:ML):Prop:=LB W b x∧LB W (b+1) y∧Below w.heap.size w W
theorem LS2.ck {w W:World} {b:Nat} {x y:ML} (h:LS2 w W b x y):CK w W:=ck_below h.2.2
theorem LS2.grown {w W W':World} {b:Nat} {x y:ML} (h:LS2 w W b x y) (g:Grown W W'):LS2 w W' b x y:=
 ⟨h.1.same (g.below.block _ h.1.lt),h.2.1.same (g.below.block _ h.2.1.lt),h.2.2.trans (g.below.mono h.2.2.size)⟩
theorem ls2_new {w W:World} (h:Below w.heap.size w W) (x y:ML):LS2 w ((W.alloc (.cells (ml1 x).toArray 44)).alloc (.cells (ml1 y).toArray 44)) W.heap.size x y:=by
 refine ⟨(LB.new W x).allocs _,?_,(h.alloc h.size _).alloc (by have:=h.size;simp;omega) _⟩
 have:=LB.new (W.alloc (.cells (ml1 x).toArray 44)) y
 rwa [World.size_alloc] at this
set_option maxHeartbeats 4000000 in
theorem lines_walk (d:Nat) (at':Bool) (w:World) (g g' z z' n c c':Nat) (ls ls':List Ln) (ms ms':List ML) (hn:n=ls.length) (hnn:n≤1000000000000000)
 (h1:ReadsL w g z ms) (h2:ReadsL w g' z' ms') (a1:All2 (RdLn d w) ms ls) (a2:All2 (RdLn d w) ms' ls') (hs:All2 (SameA at') ls ls') :
 Calls Tryz.prog 15 #[.slice (some ⟨g,z,none⟩) n c,.slice (some ⟨g',z',none⟩) n c',.bool at'] w fun e w'=>e = .returned (.bool true)∧Below w.heap.size w w':=by
 have hl1:=a1.length
 have hl2:=a2.length
 have hl3:=hs.length
 have HH:Hid (ReadsL w g z ms∧ReadsL w g' z' ms'∧All2 (RdLn d w) ms ls∧All2 (RdLn d w) ms' ls'∧All2 (SameA at') ls ls'∧ms.length=n∧ms'.length=n∧ls.length=n∧ls'.length=n):=⟨h1,h2,a1,a2,hs,by omega,by omega,by omega,by omega⟩
 clear h1 h2 a1 a2 hl1 hl2 hl3 hs hn
 go_enter Tryz.func15,Tryz.ntmps15
 go_wp2
 go_loopw [7] (fun vi wr=>∃ k:Nat,vi = .int .i64 k∧k≤n∧Below w.heap.size w wr) (fun vi _=>n - (intOf vi).toNat)
 case atStart=>exact ⟨0,rfl,by omega,Below.refl _ _⟩
 case round=>
  obtain ⟨k,rfl,hk,hG⟩:=hrel
  have HG:Hid (Below w.heap.size w wr):=hG
  by_cases hkn:k=n
  · subst hkn
    clear hG
    go_wp2
    go_ret
    exact ⟨rfl,HG.out⟩
  · have hkn:k<n:=by omega
    have hkd:decide ((k:Int)<(n:Int))=true:=by simpa using hkn
    obtain ⟨q1,q2,q3,q4,q5,q6,q7,q8,q9⟩:=HH.out
    obtain ⟨x,hx⟩:∃ x,ms[k]? = some x:=⟨ms[k]'(by omega),List.getElem?_eq_getElem (by omega)⟩
    obtain ⟨y,hy⟩:∃ y,ms'[k]? = some y:=⟨ms'[k]'(by omega),List.getElem?_eq_getElem (by omega)⟩
    obtain ⟨i,hi⟩:∃ i,ls[k]? = some i:=⟨ls[k]'(by omega),List.getElem?_eq_getElem (by omega)⟩
    obtain ⟨j,hj⟩:∃ j,ls'[k]? = some j:=⟨ls'[k]'(by omega),List.getElem?_eq_getElem (by omega)⟩
    have r1:=q3.get hx hi
    have r2:=q4.get hy hj
    have r3:=q5.get hi hj
    have ck:=ck_below hG
    have f1:∀ j v,(ml1 x)[j]? = some v→wr.cell? ⟨g,z+k*10+j,none⟩=some v:=fun j v hv=>ck _ _ (q1 k x hx j v hv)
    have f2:∀ j v,(ml1 y)[j]? = some v→wr.cell? ⟨g',z'+k*10+j,none⟩=some v:=fun j v hv=>ck _ _ (q2 k y hy j v hv)
    have hlt1:g<w.heap.size:=by
     obtain ⟨o,ho,_⟩:=cells_of_cell (q1 k x hx 0 _ rfl)
     exact (Array.getElem?_eq_some_iff.1 ho).1
    have hlt2:g'<w.heap.size:=by
     obtain ⟨o,ho,_⟩:=cells_of_cell (q2 k y hy 0 _ rfl)
     exact (Array.getElem?_eq_some_iff.1 ho).1
    obtain ⟨ik,ia,it,ibg,ien,i1,i2,i3,i4,icur⟩:=i
    obtain ⟨jk,ja,jt,jbg,jen,j1,j2,j3,j4,jcur⟩:=j
    obtain ⟨r3,r3a⟩:=r3
    simp only [Ln.mk.injEq] at r3 r3a
    obtain ⟨e1,-,e3,e4,e5,e6,e7,e8,e9,e10⟩:=r3
    subst e1 e3 e4 e5 e6 e7 e8 e9 e10
    obtain ⟨xk,xa,xt,xbg,xen,⟨xA1,xn1,xc1⟩,⟨xA2,xn2,xc2⟩,⟨xA3,xn3,xc3⟩,⟨xA4,xn4,xc4⟩,xcur⟩:=x
    obtain ⟨yk,ya,yt,ybg,yen,⟨yA1,yn1,yc1⟩,⟨yA2,yn2,yc2⟩,⟨yA3,yn3,yc3⟩,⟨yA4,yn4,yc4⟩,ycur⟩:=y
    obtain ⟨⟨p1,p2,p3,p4,p5,p6⟩,s1,s2,s3,s4⟩:=r1
    obtain ⟨⟨u1,u2,u3,u4,u5,u6⟩,t1,t2,t3,t4⟩:=r2
    simp only at p1 p2 p3 p4 p5 p6 u1 u2 u3 u4 u5 u6 s1 s2 s3 s4 t1 t2 t3 t4
    subst p1 p2 p3 p4 p5 p6 u1 u2 u3 u4 u5 u6
    have HC:Hid (CK w wr∧RdI d w xA1 xn1 i1∧RdI d w xA2 xn2 i2∧RdI d w xA3 xn3 i3∧RdI d w xA4 xn4 i4∧RdI d w yA1 yn1 i1∧RdI d w yA2 yn2 i2∧RdI d w yA3 yn3 i3∧RdI d w yA4 yn4 i4∧(at'=true→xa=ya)):=⟨ck,s1,s2,s3,s4,t1,t2,t3,t4,r3a⟩
    clear q1 q2 q3 q4 q5 q6 q7 q8 q9 hx hy hi hj ck s1 s2 s3 s4 t1 t2 t3 t4 r3a
    have b0:=f1 0 _ rfl
    have b1:=f1 1 _ rfl
    have b2:=f1 2 _ rfl
    have b3:=f1 3 _ rfl
    have b4:=f1 4 _ rfl
    have b5:=f1 5 _ rfl
    have b6:=f1 6 _ rfl
    have b7:=f1 7 _ rfl
    have b8:=f1 8 _ rfl
    have b9:=f1 9 _ rfl
    have d0:=fun o=>cell_up (f2 0 _ rfl) o
    have d1:=fun o=>cell_up (f2 1 _ rfl) o
    have d2:=fun o=>cell_up (f2 2 _ rfl) o
    have d3:=fun o=>cell_up (f2 3 _ rfl) o
    have d4:=fun o=>cell_up (f2 4 _ rfl) o
    have d5:=fun o=>cell_up (f2 5 _ rfl) o
    have d6:=fun o=>cell_up (f2 6 _ rfl) o
    have d7:=fun o=>cell_up (f2 7 _ rfl) o
    have d8:=fun o=>cell_up (f2 8 _ rfl) o
    have d9:=fun o=>cell_up (f2 9 _ rfl) o
    simp only [Nat.add_zero] at b0 d0
    clear f1 f2 hG
    have HS:Hid (LS2 w ((wr.alloc (.cells (ml1 ⟨yk,xa,yt,ybg,yen,⟨xA1,xn1,xc1⟩,⟨xA2,xn2,xc2⟩,⟨xA3,xn3,xc3⟩,⟨xA4,xn4,xc4⟩,ycur⟩).toArray 44)).alloc (.cells (ml1 ⟨yk,ya,yt,ybg,yen,⟨yA1,yn1,yc1⟩,⟨yA2,yn2,yc2⟩,⟨yA3,yn3,yc3⟩,⟨yA4,yn4,yc4⟩,ycur⟩).toArray 44)) wr.heap.size ⟨yk,xa,yt,ybg,yen,⟨xA1,xn1,xc1⟩,⟨xA2,xn2,xc2⟩,⟨xA3,xn3,xc3⟩,⟨xA4,xn4,xc4⟩,ycur⟩ ⟨yk,ya,yt,ybg,yen,⟨yA1,yn1,yc1⟩,⟨yA2,yn2,yc2⟩,⟨yA3,yn3,yc3⟩,⟨yA4,yn4,yc4⟩,ycur⟩):=ls2_new HG.out _ _
    go_wp2_with fail
    refine (items_any d _ xA1 yA1 xn1 yn1 xc1 yc1 i1 4 (by omega) (by omega) (HC.out.2.1.ck HS.out.ck) (HC.out.2.2.2.2.2.1.ck HS.out.ck)).mono ?_
    rintro e w1 ⟨rfl,hg⟩
    have HS1:Hid (LS2 w w1 wr.heap.size ⟨yk,xa,yt,ybg,yen,⟨xA1,xn1,xc1⟩,⟨xA2,xn2,xc2⟩,⟨xA3,xn3,xc3⟩,⟨xA4,xn4,xc4⟩,ycur⟩ ⟨yk,ya,yt,ybg,yen,⟨yA1,yn1,yc1⟩,⟨yA2,yn2,yc2⟩,⟨yA3,yn3,yc3⟩,⟨yA4,yn4,yc4⟩,ycur⟩):=HS.out.grown hg
    clear hg HS
    have HS:=HS1
    clear HS1
    obtain ⟨c0,c1,c2,c3,c4,c5,c6,c7,c8,c9⟩:=HS.out.1.cells
    obtain ⟨v0,v1,v2,v3,v4,v5,v6,v7,v8,v9⟩:=HS.out.2.1.cells
    go_wp2_with fail
    clear c0 c1 c2 c3 c4 c5 c6 c7 c8 c9 v0 v1 v2 v3 v4 v5 v6 v7 v8 v9
    refine (items_any d _ xA2 yA2 xn2 yn2 xc2 yc2 i2 4 (by omega) (by omega) (HC.out.2.2.1.ck HS.out.ck) (HC.out.2.2.2.2.2.2.1.ck HS.out.ck)).mono ?_
    rintro e w2 ⟨rfl,hg⟩
    have HS2:Hid (LS2 w w2 wr.heap.size ⟨yk,xa,yt,ybg,yen,⟨xA1,xn1,xc1⟩,⟨xA2,xn2,xc2⟩,⟨xA3,xn3,xc3⟩,⟨xA4,xn4,xc4⟩,ycur⟩ ⟨yk,ya,yt,ybg,yen,⟨yA1,yn1,yc1⟩,⟨yA2,yn2,yc2⟩,⟨yA3,yn3,yc3⟩,⟨yA4,yn4,yc4⟩,ycur⟩):=HS.out.grown hg
    clear hg HS
    have HS:=HS2
    clear HS2
    obtain ⟨c0,c1,c2,c3,c4,c5,c6,c7,c8,c9⟩:=HS.out.1.cells
    obtain ⟨v0,v1,v2,v3,v4,v5,v6,v7,v8,v9⟩:=HS.out.2.1.cells
    go_wp2_with fail
    clear c0 c1 c2 c3 c4 c5 c6 c7 c8 c9 v0 v1 v2 v3 v4 v5 v6 v7 v8 v9
    refine (items_any d _ xA3 yA3 xn3 yn3 xc3 yc3 i3 4 (by omega) (by omega) (HC.out.2.2.2.1.ck HS.out.ck) (HC.out.2.2.2.2.2.2.2.1.ck HS.out.ck)).mono ?_
    rintro e w3 ⟨rfl,hg⟩
    have HS3:Hid (LS2 w w3 wr.heap.size ⟨yk,xa,yt,ybg,yen,⟨xA1,xn1,xc1⟩,⟨xA2,xn2,xc2⟩,⟨xA3,xn3,xc3⟩,⟨xA4,xn4,xc4⟩,ycur⟩ ⟨yk,ya,yt,ybg,yen,⟨yA1,yn1,yc1⟩,⟨yA2,yn2,yc2⟩,⟨yA3,yn3,yc3⟩,⟨yA4,yn4,yc4⟩,ycur⟩):=HS.out.grown hg
    clear hg HS
    have HS:=HS3
    clear HS3
    obtain ⟨c0,c1,c2,c3,c4,c5,c6,c7,c8,c9⟩:=HS.out.1.cells
    obtain ⟨v0,v1,v2,v3,v4,v5,v6,v7,v8,v9⟩:=HS.out.2.1.cells
    go_wp2_with fail
    clear c0 c1 c2 c3 c4 c5 c6 c7 c8 c9 v0 v1 v2 v3 v4 v5 v6 v7 v8 v9
    refine (items_any d _ xA4 yA4 xn4 yn4 xc4 yc4 i4 4 (by omega) (by omega) (HC.out.2.2.2.2.1.ck HS.out.ck) (HC.out.2.2.2.2.2.2.2.2.1.ck HS.out.ck)).mono ?_
    rintro e w4 ⟨rfl,hg⟩
    have HS4:Hid (LS2 w w4 wr.heap.size ⟨yk,xa,yt,ybg,yen,⟨xA1,xn1,xc1⟩,⟨xA2,xn2,xc2⟩,⟨xA3,xn3,xc3⟩,⟨xA4,xn4,xc4⟩,ycur⟩ ⟨yk,ya,yt,ybg,yen,⟨yA1,yn1,yc1⟩,⟨yA2,yn2,yc2⟩,⟨yA3,yn3,yc3⟩,⟨yA4,yn4,yc4⟩,ycur⟩):=HS.out.grown hg
    clear hg HS
    have HS:=HS4
    clear HS4
    obtain ⟨c0,c1,c2,c3,c4,c5,c6,c7,c8,c9⟩:=HS.out.1.cells
    obtain ⟨v0,v1,v2,v3,v4,v5,v6,v7,v8,v9⟩:=HS.out.2.1.cells
    have ha:at'=true→xa=ya:=HC.out.2.2.2.2.2.2.2.2.2
    cases at' with
    | false=>
     go_wp2
     exact ⟨⟨k+1,by go_num,by omega,HS.out.2.2⟩,by simp [intOf];omega⟩
    | true=>
     obtain rfl:=ha rfl
     go_wp2
     exact ⟨⟨k+1,by go_num,by omega,HS.out.2.2⟩,by simp [intOf];omega⟩
set_option maxHeartbeats 1000000 in
theorem lines_nil (A A':Option Addr) (c c':Nat) (b:Bool) (w:World):Calls Tryz.prog 15 #[.slice A 0 c,.slice A' 0 c',.bool b] w fun e w'=>e = .returned (.bool true)∧Below w.heap.size w w':=by
 go_enter Tryz.func15,Tryz.ntmps15
 go_wp2
 refine wp_loop_rounds 1 ?_
 rw [rounds_succ]
 go_wp2
 go_ret
 exact ⟨rfl,Below.refl _ _⟩
theorem lines_any (d:Nat) (b:Bool) (w:World) (A A':Option Addr) (n n' c c':Nat) (ls ls':List Ln) (hnn:n≤1000000000000000) (h1:RdLs d w A n ls) (h2:RdLs d w A' n' ls') (hs:All2 (SameA b) ls ls') :
 Calls Tryz.prog 15 #[.slice A n c,.slice A' n' c',.bool b] w fun e w'=>e = .returned (.bool true)∧Below w.heap.size w w':=by
 have e1:=h1.len
 have e2:=h2.len
 have e3:=hs.length
 obtain rfl:n'=n:=by omega
 obtain ⟨ms,_,r1,a1⟩:=h1
 obtain ⟨ms',_,r2,a2⟩:=h2
 rcases r1 with h0 | ⟨g,z,rfl,k1⟩
 · subst h0
   exact lines_nil A A' c c' b w
 · rcases r2 with h0 | ⟨g',z',rfl,k2⟩
   · subst h0
     exact lines_nil _ A' c c' b w
   · exact lines_walk d b w g g' z z' n' c c' ls ls' ms ms' e1 hnn k1 k2 a1 a2 hs
end Go.Proofs
