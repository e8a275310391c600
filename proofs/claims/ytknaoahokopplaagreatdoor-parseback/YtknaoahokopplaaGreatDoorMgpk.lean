/-
  Several texts in one (Jdk Jek).
-/
import Derived.Shelf.Abstract
import Derived.WalkKit
import Derived.WalkSpells
import Derived.WalkLawsBesides
import Derived.BigQuiet
import Derived.Deep.QuietTactic
import Derived.Deep.LoopGhost
import Derived.WalkMore
import Derived.Test.YtknaoahokopplaaGreatDoorMgok
namespace Go.Proofs
open Go.RowKit Go.Shelf
set_option maxRecDepth 100000
attribute [local go_sem] Oper.semAt_some
set_option maxHeartbeats 1000000 in
theorem isRange_any (lo hi:Int) (w:World):Calls Tryz.prog 172 #[.int .i64 lo,.int .i64 hi] w fun x w'=>x = .returned (.bool (isRng lo hi))∧w'=w:=by
 go_enter Tryz.func172,Tryz.ntmps172
 go_wp2
 · go_ret
   exact ⟨by have:decide (lo≤hi)=true:=by (simp;omega)
             rw [isRng,this];rfl,rfl⟩
 · go_ret
   exact ⟨by have:decide (lo≤hi)=false:=by (simp;omega)
             rw [isRng,this];rfl,rfl⟩
set_option maxHeartbeats 1000000 in
theorem bareName_any (t:Tok) (w:World) (hg:GoodT t) (h:which t=36∨which t=58):Calls Tryz.prog 141 #[tkv t] w fun x w'=>x = .returned (.string (bareN t))∧Below w.heap.size w w':=by
 have hk:t.k=2:=by
  have:=hg.2
  unfold which at h
  split at h
  · assumption
  · omega
 obtain ⟨h1,h2,h3⟩:=hg.1 hk
 have HG:Hid (GoodT t):=hg
 have hb:which t=byteAt t.t 0:=by simp [which,hk]
 rw [←hb] at h3
 clear hg hk hb
 by_cases h58:which t=58
 · have h2':=h3 h58
   have hn:bareN t=t.t.extract 1 (t.t.size - 1):=by simp [bareN,h58]
   rw [hn]
   have hsl:((t.t.size:Int) - 1)=((t.t.size - 1:Nat):Int):=by omega
   have hwr:wrap64 ((t.t.size - 1:Nat):Int)=((t.t.size - 1:Nat):Int):=IntWalk.wrap64_in _ (by unfold maxLen at h2;omega)
   clear h h3 hn
   go_enter Tryz.func141,Tryz.ntmps141
   go_wp2_with (go_at_call 99;refine (whichOf_any t _ HG.out).mono ?_;rintro x w1 ⟨rfl,hb1⟩;rw [h58];have c4:=((TB.new w t.k t.a t.l t.u t.t t.n).below hb1 (by simp)).cells.2.2.2.2.1)
   go_ret
   rw [hwr]
   exact ⟨rfl,((Below.refl _ _).alloc (Nat.le_refl _) _).trans (hb1.mono (by simp))⟩
 · have hn:bareN t=t.t.extract 1 t.t.size:=by simp [bareN,h58]
   have hd:(which t == 58)=false:=by simpa using h58
   rw [hn]
   clear h h3 hn
   go_enter Tryz.func141,Tryz.ntmps141
   go_wp2_with (go_at_call 99;refine (whichOf_any t _ HG.out).mono ?_;rintro x w1 ⟨rfl,hb1⟩;have c4:=((TB.new w t.k t.a t.l t.u t.t t.n).below hb1 (by simp)).cells.2.2.2.2.1)
   go_ret
   exact ⟨rfl,((Below.refl _ _).alloc (Nat.le_refl _) _).trans (hb1.mono (by simp))⟩
def IB (W:World) (B:Nat) (m:MI):Prop:=W.heap[B]? = some (.cells (mi1 m).toArray 58 (0,0))
theorem IB.lt {W:World} {B:Nat} {m:MI} (h:IB W B m):B<W.heap.size:=(Array.getElem?_eq_some_iff.1 h).1
theorem IB.same {W W':World} {B:Nat} {m:MI} (h:IB W B m) (hb:W'.heap[B]? = W.heap[B]?):IB W' B m:=hb.trans h
theorem IB.cells {W:World} {B:Nat} {m:MI} (h:IB W B m) :
 W.cell? ⟨B,0,none⟩=some (.int .i64 m.k)∧W.cell? ⟨B,1,none⟩=some (.int .i64 m.u)∧W.cell? ⟨B,2,none⟩=some (.string m.t)∧W.cell? ⟨B,3,none⟩=some (.slice m.A m.n m.c)∧W.cell? ⟨B,4,none⟩=some (.int .i64 m.lo)∧W.cell? ⟨B,5,none⟩=some (.int .i64 m.hi)∧W.cell? ⟨B,6,none⟩=some (.bool m.nt)∧W.cell? ⟨B,7,none⟩=some (.int .i64 m.key):=by
 simp [World.cell?,show W.heap[B]? = _ from h,mi1]
theorem IB.frozen {W:World} {B:Nat} {m:MI} (h:IB W B m) :
 W.frozen? ⟨B,0,none⟩=false∧W.frozen? ⟨B,1,none⟩=false∧W.frozen? ⟨B,2,none⟩=false∧W.frozen? ⟨B,3,none⟩=false∧W.frozen? ⟨B,4,none⟩=false∧W.frozen? ⟨B,5,none⟩=false∧W.frozen? ⟨B,6,none⟩=false∧W.frozen? ⟨B,7,none⟩=false:=by
 simp [World.frozen?,show W.heap[B]? = _ from h]
abbrev set8 (W:World) (B:Nat) (m:MI):World:=(((((((W.setCell ⟨B,0,none⟩ (.int .i64 m.k)).setCell ⟨B,1,none⟩ (.int .i64 m.u)).setCell ⟨B,2,none⟩ (.string m.t)).setCell ⟨B,3,none⟩ (.slice m.A m.n m.c)).setCell ⟨B,4,none⟩ (.int .i64 m.lo)).setCell ⟨B,5,none⟩ (.int .i64 m.hi)).setCell ⟨B,6,none⟩ (.bool m.nt)).setCell ⟨B,7,none⟩ (.int .i64 m.key)
theorem IB.set {W:World} {B:Nat} {m:MI} (h:IB W B m) (m':MI):IB (set8 W B m') B m':=by
 have:=cells_setS (j:=7) (u := .int .i64 m'.key) (cells_setS (j:=6) (u := .bool m'.nt) (cells_setS (j:=5) (u := .int .i64 m'.hi) (cells_setS (j:=4) (u := .int .i64 m'.lo) (cells_setS (j:=3) (u := .slice m'.A m'.n m'.c) (cells_setS (j:=2) (u := .string m'.t) (cells_setS (j:=1) (u := .int .i64 m'.u) (cells_setS (j:=0) (u := .int .i64 m'.k) h)))))))
 simpa [IB,set8,mi1] using this
theorem set8_other (W:World) (B:Nat) (m:MI) {k:Nat} (hk:k≠B):(set8 W B m).heap[k]? = W.heap[k]? := by
 have hs:∀ (W:World) (j:Nat) (v:Value),(W.setCell ⟨B,j,none⟩ v).heap[k]? = W.heap[k]? := fun W j v=>by
  show (W.heap.modify B _)[k]? = _
  rw [Array.getElem?_modify,if_neg (fun e=>hk e.symm)]
 simp only [hs]
theorem Mv.set8 {a b:World} {R:Nat} {y:Option Nat} (h:Mv a b R y) {B:Nat} (hB:a.heap.size≤B) (m:MI):Mv a (Proofs.set8 b B m) R y:=
 (((((((h.set (.inl hB) _ _).set (.inl hB) _ _).set (.inl hB) _ _).set (.inl hB) _ _).set (.inl hB) _ _).set (.inl hB) _ _).set (.inl hB) _ _).set (.inl hB) _ _
theorem RdX.set8 {w:World} {R G:Nat} {ts:List Tok} {e:Int} (h:RdX w R G ts e) {B:Nat} (h1:B≠R) (h2:B≠G) (m:MI):RdX (Proofs.set8 w B m) R G ts e:=
 (((((((h.set h1 h2 _ _).set h1 h2 _ _).set h1 h2 _ _).set h1 h2 _ _).set h1 h2 _ _).set h1 h2 _ _).set h1 h2 _ _).set h1 h2 _ _
theorem Rd.after {w w':World} {R G o c:Nat} {ts:List Tok} {e:Int} (h:Rd w R G o c ts e) (hb:Below w.heap.size w w'):Rd w' R G o c ts e:=h.step (hb.block _ h.lt) (hb.block _ h.ltG)
theorem below2 (w:World) (o1 o2:Obj):Below w.heap.size w ((w.alloc o1).alloc o2):=((Below.refl _ w).alloc (Nat.le_refl _) _).alloc (by simp) _
theorem news1 {w w1:World} {R:Nat} {y:Option Nat} {o1:Obj} (hm:Mv (w.alloc o1) w1 R y) (hR:R<w.heap.size) (hy:∀ g,y=some g→g<w.heap.size):w1.heap[w.heap.size]? = some o1∧Mv w w1 R y:=
 ⟨(hm.block _ (by simp) (by omega) (fun e=>by have:=hy _ e.symm;omega)).trans (World.alloc_heap_new _ _),((Mv.refl w R y).alloc _).trans hm (.inl rfl)⟩
theorem news2 {w w1:World} {R:Nat} {y:Option Nat} {o1 o2:Obj} (hm:Mv ((w.alloc o1).alloc o2) w1 R y) (hR:R<w.heap.size) (hy:∀ g,y=some g→g<w.heap.size):w1.heap[w.heap.size]? = some o1∧w1.heap[w.heap.size+1]? = some o2∧Mv w w1 R y:=by
 obtain ⟨h1,h2⟩:=news1 hm (by simp;omega) (fun g e=>by have:=hy g e;simp;omega)
 rw [World.size_alloc] at h1
 obtain ⟨h3,h4⟩:=news1 h2 hR hy
 exact ⟨h3,h1,h4⟩
theorem news3 {w w1:World} {R:Nat} {y:Option Nat} {o1 o2 o3:Obj} (hm:Mv (((w.alloc o1).alloc o2).alloc o3) w1 R y) (hR:R<w.heap.size) (hy:∀ g,y=some g→g<w.heap.size):w1.heap[w.heap.size]? = some o1∧w1.heap[w.heap.size+1]? = some o2∧w1.heap[w.heap.size+1+1]? = some o3∧Mv w w1 R y:=by
 obtain ⟨h1,h2⟩:=news1 hm (by simp;omega) (fun g e=>by have:=hy g e;simp;omega)
 rw [World.size_alloc,World.size_alloc] at h1
 obtain ⟨h3,h4,h5⟩:=news2 h2 hR hy
 exact ⟨h3,h4,h1,h5⟩
abbrev noI:MI:=⟨0,0,⟨#[]⟩,none,0,0,0,0,false,0⟩
theorem ret_it {fn:Func} {p:Tmp} {W:World} {B:Nat} {tmps:Array Value} {m:MI} {Q:Ending→World→Prop} (hr:fn.results=#[.cell p 58]) (hp:tmps.getD p undef = .pointer (some ⟨B,0,none⟩)) (h:IB W B m)
 (K:Q (.returned (mia m)) W):bodyPost Tryz.prog fn Q Exit.ret { tmps:=tmps,defers:=[] } W:=by
 refine bodyPost_ret (v:=mia m) ?_ rfl K
 obtain ⟨c0,c1,c2,c3,c4,c5,c6,c7⟩:=h.cells
 rw [Array.getD_eq_getD_getElem?] at hp
 simp only [results,hr]
 simp [hp,go_sem,c0,c1,c2,c3,c4,c5,c6,c7]
def VI (d b:Nat) (w':World) (v:Value) (i:It):Prop:=∃ m,v=mia m∧DR d w' b none m i
set_option maxHeartbeats 1000000 in
theorem upTo_any (w:World) (R G:Nat) (f:Tok) (ts:List Tok) (e:Int) (h:RdX w R G ts e):Calls Tryz.prog 169 #[.pointer (some ⟨R,0,none⟩),tkv f] w (Out R G e w none (VI 0 w.heap.size) (upToT e f ts)):=by
 have H:Hid (RdX w R G ts e):=h
 obtain ⟨o,c,h⟩:=h
 obtain ⟨t,ht,hg,hw,-,hx⟩:=h.head
 have hlt:G<w.heap.size:=h.ltG
 have hT:=fun o1 o2=>ht.of_block ((below2 w o1 o2).block G hlt)
 have a0:=fun o1 o2=>(hT o1 o2).1
 have a1:=fun o1 o2=>(hT o1 o2).2.1
 have a2:=fun o1 o2=>(hT o1 o2).2.2.1
 have a3:=fun o1 o2=>(hT o1 o2).2.2.2.1
 have a4:=fun o1 o2=>(hT o1 o2).2.2.2.2.1
 have a5:=fun o1 o2=>(hT o1 o2).2.2.2.2.2
 have r0:=fun o1 o2=>(h.after (below2 w o1 o2)).cellR.1
 have hRl:R<w.heap.size:=h.lt
 have hu:(wantT e 1 ts = .no (atOf e ts) 50∧upToT e f ts = .no (atOf e ts) 50)∨(∃ r,ts=t::r∧wantT e 1 ts = .ok () r∧upToT e f ts=if isRng f.u t.u then .ok (.mk 6 0 ⟨#[]⟩ [] f.u t.u false 0) r else .no f.a 51):=by
  cases ts with
  | nil=>exact .inl ⟨rfl,rfl⟩
  | cons y r=>
   have:=hx y r rfl
   subst this
   by_cases h1:which t=1
   · exact .inr ⟨r,rfl,by simp [wantT,nxt,h1],by simp [upToT,h1]⟩
   · exact .inl ⟨by simp [wantT,nxt,h1,atOf],by simp [upToT,h1,atOf]⟩
 clear h ht hg hw hx hT
 rcases hu with ⟨hu1,hu2⟩ | ⟨r,rfl,hu1,hu2⟩
 · rw [hu2]
   have HU:Hid (wantT e 1 ts = .no (atOf e ts) 50):=hu1
   clear hu1 hu2
   go_enter Tryz.func169,Tryz.ntmps169
   go_wp2_with (go_at_call 103;refine (want_any _ R G 1 (by decide) ts e (((H.out.alloc _).alloc _).alloc _)).mono ?_;rintro x w1 ⟨hm,hx⟩;rw [HU.out] at hx;simp only at hx;subst hx)
   exact ⟨rfl,(((Mv.refl w R none).alloc _).alloc _ |>.alloc _).and hm,rfl⟩
 · rw [hu2]
   have HU:Hid (wantT e 1 (t::r) = .ok () r):=hu1
   clear hu1 hu2
   by_cases hr:isRng f.u t.u=true
   · rw [if_pos hr]
     go_enter Tryz.func169,Tryz.ntmps169
     go_wp2_with fail
     refine (want_any _ R G 1 (by decide) (t::r) e (((H.out.alloc _).alloc _).alloc _)).mono ?_
     rintro x w1 ⟨hm,hx⟩
     rw [HU.out] at hx
     obtain ⟨v,rfl,hR1,rfl⟩:=hx
     obtain ⟨F1,F2,F3,hm⟩:=news3 hm hRl (fun g e=>by cases e)
     have F1:TB w1 w.heap.size f.k f.a f.l f.u f.t f.n:=F1
     have F2:IB w1 (w.heap.size+1) noI:=F2
     have F3:TB w1 (w.heap.size+1+1) t.k t.a t.l t.u t.t t.n:=F3
     have HH:Hid (Mv w w1 R none∧RdX w1 R G r e∧IB w1 (w.heap.size+1) noI):=⟨hm,hR1,F2⟩
     obtain ⟨p0,p1,p2,p3,p4,p5⟩:=F1.cells
     obtain ⟨q0,q1,q2,q3,q4,q5⟩:=F3.cells
     obtain ⟨s0,s1,s2,s3,s4,s5,s6,s7⟩:=F2.cells
     obtain ⟨z0,z1,z2,z3,z4,z5,z6,z7⟩:=F2.frozen
     clear hm hR1 F1 F2 F3 a0 a1 a2 a3 a4 a5 r0
     go_wp2_with (go_at_call 172;refine (isRange_any _ _ _).mono ?_;rintro x w2 ⟨rfl,rfl⟩;rw [hr])
     obtain ⟨mm,hmm⟩:∃ mm:MI,mm=⟨6,0,⟨#[]⟩,none,0,0,f.u,t.u,false,0⟩:=⟨_,rfl⟩
     have K1:=HH.out.2.2.set mm
     have K2:=HH.out.1.set8 (B:=w.heap.size+1) (by omega) mm
     have K3:=HH.out.2.1.set8 (B:=w.heap.size+1) (by omega) (by omega) mm
     have K4:Out R G e w none (VI 0 w.heap.size) (.ok (.mk 6 0 ⟨#[]⟩ [] f.u t.u false 0) r) (.returned (mia mm)) (set8 w2 (w.heap.size+1) mm):=⟨K2,_,rfl,K3,_,rfl,by rw [hmm];exact ⟨⟨rfl,rfl,rfl,rfl,rfl,rfl,rfl⟩,rfl,rfl,rfl,rfl⟩⟩
     clear K2 K3
     subst hmm
     exact ret_it rfl rfl K1 K4
   · have hr:isRng f.u t.u=false:=by simpa using hr
     rw [if_neg (by simp [hr])]
     go_enter Tryz.func169,Tryz.ntmps169
     go_wp2_with fail
     refine (want_any _ R G 1 (by decide) (t::r) e (((H.out.alloc _).alloc _).alloc _)).mono ?_
     rintro x w1 ⟨hm,hx⟩
     rw [HU.out] at hx
     obtain ⟨v,rfl,hR1,rfl⟩:=hx
     obtain ⟨F1,F2,F3,hm⟩:=news3 hm hRl (fun g e=>by cases e)
     have F1:TB w1 w.heap.size f.k f.a f.l f.u f.t f.n:=F1
     have F3:TB w1 (w.heap.size+1+1) t.k t.a t.l t.u t.t t.n:=F3
     have HH:Hid (Mv w w1 R none):=hm
     obtain ⟨p0,p1,p2,p3,p4,p5⟩:=F1.cells
     obtain ⟨q0,q1,q2,q3,q4,q5⟩:=F3.cells
     clear hm hR1 F1 F2 F3 a0 a1 a2 a3 a4 a5 r0
     go_wp2_with (go_at_call 172;refine (isRange_any _ _ _).mono ?_;rintro x w2 ⟨rfl,rfl⟩;rw [hr])
     exact ⟨rfl,HH.out,rfl⟩
end Go.Proofs
namespace Go.Proofs
open Go.RowKit Go.Shelf
set_option maxRecDepth 100000
attribute [local go_sem] Oper.semAt_some
def VR (d b:Nat) (w':World) (v:Value) (l:List It):Prop:=∃ A c,v = .slice A l.length c∧Rows d w' b none A l.length c l
def may4 (m:Nat):Prop:=m=78∨m=62∨m=60∨m=386
theorem IB.mv {W W':World} {B R:Nat} {y:Option Nat} {m:MI} (h:IB W B m) (hm:Mv W W' R y) (hR:B≠R) (hy:some B≠y):IB W' B m:=(hm.block B h.lt hR hy).trans h
theorem IB.allocs {W:World} {B:Nat} {m:MI} (h:IB W B m) (o:Obj):IB (W.alloc o) B m:=(Below.heap_alloc _ _ _ h.lt).trans h
theorem IB.new (W:World) (m:MI):IB (W.alloc (.cells (mi1 m).toArray 58)) W.heap.size m:=World.alloc_heap_new _ _
theorem TB.mv {W W':World} {B R:Nat} {y:Option Nat} {k a l u:Int} {t:ByteArray} {n:Int} (h:TB W B k a l u t n) (hm:Mv W W' R y) (hR:B≠R) (hy:some B≠y):TB W' B k a l u t n:=(hm.block B h.lt hR hy).trans h
set_option maxHeartbeats 1000000 in
theorem item_no (may:Nat) (hmay:may4 may) (sets:List Tok→Res (List It)) (pairs:List Tok→Res It) (d:Nat) (w:World) (R G:Nat) (ts:List Tok) (e:Int) (h:RdX w R G ts e) (hb:may.testBit (begun (nxt ts))=false) :
 Calls Tryz.prog 142 #[.pointer (some ⟨R,0,none⟩),.int .i64 may] w (Out R G e w none (VI d w.heap.size) (itemT e may sets pairs ts)):=by
 have hi:itemT e may sets pairs ts = .no (atOf e ts) 50:=by
  cases ts with
  | nil=>rfl
  | cons t r=>simp only [nxt] at hb;simp [itemT,hb,atOf]
 rw [hi]
 have H:Hid (RdX w R G ts e∧may4 may∧R<w.heap.size):=⟨h,hmay,h.lt.1⟩
 clear h hi hmay
 go_enter Tryz.func142,Tryz.ntmps142
 go_wp2_with (first | (go_at_call 167;refine (begun_any _ R G ts e (H.out.1.alloc _)).mono ?_;rintro x w1 ⟨rfl,hb1⟩) | (go_at_call 168;refine (has_any may _ H.out.2.1 (begun_le _) _).mono ?_;rintro x w2 ⟨rfl,rfl⟩;rw [hb]) | fail)
 refine (refuse_any _ R G 50 ts e (((H.out.1.alloc _).below hb1 (Nat.le_refl _)).alloc _)).mono ?_
 rintro x w2 ⟨rfl,hb2⟩
 refine ⟨rfl,?_,rfl⟩
 have h1:=(news1 (Mv.of_below (R:=R) (y:=none) hb1) H.out.2.2 (fun g e=>by cases e)).2
 exact (h1.alloc _).and (Mv.of_below hb2)
theorem DR0 (d:Nat) (w:World) (b:Nat) (x:Option Nat) (k u:Int) (t:ByteArray) (lo hi:Int) (nt:Bool) (key:Int):DR (d+1) w b x ⟨k,u,t,none,0,0,lo,hi,nt,key⟩ (.mk k u t [] lo hi nt key):=
 ⟨⟨rfl,rfl,rfl,rfl,rfl,rfl,rfl⟩,[],⟨rfl,.inl ⟨rfl,rfl,rfl⟩⟩,trivial⟩
theorem begun_name {n:Int} {k:Nat} (h:begun n=k) (hk:k=2∨k=3):n=36∨n=58:=by
 unfold begun at h
 split at h
 · omega
 · split at h
   · exact .inl ‹_›
   · split at h
     · exact .inr ‹_›
     · split at h
       · omega
       · split at h
         · omega
         · split at h <;> omega
theorem has_n (m k:Nat) (kz:Int) (hkz:kz=k) (hm:may4 m) (hk:k≤8) (w:World):Calls Tryz.prog 168 #[.int .i64 m,.int .i64 kz] w fun x w'=>x = .returned (.bool (m.testBit k))∧w'=w:=by
 subst hkz
 exact has_any m k hm hk w
structure IC (w w2:World) (B:Nat) (R G:Nat) (r:List Tok) (e:Int) (m:MI):Prop where
 mv:Mv w w2 R none
 rd:RdX w2 R G r e
 res:IB w2 w.heap.size noI
 own:IB w2 B m
 lt:w.heap.size<B
 Rlt:R<w.heap.size
 Glt:G<w.heap.size
theorem IC.alloc {w w2:World} {B R G:Nat} {r:List Tok} {e:Int} {m:MI} (h:IC w w2 B R G r e m) (o:Obj):IC w (w2.alloc o) B R G r e m:=⟨h.mv.alloc _,h.rd.alloc _,h.res.allocs _,h.own.allocs _,h.lt,h.Rlt,h.Glt⟩
theorem IC.after {w w2 w3:World} {B R G:Nat} {r r':List Tok} {e:Int} {m:MI} (h:IC w w2 B R G r e m) (hm:Mv w2 w3 R none) (hr:RdX w3 R G r' e):IC w w3 B R G r' e m:=
 ⟨h.mv.and hm,hr,h.res.mv hm (by have:=h.Rlt;omega) (by simp),h.own.mv hm (by have:=h.Rlt;have:=h.lt;omega) (by simp),h.lt,h.Rlt,h.Glt⟩
theorem IC.below {w w2 w3:World} {B R G:Nat} {r:List Tok} {e:Int} {m:MI} (h:IC w w2 B R G r e m) (hm:Below w2.heap.size w2 w3):IC w w3 B R G r e m:=h.after (Mv.of_below hm) (h.rd.below hm (Nat.le_refl _))
theorem IC.put {w w2:World} {B R G:Nat} {r:List Tok} {e:Int} {m m':MI} (h:IC w w2 B R G r e m) (j:Nat) (v:Value) (hv:(mi1 m).toArray.setIfInBounds j v=(mi1 m').toArray):IC w (w2.setCell ⟨B,j,none⟩ v) B R G r e m':=
 ⟨h.mv.set (.inl (by have:=h.lt;omega)) _ _,h.rd.set (by have:=h.lt;have:=h.Rlt;omega) (by have:=h.lt;have:=h.Glt;omega) _ _,h.res.same (by
  show (w2.heap.modify B _)[w.heap.size]? = _
  rw [Array.getElem?_modify,if_neg (by have:=h.lt;omega)]),by
  have:=cells_setS (j:=j) (u:=v) h.own
  rw [hv] at this
  exact this,h.lt,h.Rlt,h.Glt⟩
theorem IC.start {w w1 w2:World} {R G:Nat} {t:Tok} {r:List Tok} {e:Int} (h:RdX w R G (t::r) e) (hb1:Below (w.alloc (.cells (mi1 noI).toArray 58)).heap.size (w.alloc (.cells (mi1 noI).toArray 58)) w1) (m:MI) (hR2:RdX w2 R G r e) (hm2:Mv (w1.alloc (.cells (mi1 m).toArray 58)) w2 R none):IC w w2 w1.heap.size R G r e m:=by
 have hl:=h.lt
 have hz1:w.heap.size+1≤w1.heap.size:=by have:=hb1.size;simpa using this
 exact ⟨((news1 (Mv.of_below (R:=R) (y:=none) hb1) hl.1 (fun g e=>by cases e)).2.alloc _).and hm2,hR2,((IB.allocs (((IB.new w noI).same (hb1.block _ (by simp)))) _).mv hm2 (by omega) (by simp)),(IB.new w1 m).mv hm2 (by omega) (by simp),by omega,hl.1,hl.2⟩
theorem IC.done {w w2:World} {B R G:Nat} {r:List Tok} {e:Int} {m:MI} (h:IC w w2 B R G r e m) {d:Nat} {i:It} (hd:DR d w2 (w.heap.size+1) none m i):IB (set8 w2 w.heap.size m) w.heap.size m∧Out R G e w none (VI d w.heap.size) (.ok i r) (.returned (mia m)) (set8 w2 w.heap.size m):=
 ⟨h.res.set m,h.mv.set8 (Nat.le_refl _) m,_,rfl,h.rd.set8 (by have:=h.Rlt;omega) (by have:=h.Glt;omega) m,m,rfl,hd.step (by omega) (.inl rfl) (fun k _ h2 _=>set8_other _ _ _ (by omega))⟩
set_option maxHeartbeats 1000000 in
theorem item_4 (may:Nat) (hmay:may4 may) (d:Nat) (w:World) (R G:Nat) (t:Tok) (r:List Tok) (e:Int) (h:RdX w R G (t::r) e) (hk:begun (which t)=4) (hb:may.testBit 4=true) :
 Calls Tryz.prog 142 #[.pointer (some ⟨R,0,none⟩),.int .i64 may] w (Out R G e w none (VI (d+1) w.heap.size) (.ok (.mk 4 0 ⟨#[]⟩ [] 0 0 false 0) r)):=by
 have H:Hid (RdX w R G (t::r) e∧may4 may):=⟨h,hmay⟩
 have HK:Hid (begun (nxt (t::r))=4):=hk
 clear h hmay hk
 go_enter Tryz.func142,Tryz.ntmps142
 go_wp2_with (first | (go_at_call 167;refine (begun_any _ R G (t::r) e (H.out.1.alloc _)).mono ?_;rintro x w1 ⟨rfl,hb1⟩;rw [HK.out]) | (go_at_call 168;refine (has_n may 4 4 rfl H.out.2 (by omega) _).mono ?_;rintro x w2 ⟨rfl,rfl⟩;rw [hb]) | fail)
 refine (take_any _ R G t r e (((H.out.1.alloc _).below hb1 (Nat.le_refl _)).alloc _)).mono ?_
 rintro x w2 ⟨rfl,hR2,hm2⟩
 have hc:IC w w2 w1.heap.size R G r e ⟨4,0,⟨#[]⟩,none,0,0,0,0,false,0⟩:=IC.start H.out.1 hb1 _ hR2 hm2
 generalize w1.heap.size=B at *
 clear hb1 hR2 hm2
 have HC:Hid (IC w w2 B R G r e ⟨4,0,⟨#[]⟩,none,0,0,0,0,false,0⟩):=hc
 have c:=fun o=>((hc.alloc o).own).cells
 have c0:=fun o=>(c o).1
 have c1:=fun o=>(c o).2.1
 have c2:=fun o=>(c o).2.2.1
 have c3:=fun o=>(c o).2.2.2.1
 have c4:=fun o=>(c o).2.2.2.2.1
 have c5:=fun o=>(c o).2.2.2.2.2.1
 have c6:=fun o=>(c o).2.2.2.2.2.2.1
 have c7:=fun o=>(c o).2.2.2.2.2.2.2
 have s:=fun o=>((hc.alloc o).res).cells
 have s0:=fun o=>(s o).1
 have s1:=fun o=>(s o).2.1
 have s2:=fun o=>(s o).2.2.1
 have s3:=fun o=>(s o).2.2.2.1
 have s4:=fun o=>(s o).2.2.2.2.1
 have s5:=fun o=>(s o).2.2.2.2.2.1
 have s6:=fun o=>(s o).2.2.2.2.2.2.1
 have s7:=fun o=>(s o).2.2.2.2.2.2.2
 have z:=fun o=>((hc.alloc o).res).frozen
 have z0:=fun o=>(z o).1
 have z1:=fun o=>(z o).2.1
 have z2:=fun o=>(z o).2.2.1
 have z3:=fun o=>(z o).2.2.2.1
 have z4:=fun o=>(z o).2.2.2.2.1
 have z5:=fun o=>(z o).2.2.2.2.2.1
 have z6:=fun o=>(z o).2.2.2.2.2.2.1
 have z7:=fun o=>(z o).2.2.2.2.2.2.2
 clear c s z hc
 go_wp2
 obtain ⟨mm,hmm⟩:∃ mm:MI,mm=⟨4,0,⟨#[]⟩,none,0,0,0,0,false,0⟩:=⟨_,rfl⟩
 have HC2:=HC.out
 rw [←hmm] at HC2
 obtain ⟨K1,K2⟩:=(HC2.alloc (.cells #[.int .i64 t.k,.int .i64 t.a,.int .i64 t.l,.int .i64 t.u,.string t.t,.int .i64 t.n] 52)).done (d:=d+1) (i := .mk 4 0 ⟨#[]⟩ [] 0 0 false 0) (by rw [hmm];exact DR0 _ _ _ _ _ _ _ _ _ _ _)
 subst hmm
 exact ret_it rfl rfl K1 K2
set_option maxHeartbeats 1000000 in
theorem item_2 (may:Nat) (hmay:may4 may) (d:Nat) (w:World) (R G:Nat) (t:Tok) (r:List Tok) (e:Int) (h:RdX w R G (t::r) e) (hg:GoodT t) (hk:begun (which t)=2) (hb:may.testBit 2=true) :
 Calls Tryz.prog 142 #[.pointer (some ⟨R,0,none⟩),.int .i64 may] w (Out R G e w none (VI (d+1) w.heap.size) (.ok (.mk 2 0 (bareN t) [] 0 0 false 0) r)):=by
 have hw:which t=36∨which t=58:=begun_name hk (by omega)
 have HG:Hid (GoodT t∧(which t=36∨which t=58)):=⟨hg,hw⟩
 clear hg hw
 have H:Hid (RdX w R G (t::r) e∧may4 may):=⟨h,hmay⟩
 have HK:Hid (begun (nxt (t::r))=2):=hk
 clear h hmay hk
 go_enter Tryz.func142,Tryz.ntmps142
 go_wp2_with (first | (go_at_call 167;refine (begun_any _ R G (t::r) e (H.out.1.alloc _)).mono ?_;rintro x w1 ⟨rfl,hb1⟩;rw [HK.out]) | (go_at_call 168;refine (has_n may 2 2 rfl H.out.2 (by omega) _).mono ?_;rintro x w2 ⟨rfl,rfl⟩;rw [hb]) | fail)
 refine (take_any _ R G t r e (((H.out.1.alloc _).below hb1 (Nat.le_refl _)).alloc _)).mono ?_
 rintro x w2 ⟨rfl,hR2,hm2⟩
 have hc:IC w w2 w1.heap.size R G r e ⟨2,0,⟨#[]⟩,none,0,0,0,0,false,0⟩:=IC.start H.out.1 hb1 _ hR2 hm2
 generalize w1.heap.size=B at *
 clear hb1 hR2 hm2
 have c:=fun o=>((hc.alloc o).own).cells
 have c0:=fun o=>(c o).1
 have c1:=fun o=>(c o).2.1
 have c2:=fun o=>(c o).2.2.1
 have c3:=fun o=>(c o).2.2.2.1
 have c4:=fun o=>(c o).2.2.2.2.1
 have c5:=fun o=>(c o).2.2.2.2.2.1
 have c6:=fun o=>(c o).2.2.2.2.2.2.1
 have c7:=fun o=>(c o).2.2.2.2.2.2.2
 clear c
 have HC:Hid (IC w w2 B R G r e ⟨2,0,⟨#[]⟩,none,0,0,0,0,false,0⟩):=hc
 clear hc
 go_wp2_with fail
 refine (bareName_any t _ HG.out.1 HG.out.2).mono ?_
 rintro x w3 ⟨rfl,hb3⟩
 have hc:=(HC.out.alloc _).below hb3
 have hne:B≠w.heap.size:=by have:=hc.lt;omega
 have hne2:w.heap.size≠B:=by have:=hc.lt;omega
 clear c0 c1 c2 c3 c4 c5 c6 c7 hb3 HC
 have HC:Hid (IC w w3 B R G r e ⟨2,0,⟨#[]⟩,none,0,0,0,0,false,0⟩):=hc
 obtain ⟨c0,c1,c2,c3,c4,c5,c6,c7⟩:=(hc.own).cells
 obtain ⟨f0,f1,f2,f3,f4,f5,f6,f7⟩:=(hc.own).frozen
 obtain ⟨s0,s1,s2,s3,s4,s5,s6,s7⟩:=(hc.res).cells
 obtain ⟨z0,z1,z2,z3,z4,z5,z6,z7⟩:=(hc.res).frozen
 clear hc
 go_wp2
 obtain ⟨mm,hmm⟩:∃ mm:MI,mm=⟨2,0,bareN t,none,0,0,0,0,false,0⟩:=⟨_,rfl⟩
 have HC2:=HC.out.put (m':=mm) 2 (.string (bareN t)) (by rw [hmm];rfl)
 obtain ⟨K1,K2⟩:=HC2.done (d:=d+1) (i := .mk 2 0 (bareN t) [] 0 0 false 0) (by rw [hmm];exact DR0 _ _ _ _ _ _ _ _ _ _ _)
 subst hmm
 exact ret_it rfl rfl K1 K2
set_option maxHeartbeats 1000000 in
theorem item_3 (may:Nat) (hmay:may4 may) (d:Nat) (w:World) (R G:Nat) (t:Tok) (r:List Tok) (e:Int) (h:RdX w R G (t::r) e) (hg:GoodT t) (hk:begun (which t)=3) (hb:may.testBit 3=true) :
 Calls Tryz.prog 142 #[.pointer (some ⟨R,0,none⟩),.int .i64 may] w (Out R G e w none (VI (d+1) w.heap.size) (.ok (.mk 3 0 (bareN t) [] 0 0 false 0) r)):=by
 have hw:which t=36∨which t=58:=begun_name hk (by omega)
 have HG:Hid (GoodT t∧(which t=36∨which t=58)):=⟨hg,hw⟩
 clear hg hw
 have H:Hid (RdX w R G (t::r) e∧may4 may):=⟨h,hmay⟩
 have HK:Hid (begun (nxt (t::r))=3):=hk
 clear h hmay hk
 go_enter Tryz.func142,Tryz.ntmps142
 go_wp2_with (first | (go_at_call 167;refine (begun_any _ R G (t::r) e (H.out.1.alloc _)).mono ?_;rintro x w1 ⟨rfl,hb1⟩;rw [HK.out]) | (go_at_call 168;refine (has_n may 3 3 rfl H.out.2 (by omega) _).mono ?_;rintro x w2 ⟨rfl,rfl⟩;rw [hb]) | fail)
 refine (take_any _ R G t r e (((H.out.1.alloc _).below hb1 (Nat.le_refl _)).alloc _)).mono ?_
 rintro x w2 ⟨rfl,hR2,hm2⟩
 have hc:IC w w2 w1.heap.size R G r e ⟨3,0,⟨#[]⟩,none,0,0,0,0,false,0⟩:=IC.start H.out.1 hb1 _ hR2 hm2
 generalize w1.heap.size=B at *
 clear hb1 hR2 hm2
 have c:=fun o=>((hc.alloc o).own).cells
 have c0:=fun o=>(c o).1
 have c1:=fun o=>(c o).2.1
 have c2:=fun o=>(c o).2.2.1
 have c3:=fun o=>(c o).2.2.2.1
 have c4:=fun o=>(c o).2.2.2.2.1
 have c5:=fun o=>(c o).2.2.2.2.2.1
 have c6:=fun o=>(c o).2.2.2.2.2.2.1
 have c7:=fun o=>(c o).2.2.2.2.2.2.2
 clear c
 have HC:Hid (IC w w2 B R G r e ⟨3,0,⟨#[]⟩,none,0,0,0,0,false,0⟩):=hc
 clear hc
 go_wp2_with fail
 refine (bareName_any t _ HG.out.1 HG.out.2).mono ?_
 rintro x w3 ⟨rfl,hb3⟩
 have hc:=(HC.out.alloc _).below hb3
 have hne:B≠w.heap.size:=by have:=hc.lt;omega
 have hne2:w.heap.size≠B:=by have:=hc.lt;omega
 clear c0 c1 c2 c3 c4 c5 c6 c7 hb3 HC
 have HC:Hid (IC w w3 B R G r e ⟨3,0,⟨#[]⟩,none,0,0,0,0,false,0⟩):=hc
 obtain ⟨c0,c1,c2,c3,c4,c5,c6,c7⟩:=(hc.own).cells
 obtain ⟨f0,f1,f2,f3,f4,f5,f6,f7⟩:=(hc.own).frozen
 obtain ⟨s0,s1,s2,s3,s4,s5,s6,s7⟩:=(hc.res).cells
 obtain ⟨z0,z1,z2,z3,z4,z5,z6,z7⟩:=(hc.res).frozen
 clear hc
 go_wp2
 obtain ⟨mm,hmm⟩:∃ mm:MI,mm=⟨3,0,bareN t,none,0,0,0,0,false,0⟩:=⟨_,rfl⟩
 have HC2:=HC.out.put (m':=mm) 2 (.string (bareN t)) (by rw [hmm];rfl)
 obtain ⟨K1,K2⟩:=HC2.done (d:=d+1) (i := .mk 3 0 (bareN t) [] 0 0 false 0) (by rw [hmm];exact DR0 _ _ _ _ _ _ _ _ _ _ _)
 subst hmm
 exact ret_it rfl rfl K1 K2
end Go.Proofs
