/-
  The parser's reader: ranges, names, items, rows.
-/
import Derived.Shelf.Abstract
import Derived.WalkKit
import Derived.WalkSpells
import Derived.WalkLawsBesides
import Derived.BigQuiet
import Derived.Deep.QuietTactic
import Derived.Deep.LoopGhost
import Derived.WalkMore
import Derived.Test.YtknaoahokopplaaGreatDoorJcp
namespace Go.Proofs
open Go.RowKit Go.Shelf
set_option maxRecDepth 100000
attribute [local go_sem] Oper.semAt_some
set_option maxHeartbeats 1000000 in
theorem isRange_any (lo hi:Int) (w:World):Calls Tryz.prog 172 #[.int .i64 lo,.int .i64 hi] w fun x w'=>x = .returned (.bool (isRng lo hi))∧w'=w:=by
 go_enter Tryz.func172,Tryz.ntmps172
 go_wp2
 · go_ret
   exact ⟨by have:decide (lo≤hi)=true:=by (simp;omega)
             rw [isRng,this];rfl,rfl⟩
 · go_ret
   exact ⟨by have:decide (lo≤hi)=false:=by (simp;omega)
             rw [isRng,this];rfl,rfl⟩
set_option maxHeartbeats 1000000 in
theorem bareName_any (t:Tok) (w:World) (hg:GoodT t) (h:which t=36∨which t=58):Calls Tryz.prog 141 #[tkv t] w fun x w'=>x = .returned (.string (bareN t))∧Below w.heap.size w w':=by
 have hk:t.k=2:=by
  have:=hg.2
  unfold which at h
  split at h
  · assumption
  · omega
 obtain ⟨h1,h2,h3⟩:=hg.1 hk
 have HG:Hid (GoodT t):=hg
 have hb:which t=byteAt t.t 0:=by simp [which,hk]
 rw [←hb] at h3
 clear hg hk hb
 by_cases h58:which t=58
 · have h2':=h3 h58
   have hn:bareN t=t.t.extract 1 (t.t.size - 1):=by simp [bareN,h58]
   rw [hn]
   have hsl:((t.t.size:Int) - 1)=((t.t.size - 1:Nat):Int):=by omega
   have hwr:wrap64 ((t.t.size - 1:Nat):Int)=((t.t.size - 1:Nat):Int):=IntWalk.wrap64_in _ (by unfold maxLen at h2;omega)
   clear h h3 hn
   go_enter Tryz.func141,Tryz.ntmps141
   go_wp2_with (go_at_call 99;refine (whichOf_any t _ HG.out).mono ?_;rintro x w1 ⟨rfl,hb1⟩;rw [h58];have c4:=((TB.new w t.k t.a t.l t.u t.t t.n).below hb1 (by simp)).cells.2.2.2.2.1)
   go_ret
   rw [hwr]
   exact ⟨rfl,((Below.refl _ _).alloc (Nat.le_refl _) _).trans (hb1.mono (by simp))⟩
 · have hn:bareN t=t.t.extract 1 t.t.size:=by simp [bareN,h58]
   have hd:(which t == 58)=false:=by simpa using h58
   rw [hn]
   clear h h3 hn
   go_enter Tryz.func141,Tryz.ntmps141
   go_wp2_with (go_at_call 99;refine (whichOf_any t _ HG.out).mono ?_;rintro x w1 ⟨rfl,hb1⟩;have c4:=((TB.new w t.k t.a t.l t.u t.t t.n).below hb1 (by simp)).cells.2.2.2.2.1)
   go_ret
   exact ⟨rfl,((Below.refl _ _).alloc (Nat.le_refl _) _).trans (hb1.mono (by simp))⟩
def IB (W:World) (B:Nat) (m:MI):Prop:=W.heap[B]? = some (.cells (mi1 m).toArray 58 (0,0))
theorem IB.lt {W:World} {B:Nat} {m:MI} (h:IB W B m):B<W.heap.size:=(Array.getElem?_eq_some_iff.1 h).1
theorem IB.same {W W':World} {B:Nat} {m:MI} (h:IB W B m) (hb:W'.heap[B]? = W.heap[B]?):IB W' B m:=hb.trans h
theorem IB.cells {W:World} {B:Nat} {m:MI} (h:IB W B m) :
 W.cell? ⟨B,0,none⟩=some (.int .i64 m.k)∧W.cell? ⟨B,1,none⟩=some (.int .i64 m.u)∧W.cell? ⟨B,2,none⟩=some (.string m.t)∧W.cell? ⟨B,3,none⟩=some (.slice m.A m.n m.c)∧W.cell? ⟨B,4,none⟩=some (.int .i64 m.lo)∧W.cell? ⟨B,5,none⟩=some (.int .i64 m.hi)∧W.cell? ⟨B,6,none⟩=some (.bool m.nt)∧W.cell? ⟨B,7,none⟩=some (.int .i64 m.key):=by
 simp [World.cell?,show W.heap[B]? = _ from h,mi1]
theorem IB.frozen {W:World} {B:Nat} {m:MI} (h:IB W B m) :
 W.frozen? ⟨B,0,none⟩=false∧W.frozen? ⟨B,1,none⟩=false∧W.frozen? ⟨B,2,none⟩=false∧W.frozen? ⟨B,3,none⟩=false∧W.frozen? ⟨B,4,none⟩=false∧W.frozen? ⟨B,5,none⟩=false∧W.frozen? ⟨B,6,none⟩=false∧W.frozen? ⟨B,7,none⟩=false:=by
 simp [World.frozen?,show W.heap[B]? = _ from h]
abbrev set8 (W:World) (B:Nat) (m:MI):World:=(((((((W.setCell ⟨B,0,none⟩ (.int .i64 m.k)).setCell ⟨B,1,none⟩ (.int .i64 m.u)).setCell ⟨B,2,none⟩ (.string m.t)).setCell ⟨B,3,none⟩ (.slice m.A m.n m.c)).setCell ⟨B,4,none⟩ (.int .i64 m.lo)).setCell ⟨B,5,none⟩ (.int .i64 m.hi)).setCell ⟨B,6,none⟩ (.bool m.nt)).setCell ⟨B,7,none⟩ (.int .i64 m.key)
theorem IB.set {W:World} {B:Nat} {m:MI} (h:IB W B m) (m':MI):IB (set8 W B m') B m':=by
 have:=cells_setS (j:=7) (u := .int .i64 m'.key) (cells_setS (j:=6) (u := .bool m'.nt) (cells_setS (j:=5) (u := .int .i64 m'.hi) (cells_setS (j:=4) (u := .int .i64 m'.lo) (cells_setS (j:=3) (u := .slice m'.A m'.n m'.c) (cells_setS (j:=2) (u := .string m'.t) (cells_setS (j:=1) (u := .int .i64 m'.u) (cells_setS (j:=0) (u := .int .i64 m'.k) h)))))))
 simpa [IB,set8,mi1] using this
theorem set8_other (W:World) (B:Nat) (m:MI) {k:Nat} (hk:k≠B):(set8 W B m).heap[k]? = W.heap[k]? := by
 have hs:∀ (W:World) (j:Nat) (v:Value),(W.setCell ⟨B,j,none⟩ v).heap[k]? = W.heap[k]? := fun W j v=>by
  show (W.heap.modify B _)[k]? = _
  rw [Array.getElem?_modify,if_neg (fun e=>hk e.symm)]
 simp only [hs]
theorem Mv.set8 {a b:World} {R:Nat} {y:Option Nat} (h:Mv a b R y) {B:Nat} (hB:a.heap.size≤B) (m:MI):Mv a (Proofs.set8 b B m) R y:=
 (((((((h.set (.inl hB) _ _).set (.inl hB) _ _).set (.inl hB) _ _).set (.inl hB) _ _).set (.inl hB) _ _).set (.inl hB) _ _).set (.inl hB) _ _).set (.inl hB) _ _
theorem RdX.set8 {w:World} {R G:Nat} {ts:List Tok} {e:Int} (h:RdX w R G ts e) {B:Nat} (h1:B≠R) (h2:B≠G) (m:MI):RdX (Proofs.set8 w B m) R G ts e:=
 (((((((h.set h1 h2 _ _).set h1 h2 _ _).set h1 h2 _ _).set h1 h2 _ _).set h1 h2 _ _).set h1 h2 _ _).set h1 h2 _ _).set h1 h2 _ _
theorem Rd.after {w w':World} {R G o c:Nat} {ts:List Tok} {e:Int} (h:Rd w R G o c ts e) (hb:Below w.heap.size w w'):Rd w' R G o c ts e:=h.step (hb.block _ h.lt) (hb.block _ h.ltG)
theorem below2 (w:World) (o1 o2:Obj):Below w.heap.size w ((w.alloc o1).alloc o2):=((Below.refl _ w).alloc (Nat.le_refl _) _).alloc (by simp) _
theorem news1 {w w1:World} {R:Nat} {y:Option Nat} {o1:Obj} (hm:Mv (w.alloc o1) w1 R y) (hR:R<w.heap.size) (hy:∀ g,y=some g→g<w.heap.size):w1.heap[w.heap.size]? = some o1∧Mv w w1 R y:=
 ⟨(hm.block _ (by simp) (by omega) (fun e=>by have:=hy _ e.symm;omega)).trans (World.alloc_heap_new _ _),((Mv.refl w R y).alloc _).trans hm (.inl rfl)⟩
theorem news2 {w w1:World} {R:Nat} {y:Option Nat} {o1 o2:Obj} (hm:Mv ((w.alloc o1).alloc o2) w1 R y) (hR:R<w.heap.size) (hy:∀ g,y=some g→g<w.heap.size):w1.heap[w.heap.size]? = some o1∧w1.heap[w.heap.size+1]? = some o2∧Mv w w1 R y:=by
 obtain ⟨h1,h2⟩:=news1 hm (by simp;omega) (fun g e=>by have:=hy g e;simp;omega)
 rw [World.size_alloc] at h1
 obtain ⟨h3,h4⟩:=news1 h2 hR hy
 exact ⟨h3,h1,h4⟩
theorem news3 {w w1:World} {R:Nat} {y:Option Nat} {o1 o2 o3:Obj} (hm:Mv (((w.alloc o1).alloc o2).alloc o3) w1 R y) (hR:R<w.heap.size) (hy:∀ g,y=some g→g<w.heap.size):w1.heap[w.heap.size]? = some o1∧w1.heap[w.heap.size+1]? = some o2∧w1.heap[w.heap.size+1+1]? = some o3∧Mv w w1 R y:=by
 obtain ⟨h1,h2⟩:=news1 hm (by simp;omega) (fun g e=>by have:=hy g e;simp;omega)
 rw [World.size_alloc,World.size_alloc] at h1
 obtain ⟨h3,h4,h5⟩:=news2 h2 hR hy
 exact ⟨h3,h4,h1,h5⟩
abbrev noI:MI:=⟨0,0,⟨#[]⟩,none,0,0,0,0,false,0⟩
theorem ret_it {fn:Func} {p:Tmp} {W:World} {B:Nat} {tmps:Array Value} {m:MI} {Q:Ending→World→Prop} (hr:fn.results=#[.cell p 58]) (hp:tmps.getD p undef = .pointer (some ⟨B,0,none⟩)) (h:IB W B m)
 (K:Q (.returned (mia m)) W):bodyPost Tryz.prog fn Q Exit.ret { tmps:=tmps,defers:=[] } W:=by
 refine bodyPost_ret (v:=mia m) ?_ rfl K
 obtain ⟨c0,c1,c2,c3,c4,c5,c6,c7⟩:=h.cells
 rw [Array.getD_eq_getD_getElem?] at hp
 simp only [results,hr]
 simp [hp,go_sem,c0,c1,c2,c3,c4,c5,c6,c7]
def VI (d b:Nat) (w':World) (v:Value) (i:It):Prop:=∃ m,v=mia m∧DR d w' b none m i
set_option maxHeartbeats 1000000 in
theorem upTo_any (w:World) (R G:Nat) (f:Tok) (ts:List Tok) (e:Int) (h:RdX w R G ts e):Calls Tryz.prog 169 #[.pointer (some ⟨R,0,none⟩),tkv f] w (Out R G e w none (VI 0 w.heap.size) (upToT e f ts)):=by
 have H:Hid (RdX w R G ts e):=h
 obtain ⟨o,c,h⟩:=h
 obtain ⟨t,ht,hg,hw,-,hx⟩:=h.head
 have hlt:G<w.heap.size:=h.ltG
 have hT:=fun o1 o2=>ht.of_block ((below2 w o1 o2).block G hlt)
 have a0:=fun o1 o2=>(hT o1 o2).1
 have a1:=fun o1 o2=>(hT o1 o2).2.1
 have a2:=fun o1 o2=>(hT o1 o2).2.2.1
 have a3:=fun o1 o2=>(hT o1 o2).2.2.2.1
 have a4:=fun o1 o2=>(hT o1 o2).2.2.2.2.1
 have a5:=fun o1 o2=>(hT o1 o2).2.2.2.2.2
 have r0:=fun o1 o2=>(h.after (below2 w o1 o2)).cellR.1
 have hRl:R<w.heap.size:=h.lt
 have hu:(wantT e 1 ts = .no (atOf e ts) 50∧upToT e f ts = .no (atOf e ts) 50)∨(∃ r,ts=t::r∧wantT e 1 ts = .ok () r∧upToT e f ts=if isRng f.u t.u then .ok (.mk 6 0 ⟨#[]⟩ [] f.u t.u false 0) r else .no f.a 51):=by
  cases ts with
  | nil=>exact .inl ⟨rfl,rfl⟩
  | cons y r=>
   have:=hx y r rfl
   subst this
   by_cases h1:which t=1
   · exact .inr ⟨r,rfl,by simp [wantT,nxt,h1],by simp [upToT,h1]⟩
   · exact .inl ⟨by simp [wantT,nxt,h1,atOf],by simp [upToT,h1,atOf]⟩
 clear h ht hg hw hx hT
 rcases hu with ⟨hu1,hu2⟩ | ⟨r,rfl,hu1,hu2⟩
 · rw [hu2]
   have HU:Hid (wantT e 1 ts = .no (atOf e ts) 50):=hu1
   clear hu1 hu2
   go_enter Tryz.func169,Tryz.ntmps169
   go_wp2_with (go_at_call 103;refine (want_any _ R G 1 (by decide) ts e (((H.out.alloc _).alloc _).alloc _)).mono ?_;rintro x w1 ⟨hm,hx⟩;rw [HU.out] at hx;simp only at hx;subst hx)
   exact ⟨rfl,(((Mv.refl w R none).alloc _).alloc _ |>.alloc _).and hm,rfl⟩
 · rw [hu2]
   have HU:Hid (wantT e 1 (t::r) = .ok () r):=hu1
   clear hu1 hu2
   by_cases hr:isRng f.u t.u=true
   · rw [if_pos hr]
     go_enter Tryz.func169,Tryz.ntmps169
     go_wp2_with fail
     refine (want_any _ R G 1 (by decide) (t::r) e (((H.out.alloc _).alloc _).alloc _)).mono ?_
     rintro x w1 ⟨hm,hx⟩
     rw [HU.out] at hx
     obtain ⟨v,rfl,hR1,rfl⟩:=hx
     obtain ⟨F1,F2,F3,hm⟩:=news3 hm hRl (fun g e=>by cases e)
     have F1:TB w1 w.heap.size f.k f.a f.l f.u f.t f.n:=F1
     have F2:IB w1 (w.heap.size+1) noI:=F2
     have F3:TB w1 (w.heap.size+1+1) t.k t.a t.l t.u t.t t.n:=F3
     have HH:Hid (Mv w w1 R none∧RdX w1 R G r e∧IB w1 (w.heap.size+1) noI):=⟨hm,hR1,F2⟩
     obtain ⟨p0,p1,p2,p3,p4,p5⟩:=F1.cells
     obtain ⟨q0,q1,q2,q3,q4,q5⟩:=F3.cells
     obtain ⟨s0,s1,s2,s3,s4,s5,s6,s7⟩:=F2.cells
     obtain ⟨z0,z1,z2,z3,z4,z5,z6,z7⟩:=F2.frozen
     clear hm hR1 F1 F2 F3 a0 a1 a2 a3 a4 a5 r0
     go_wp2_with (go_at_call 172;refine (isRange_any _ _ _).mono ?_;rintro x w2 ⟨rfl,rfl⟩;rw [hr])
     obtain ⟨mm,hmm⟩:∃ mm:MI,mm=⟨6,0,⟨#[]⟩,none,0,0,f.u,t.u,false,0⟩:=⟨_,rfl⟩
     have K1:=HH.out.2.2.set mm
     have K2:=HH.out.1.set8 (B:=w.heap.size+1) (by omega) mm
     have K3:=HH.out.2.1.set8 (B:=w.heap.size+1) (by omega) (by omega) mm
     have K4:Out R G e w none (VI 0 w.heap.size) (.ok (.mk 6 0 ⟨#[]⟩ [] f.u t.u false 0) r) (.returned (mia mm)) (set8 w2 (w.heap.size+1) mm):=⟨K2,_,rfl,K3,_,rfl,by rw [hmm];exact ⟨⟨rfl,rfl,rfl,rfl,rfl,rfl,rfl⟩,rfl,rfl,rfl,rfl⟩⟩
     clear K2 K3
     subst hmm
     exact ret_it rfl rfl K1 K4
   · have hr:isRng f.u t.u=false:=by simpa using hr
     rw [if_neg (by simp [hr])]
     go_enter Tryz.func169,Tryz.ntmps169
     go_wp2_with fail
     refine (want_any _ R G 1 (by decide) (t::r) e (((H.out.alloc _).alloc _).alloc _)).mono ?_
     rintro x w1 ⟨hm,hx⟩
     rw [HU.out] at hx
     obtain ⟨v,rfl,hR1,rfl⟩:=hx
     obtain ⟨F1,F2,F3,hm⟩:=news3 hm hRl (fun g e=>by cases e)
     have F1:TB w1 w.heap.size f.k f.a f.l f.u f.t f.n:=F1
     have F3:TB w1 (w.heap.size+1+1) t.k t.a t.l t.u t.t t.n:=F3
     have HH:Hid (Mv w w1 R none):=hm
     obtain ⟨p0,p1,p2,p3,p4,p5⟩:=F1.cells
     obtain ⟨q0,q1,q2,q3,q4,q5⟩:=F3.cells
     clear hm hR1 F1 F2 F3 a0 a1 a2 a3 a4 a5 r0
     go_wp2_with (go_at_call 172;refine (isRange_any _ _ _).mono ?_;rintro x w2 ⟨rfl,rfl⟩;rw [hr])
     exact ⟨rfl,HH.out,rfl⟩
end Go.Proofs
