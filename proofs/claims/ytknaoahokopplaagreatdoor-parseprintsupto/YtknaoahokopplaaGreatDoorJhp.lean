/-
  Lines in memory; a definition is read.
-/
import Derived.Shelf.Abstract
import Derived.WalkKit
import Derived.WalkSpells
import Derived.WalkLawsBesides
import Derived.BigQuiet
import Derived.Deep.QuietTactic
import Derived.Deep.LoopGhost
import Derived.WalkMore
import Derived.Test.YtknaoahokopplaaGreatDoorJgp
namespace Go.Proofs
open Go.RowKit Go.Shelf
set_option maxRecDepth 100000
attribute [local go_sem] Oper.semAt_some
structure SL where
 (A:Option Addr) (n c:Nat)
abbrev SL.v (s:SL):Value := .slice s.A s.n s.c
structure ML where
 (k a:Int) (t:ByteArray) (bg en:Bool) (s1 s2 s3 s4:SL) (cur:Int)
def ml1 (x:ML):List Value:=[.int .i64 x.k,.int .i64 x.a,.string x.t,.bool x.bg,.bool x.en,.slice x.s1.A x.s1.n x.s1.c,.slice x.s2.A x.s2.n x.s2.c,.slice x.s3.A x.s3.n x.s3.c,.slice x.s4.A x.s4.n x.s4.c,.int .i64 x.cur]
abbrev mla (x:ML):Value := .agg #[.int .i64 x.k,.int .i64 x.a,.string x.t,.bool x.bg,.bool x.en,.slice x.s1.A x.s1.n x.s1.c,.slice x.s2.A x.s2.n x.s2.c,.slice x.s3.A x.s3.n x.s3.c,.slice x.s4.A x.s4.n x.s4.c,.int .i64 x.cur]
abbrev noS:SL:=⟨none,0,0⟩
abbrev noL:ML:=⟨0,0,⟨#[]⟩,false,false,noS,noS,noS,noS,0⟩
def PlainL (m:ML) (l:Ln):Prop:=m.k=l.k∧m.a=l.a∧m.t=l.t∧m.bg=l.bg∧m.en=l.en∧m.cur=l.cur
def RowsS (d:Nat) (w:World) (b:Nat) (x:Option Nat) (s:SL) (l:List It):Prop:=Rows d w b x s.A s.n s.c l
def LR (d:Nat) (w:World) (b:Nat) (x:Option Nat) (m:ML) (l:Ln):Prop:=PlainL m l∧RowsS d w b x m.s1 l.ante∧RowsS d w b x m.s2 l.key∧RowsS d w b x m.s3 l.post∧RowsS d w b x m.s4 l.res
theorem RowsS.step {w w':World} {b b':Nat} {x x':Option Nat} (hb:b'≤b) (hx:x'=x∨x'=none∨∀ g,x'=some g→w.heap.size≤g∨g<b)
 (hw:∀ k,k<w.heap.size→b≤k→some k≠x→w'.heap[k]? = w.heap[k]?) {d:Nat} {s:SL} {l:List It} (h:RowsS d w b x s l):RowsS d w' b' x' s l:=Rows.step hb hx hw h
theorem RowsS.nil (d:Nat) (w:World) (b:Nat) (x:Option Nat):RowsS d w b x noS []:=Rows.nil d w b x
theorem LR.step {w w':World} {b b':Nat} {x x':Option Nat} (hb:b'≤b) (hx:x'=x∨x'=none∨∀ g,x'=some g→w.heap.size≤g∨g<b)
 (hw:∀ k,k<w.heap.size→b≤k→some k≠x→w'.heap[k]? = w.heap[k]?) {d:Nat} {m:ML} {l:Ln} (h:LR d w b x m l):LR d w' b' x' m l:=
 ⟨h.1,h.2.1.step hb hx hw,h.2.2.1.step hb hx hw,h.2.2.2.1.step hb hx hw,h.2.2.2.2.step hb hx hw⟩
def LB (W:World) (B:Nat) (m:ML):Prop:=W.heap[B]? = some (.cells (ml1 m).toArray 44 (0,0))
theorem LB.lt {W:World} {B:Nat} {m:ML} (h:LB W B m):B<W.heap.size:=(Array.getElem?_eq_some_iff.1 h).1
theorem LB.same {W W':World} {B:Nat} {m:ML} (h:LB W B m) (hb:W'.heap[B]? = W.heap[B]?):LB W' B m:=hb.trans h
theorem LB.mv {W W':World} {B R:Nat} {y:Option Nat} {m:ML} (h:LB W B m) (hm:Mv W W' R y) (hR:B≠R) (hy:some B≠y):LB W' B m:=(hm.block B h.lt hR hy).trans h
theorem LB.allocs {W:World} {B:Nat} {m:ML} (h:LB W B m) (o:Obj):LB (W.alloc o) B m:=(Below.heap_alloc _ _ _ h.lt).trans h
theorem LB.new (W:World) (m:ML):LB (W.alloc (.cells (ml1 m).toArray 44)) W.heap.size m:=World.alloc_heap_new _ _
theorem LB.put {W:World} {B:Nat} {m m':ML} (h:LB W B m) (j:Nat) (v:Value) (hv:(ml1 m).toArray.setIfInBounds j v=(ml1 m').toArray):LB (W.setCell ⟨B,j,none⟩ v) B m':=by
 have:=cells_setS (j:=j) (u:=v) h
 rw [hv] at this
 exact this
theorem LB.cells {W:World} {B:Nat} {m:ML} (h:LB W B m) :
 W.cell? ⟨B,0,none⟩=some (.int .i64 m.k)∧W.cell? ⟨B,1,none⟩=some (.int .i64 m.a)∧W.cell? ⟨B,2,none⟩=some (.string m.t)∧W.cell? ⟨B,3,none⟩=some (.bool m.bg)∧W.cell? ⟨B,4,none⟩=some (.bool m.en)∧W.cell? ⟨B,5,none⟩=some (.slice m.s1.A m.s1.n m.s1.c)∧W.cell? ⟨B,6,none⟩=some (.slice m.s2.A m.s2.n m.s2.c)∧W.cell? ⟨B,7,none⟩=some (.slice m.s3.A m.s3.n m.s3.c)∧W.cell? ⟨B,8,none⟩=some (.slice m.s4.A m.s4.n m.s4.c)∧W.cell? ⟨B,9,none⟩=some (.int .i64 m.cur):=by
 simp [World.cell?,show W.heap[B]? = _ from h,ml1]
theorem LB.frozen {W:World} {B:Nat} {m:ML} (h:LB W B m) :
 W.frozen? ⟨B,0,none⟩=false∧W.frozen? ⟨B,1,none⟩=false∧W.frozen? ⟨B,2,none⟩=false∧W.frozen? ⟨B,3,none⟩=false∧W.frozen? ⟨B,4,none⟩=false∧W.frozen? ⟨B,5,none⟩=false∧W.frozen? ⟨B,6,none⟩=false∧W.frozen? ⟨B,7,none⟩=false∧W.frozen? ⟨B,8,none⟩=false∧W.frozen? ⟨B,9,none⟩=false:=by
 simp [World.frozen?,show W.heap[B]? = _ from h]
abbrev set10 (W:World) (B:Nat) (m:ML):World:=(((((((((W.setCell ⟨B,0,none⟩ (.int .i64 m.k)).setCell ⟨B,1,none⟩ (.int .i64 m.a)).setCell ⟨B,2,none⟩ (.string m.t)).setCell ⟨B,3,none⟩ (.bool m.bg)).setCell ⟨B,4,none⟩ (.bool m.en)).setCell ⟨B,5,none⟩ (.slice m.s1.A m.s1.n m.s1.c)).setCell ⟨B,6,none⟩ (.slice m.s2.A m.s2.n m.s2.c)).setCell ⟨B,7,none⟩ (.slice m.s3.A m.s3.n m.s3.c)).setCell ⟨B,8,none⟩ (.slice m.s4.A m.s4.n m.s4.c)).setCell ⟨B,9,none⟩ (.int .i64 m.cur)
theorem LB.set {W:World} {B:Nat} {m:ML} (h:LB W B m) (m':ML):LB (set10 W B m') B m':=by
 have:=cells_setS (j:=9) (u := .int .i64 m'.cur) (cells_setS (j:=8) (u := .slice m'.s4.A m'.s4.n m'.s4.c) (cells_setS (j:=7) (u := .slice m'.s3.A m'.s3.n m'.s3.c) (cells_setS (j:=6) (u := .slice m'.s2.A m'.s2.n m'.s2.c) (cells_setS (j:=5) (u := .slice m'.s1.A m'.s1.n m'.s1.c) (cells_setS (j:=4) (u := .bool m'.en) (cells_setS (j:=3) (u := .bool m'.bg) (cells_setS (j:=2) (u := .string m'.t) (cells_setS (j:=1) (u := .int .i64 m'.a) (cells_setS (j:=0) (u := .int .i64 m'.k) h)))))))))
 simpa [LB,set10,ml1] using this
theorem set10_other (W:World) (B:Nat) (m:ML) {k:Nat} (hk:k≠B):(set10 W B m).heap[k]? = W.heap[k]? := by
 simp only [heap_set_other _ hk]
theorem Mv.set10 {a b:World} {R:Nat} {y:Option Nat} (h:Mv a b R y) {B:Nat} (hB:a.heap.size≤B) (m:ML):Mv a (Proofs.set10 b B m) R y:=
 (((((((((h.set (.inl hB) _ _).set (.inl hB) _ _).set (.inl hB) _ _).set (.inl hB) _ _).set (.inl hB) _ _).set (.inl hB) _ _).set (.inl hB) _ _).set (.inl hB) _ _).set (.inl hB) _ _).set (.inl hB) _ _
theorem RdX.set10 {w:World} {R G:Nat} {ts:List Tok} {e:Int} (h:RdX w R G ts e) {B:Nat} (h1:B≠R) (h2:B≠G) (m:ML):RdX (Proofs.set10 w B m) R G ts e:=
 (((((((((h.set h1 h2 _ _).set h1 h2 _ _).set h1 h2 _ _).set h1 h2 _ _).set h1 h2 _ _).set h1 h2 _ _).set h1 h2 _ _).set h1 h2 _ _).set h1 h2 _ _).set h1 h2 _ _
theorem ret_ln {fn:Func} {p:Tmp} {W:World} {B:Nat} {tmps:Array Value} {m:ML} {Q:Ending→World→Prop} (hr:fn.results=#[.cell p 44]) (hp:tmps.getD p undef = .pointer (some ⟨B,0,none⟩)) (h:LB W B m)
 (K:Q (.returned (mla m)) W):bodyPost Tryz.prog fn Q Exit.ret { tmps:=tmps,defers:=[] } W:=by
 refine bodyPost_ret (v:=mla m) ?_ rfl K
 obtain ⟨c0,c1,c2,c3,c4,c5,c6,c7,c8,c9⟩:=h.cells
 rw [Array.getD_eq_getD_getElem?] at hp
 simp only [results,hr]
 simp [hp,go_sem,c0,c1,c2,c3,c4,c5,c6,c7,c8,c9]
def VL (d b:Nat) (w':World) (v:Value) (l:Ln):Prop:=∃ m,v=mla m∧LR d w' b none m l
structure LC (w w2:World) (R G:Nat) (r:List Tok) (e:Int):Prop where
 mv:Mv w w2 R none
 rd:RdX w2 R G r e
 res:LB w2 w.heap.size noL
 Rlt:R<w.heap.size
 Glt:G<w.heap.size
theorem LC.alloc {w w2:World} {R G:Nat} {r:List Tok} {e:Int} (h:LC w w2 R G r e) (o:Obj):LC w (w2.alloc o) R G r e:=⟨h.mv.alloc _,h.rd.alloc _,h.res.allocs _,h.Rlt,h.Glt⟩
theorem LC.after {w w2 w3:World} {R G:Nat} {r r':List Tok} {e:Int} (h:LC w w2 R G r e) (hm:Mv w2 w3 R none) (hr:RdX w3 R G r' e):LC w w3 R G r' e:=
 ⟨h.mv.and hm,hr,h.res.mv hm (by have:=h.Rlt;omega) (by simp),h.Rlt,h.Glt⟩
theorem LC.below {w w2 w3:World} {R G:Nat} {r:List Tok} {e:Int} (h:LC w w2 R G r e) (hm:Below w2.heap.size w2 w3):LC w w3 R G r e:=h.after (Mv.of_below hm) (h.rd.below hm (Nat.le_refl _))
theorem LC.put {w w2:World} {R G:Nat} {r:List Tok} {e:Int} (h:LC w w2 R G r e) {B:Nat} (hB:w.heap.size<B) (j:Nat) (v:Value):LC w (w2.setCell ⟨B,j,none⟩ v) R G r e:=
 ⟨h.mv.set (.inl (by omega)) _ _,h.rd.set (by have:=h.Rlt;omega) (by have:=h.Glt;omega) _ _,h.res.same (heap_set_other _ (by omega) _ _),h.Rlt,h.Glt⟩
theorem LC.start {w:World} {R G:Nat} {r:List Tok} {e:Int} (h:RdX w R G r e):LC w (w.alloc (.cells (ml1 noL).toArray 44)) R G r e:=⟨(Mv.refl _ _ _).alloc _,h.alloc _,LB.new _ _,h.lt.1,h.lt.2⟩
theorem LC.tell {w w2:World} {R G:Nat} {r:List Tok} {e:Int} (h:LC w w2 R G r e) {d:Nat} {m:ML} {l:Ln} (hd:LR d w2 (w.heap.size+1) none m l):LB (set10 w2 w.heap.size m) w.heap.size m∧Out R G e w none (VL d w.heap.size) (.ok l r) (.returned (mla m)) (set10 w2 w.heap.size m):=
 ⟨h.res.set m,h.mv.set10 (Nat.le_refl _) m,_,rfl,h.rd.set10 (by have:=h.Rlt;omega) (by have:=h.Glt;omega) m,m,rfl,hd.step (by omega) (.inl rfl) (fun k _ h2 _=>set10_other _ _ _ (by omega))⟩
set_option maxHeartbeats 1000000 in
theorem def_any (e:Int) (R G:Nat) (t:Tok) (ts:List Tok) (w:World) (h:RdX w R G (t::ts) e) (hw:which t=36):Calls Tryz.prog 101 #[.pointer (some ⟨R,0,none⟩)] w (Out R G e w none (VL 3 w.heap.size) (defT e t ts)):=by
 have hg:GoodT t:=by
  obtain ⟨o,c,h⟩:=h
  exact h.good t (List.mem_cons_self ..)
 have HG:Hid (GoodT t∧which t=36):=⟨hg,hw⟩
 have HC:Hid (LC w (w.alloc (.cells (ml1 noL).toArray 44)) R G (t::ts) e):=LC.start h
 clear h hg hw
 go_enter Tryz.func101,Tryz.ntmps101
 go_wp2_with fail
 refine (take_any _ R G t ts e HC.out.rd).mono ?_
 rintro x w1 ⟨rfl,hR1,hm1⟩
 have HC1:Hid (LC w w1 R G ts e):=HC.out.after hm1 hR1
 clear hm1 hR1 HC
 go_wp2_with fail
 refine (bareName_any t _ HG.out.1 (.inl HG.out.2)).mono ?_
 rintro x w2 ⟨rfl,hb2⟩
 have HC:Hid (LC w w2 R G ts e):=HC1.out.below hb2
 clear hb2 HC1
 go_wp2_with fail
 refine (want_any _ R G 21 (by decide) ts e HC.out.rd).mono ?_
 rintro x w3 ⟨hm3,hx⟩
 generalize hW:wantT e 21 ts=W at hx
 cases W with
 | no a c=>
  simp only at hx
  subst hx
  refine ⟨rfl,?_⟩
  rw [show defT e t ts = .no a c by simp [defT,hW,Res.bind]]
  exact ⟨HC.out.mv.and hm3,rfl⟩
 | ok u r=>
  obtain ⟨v,rfl,hR3,rfl⟩:=hx
  have HC3:Hid (LC w w3 R G r e):=HC.out.after hm3 hR3
  have HW:Hid (wantT e 21 ts = .ok u r):=hW
  clear hm3 hR3 HC hW
  go_wp2_with fail
  refine (side_any e 62 (.inl rfl) R G r _ HC3.out.rd).mono ?_
  rintro x w4 ⟨hm4,hx⟩
  generalize hS:sideT e 62 r=S at hx
  cases S with
  | no a c=>
   simp only at hx
   subst hx
   refine ⟨rfl,?_⟩
   rw [show defT e t ts = .no a c by simp [defT,HW.out,hS,Res.bind]]
   exact ⟨HC3.out.mv.and hm4,rfl⟩
  | ok i r2=>
   obtain ⟨v,rfl,hR4,m,rfl,hD⟩:=hx
   have hc:=HC3.out.after hm4 hR4
   have HH:Hid (LC w w4 R G r2 e∧DR 2 w4 w3.heap.size none m i∧w.heap.size+1≤w3.heap.size∧sideT e 62 r = .ok i r2):=⟨hc,hD,HC3.out.res.lt,hS⟩
   have s:=fun o=>((hc.alloc o).res).cells
   have s0:=fun o=>(s o).1
   have s1:=fun o=>(s o).2.1
   have s2:=fun o=>(s o).2.2.1
   have s3:=fun o=>(s o).2.2.2.1
   have s4:=fun o=>(s o).2.2.2.2.1
   have s5:=fun o=>(s o).2.2.2.2.2.1
   have s6:=fun o=>(s o).2.2.2.2.2.2.1
   have s7:=fun o=>(s o).2.2.2.2.2.2.2.1
   have s8:=fun o=>(s o).2.2.2.2.2.2.2.2.1
   have s9:=fun o=>(s o).2.2.2.2.2.2.2.2.2
   clear s
   have z:=fun o=>((hc.alloc o).res).frozen
   have z0:=fun o=>(z o).1
   have z1:=fun o=>(z o).2.1
   have z2:=fun o=>(z o).2.2.1
   have z3:=fun o=>(z o).2.2.2.1
   have z4:=fun o=>(z o).2.2.2.2.1
   have z5:=fun o=>(z o).2.2.2.2.2.1
   have z6:=fun o=>(z o).2.2.2.2.2.2.1
   have z7:=fun o=>(z o).2.2.2.2.2.2.2.1
   have z8:=fun o=>(z o).2.2.2.2.2.2.2.2.1
   have z9:=fun o=>(z o).2.2.2.2.2.2.2.2.2
   clear z
   clear hm4 hR4 hD hS hc HC3
   go_wp2
   obtain ⟨K1,K2⟩:=(HH.out.1.alloc (.cells (mi1 m).toArray 58)).tell (d:=3) (m:=⟨1,0,bareN t,false,false,noS,⟨some ⟨w4.heap.size,0,none⟩,1,1⟩,noS,noS,0⟩) (l:=⟨1,0,bareN t,false,false,[],[i],[],[],0⟩) ⟨⟨rfl,rfl,rfl,rfl,rfl,rfl⟩,RowsS.nil _ _ _ _,⟨[m],⟨rfl,.inr ⟨w4.heap.size,(mi1 m).toArray,rfl,by have:=HH.out.1.res.lt;omega,(fun e=>by cases e),World.alloc_heap_new _ _,Nat.le_refl _,(by show 1≤maxLen;decide),rfl,by simp [fi,mi1]⟩⟩,(HH.out.2.1.step HH.out.2.2.1 (.inl rfl) (fun k h1 _ _=>Below.heap_alloc _ _ _ h1)).up,trivial⟩,RowsS.nil _ _ _ _,RowsS.nil _ _ _ _⟩
   refine ret_ln rfl rfl K1 ?_
   rw [show defT e t ts = .ok ⟨1,0,bareN t,false,false,[],[i],[],[],0⟩ r2 by simp [defT,HW.out,HH.out.2.2.2,Res.bind]]
   exact K2
end Go.Proofs
