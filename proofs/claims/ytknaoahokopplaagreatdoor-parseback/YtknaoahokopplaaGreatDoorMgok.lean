/-
  Several texts in one (Jbk Tek Jck).
-/
import Derived.Shelf.Abstract
import Derived.WalkKit
import Derived.WalkSpells
import Derived.WalkLawsBesides
import Derived.Lib.OthersKept
import Derived.Maps.AppendAt
import Derived.Lib.SmallJoins
import Derived.Test.YtknaoahokopplaaGreatDoorMgnk
import Derived.BigQuiet
import Derived.Deep.QuietTactic
import Derived.Deep.LoopGhost
import Derived.WalkMore
namespace Go.Proofs
open Go.RowKit Go.Shelf
set_option maxRecDepth 100000
attribute [local go_sem] Oper.semAt_some
def All2 {α β:Type} (R:α→β→Prop):List α→List β→Prop
 | [],[]=>True
 | a::l,b::m=>R a b∧All2 R l m
 | _,_=>False
theorem All2.mono {α β:Type} {R S:α→β→Prop} (h:∀ a b,R a b→S a b):∀ {l:List α} {m:List β},All2 R l m→All2 S l m
 | [],[],_=>trivial
 | _::_,_::_,k=>⟨h _ _ k.1,All2.mono h k.2⟩
 | [],_::_,k=>k.elim
 | _::_,[],k=>k.elim
theorem All2.length {α β:Type} {R:α→β→Prop} : ∀ {l:List α} {m:List β},All2 R l m→l.length=m.length
 | [],[],_=>rfl
 | _::_,_::_,k=>by simp [All2.length k.2]
 | [],_::_,k=>k.elim
 | _::_,[],k=>k.elim
theorem All2.append {α β:Type} {R:α→β→Prop} : ∀ {l l2:List α} {m m2:List β},All2 R l m→All2 R l2 m2→All2 R (l++l2) (m++m2)
 | [],_,[],_,_,k=>k
 | _::_,_,_::_,_,h,k=>⟨h.1,All2.append h.2 k⟩
 | [],_,_::_,_,h,_=>h.elim
 | _::_,_,[],_,h,_=>h.elim
structure Mv (w w':World) (R:Nat) (y:Option Nat):Prop where
 os:w'.os=w.os
 tape:w'.tape=w.tape
 output:w'.output=w.output
 size:w.heap.size≤w'.heap.size
 block:∀ k,k<w.heap.size→k≠R→some k≠y→w'.heap[k]? = w.heap[k]?
theorem Mv.refl (w:World) (R:Nat) (y:Option Nat):Mv w w R y:=⟨rfl,rfl,rfl,Nat.le_refl _,fun _ _ _ _=>rfl⟩
theorem Mv.trans {a b c:World} {R:Nat} {y z:Option Nat} (h:Mv a b R y) (k:Mv b c R z) (hz:z=y∨∀ g,z=some g→a.heap.size≤g):Mv a c R y:=
 ⟨k.os.trans h.os,k.tape.trans h.tape,k.output.trans h.output,Nat.le_trans h.size k.size,fun i hi hR hy=>(k.block i (Nat.lt_of_lt_of_le hi h.size) hR (fun e=>by
  rcases hz with hz | hz
  · exact hy (by rw [←hz];exact e)
  · have:=hz i e.symm;omega)).trans (h.block i hi hR hy)⟩
theorem Mv.and {a b c:World} {R:Nat} {y:Option Nat} (h:Mv a b R y) (k:Mv b c R none):Mv a c R y:=h.trans k (.inr (fun g e=>by cases e))
theorem Mv.of_below {a b:World} {R:Nat} {y:Option Nat} (h:Below a.heap.size a b):Mv a b R y:=⟨h.os,h.tape,h.output,h.size,fun i hi _ _=>h.block i hi⟩
theorem Mv.of_grown {a b:World} {R:Nat} {y:Option Nat} (h:a.grownBy b y):Mv a b R y:=⟨h.os,h.tape,h.output,h.size,fun i hi _ hy=>h.block i hi hy⟩
theorem Mv.alloc {a b:World} {R:Nat} {y:Option Nat} (h:Mv a b R y) (o:Obj):Mv a (b.alloc o) R y:=h.trans (z:=none) (.of_below ((Below.refl _ _).alloc (Nat.le_refl _) _)) (.inr (fun g e=>by cases e))
theorem Mv.set {a b:World} {R:Nat} {y:Option Nat} (h:Mv a b R y) {B:Nat} (hB:a.heap.size≤B∨B=R) (j:Nat) (v:Value):Mv a (b.setCell ⟨B,j,none⟩ v) R y:=
 ⟨h.os,h.tape,h.output,by simpa using h.size,fun i hi hR hy=>by
  refine Eq.trans ?_ (h.block i hi hR hy)
  show (b.heap.modify B _)[i]? = _
  rw [Array.getElem?_modify,if_neg (fun e=>by rcases hB with hB | hB <;> omega)]⟩
theorem Mv.below {a b:World} {R n:Nat} {y:Option Nat} (h:Mv a b R y) (hn:n≤a.heap.size) (hR:n≤R) (hy:∀ g,y=some g→n≤g):Below n a b:=
 ⟨h.os,h.tape,h.output,h.size,fun i hi=>h.block i (by omega) (by omega) (fun e=>by have:=hy i e.symm;omega)⟩
structure MI where
 (k u:Int) (t:ByteArray) (A:Option Addr) (n c:Nat) (lo hi:Int) (nt:Bool) (key:Int)
def mi1 (x:MI):List Value:=[.int .i64 x.k,.int .i64 x.u,.string x.t,.slice x.A x.n x.c,.int .i64 x.lo,.int .i64 x.hi,.bool x.nt,.int .i64 x.key]
abbrev mia (x:MI):Value := .agg #[.int .i64 x.k,.int .i64 x.u,.string x.t,.slice x.A x.n x.c,.int .i64 x.lo,.int .i64 x.hi,.bool x.nt,.int .i64 x.key]
def fi (l:List MI):List Value:=l.flatMap mi1
theorem fi_append (l m:List MI):fi (l++m)=fi l++fi m:=by simp [fi]
theorem fi_one (l:List MI):∀ u∈fi l,u.oneCell'=true:=by
 intro u hu
 simp only [fi,List.mem_flatMap] at hu
 obtain ⟨x,_,hx⟩:=hu
 simp only [mi1,List.mem_cons,List.not_mem_nil,or_false] at hx
 rcases hx with rfl | rfl | rfl | rfl | rfl | rfl | rfl | rfl <;> rfl
def RowI (w:World) (b:Nat) (x:Option Nat) (A:Option Addr) (n c:Nat) (ms:List MI):Prop:=
 n=ms.length∧((A=none∧n=0∧c=0)∨∃ g cur,A=some ⟨g,0,none⟩∧b≤g∧some g≠x∧w.heap[g]? = some (.cells cur 58 (0,0))∧n≤c∧c≤maxLen∧cur.size=c*8∧cur.toList.take (n*8)=fi ms)
def Plain (m:MI):It→Prop
 | .mk k u t _ lo hi nt key=>m.k=k∧m.u=u∧m.t=t∧m.lo=lo∧m.hi=hi∧m.nt=nt∧m.key=key
def It.ps:It→List It
 | .mk _ _ _ ps _ _ _ _=>ps
def DR:Nat→World→Nat→Option Nat→MI→It→Prop
 | 0,_,_,_,m,i=>Plain m i∧i.ps=[]∧m.A=none∧m.n=0∧m.c=0
 | d+1,w,b,x,m,i=>Plain m i∧∃ ms,RowI w b x m.A m.n m.c ms∧All2 (DR d w b x) ms i.ps
def Rows (d:Nat) (w:World) (b:Nat) (x:Option Nat) (A:Option Addr) (n c:Nat) (l:List It):Prop:=∃ ms,RowI w b x A n c ms∧All2 (DR d w b x) ms l
theorem RowI.step {w w':World} {b b':Nat} {x x':Option Nat} {A:Option Addr} {n c:Nat} {ms:List MI} (h:RowI w b x A n c ms) (hb:b'≤b) (hx:x'=x∨x'=none∨∀ g,x'=some g→w.heap.size≤g∨g<b)
 (hw:∀ k,k<w.heap.size→b≤k→some k≠x→w'.heap[k]? = w.heap[k]?):RowI w' b' x' A n c ms:=by
 refine ⟨h.1,h.2.imp id ?_⟩
 rintro ⟨g,cur,rfl,h1,h2,h3,h4⟩
 have hlt:=(Array.getElem?_eq_some_iff.1 h3).1
 refine ⟨g,cur,rfl,by omega,?_,(hw g hlt h1 h2).trans h3,h4⟩
 rcases hx with rfl | rfl | hx
 · exact h2
 · intro e;cases e
 · intro e
   have:=hx g e.symm
   omega
theorem DR.step {w w':World} {b b':Nat} {x x':Option Nat} (hb:b'≤b) (hx:x'=x∨x'=none∨∀ g,x'=some g→w.heap.size≤g∨g<b)
 (hw:∀ k,k<w.heap.size→b≤k→some k≠x→w'.heap[k]? = w.heap[k]?):∀ {d:Nat} {m:MI} {i:It},DR d w b x m i→DR d w' b' x' m i
 | 0,_,_,h=>h
 | _+1,_,_,h=>⟨h.1,h.2.imp fun _ k=>⟨k.1.step hb hx hw,k.2.mono fun _ _ r=>DR.step hb hx hw r⟩⟩
theorem Rows.step {w w':World} {b b':Nat} {x x':Option Nat} (hb:b'≤b) (hx:x'=x∨x'=none∨∀ g,x'=some g→w.heap.size≤g∨g<b)
 (hw:∀ k,k<w.heap.size→b≤k→some k≠x→w'.heap[k]? = w.heap[k]?) {d:Nat} {A:Option Addr} {n c:Nat} {l:List It} (h:Rows d w b x A n c l):Rows d w' b' x' A n c l:=
 h.imp fun _ k=>⟨k.1.step hb hx hw,k.2.mono fun _ _ r=>DR.step hb hx hw r⟩
theorem DR.up {w:World} {b:Nat} {x:Option Nat} : ∀ {d:Nat} {m:MI} {i:It},DR d w b x m i→DR (d+1) w b x m i
 | 0,_,_,h=>⟨h.1,[],⟨by rw [h.2.2.2.1];rfl,.inl ⟨h.2.2.1,h.2.2.2.1,h.2.2.2.2⟩⟩,by rw [h.2.1];trivial⟩
 | _+1,_,_,h=>⟨h.1,h.2.imp fun _ k=>⟨k.1,k.2.mono fun _ _ r=>DR.up r⟩⟩
theorem Rows.up {d:Nat} {w:World} {b:Nat} {x:Option Nat} {A:Option Addr} {n c:Nat} {l:List It} (h:Rows d w b x A n c l):Rows (d+1) w b x A n c l:=h.imp fun _ k=>⟨k.1,k.2.mono fun _ _ r=>r.up⟩
theorem Rows.nil (d:Nat) (w:World) (b:Nat) (x:Option Nat):Rows d w b x none 0 0 []:=⟨[],⟨rfl,.inl ⟨rfl,rfl,rfl⟩⟩,trivial⟩
theorem Mv.keeps {w w':World} {R b:Nat} {x y:Option Nat} (h:Mv w w' R y) (hR:R<b) (hy:y=none∨y=x∨∀ g,y=some g→g<b):∀ k,k<w.heap.size→b≤k→some k≠x→w'.heap[k]? = w.heap[k]? :=
 fun k h1 h2 h3=>h.block k h1 (by omega) (fun e=>by
  rcases hy with hy | hy | hy
  · rw [hy] at e;cases e
  · exact h3 (by rw [←hy];exact e)
  · have:=hy k e.symm;omega)
def OwnI (d:Nat) (w:World) (b:Nat) (v:Value) (l:List It):Prop:=∃ ms,w.ownsRow b 58 8 v ms.length (fi ms)∧All2 (DR d w b v.ownBlock) ms l
theorem OwnI.nil (d:Nat) (w:World) (b:Nat):OwnI d w b (.slice none 0 0) []:=⟨[],World.ownsRow_nil _ _ _ _,trivial⟩
theorem OwnI.form {d:Nat} {w:World} {b:Nat} {v:Value} {l:List It} (h:OwnI d w b v l):∃ A c,v = .slice A l.length c:=by
 obtain ⟨ms,h1,h2⟩:=h
 rcases h1.2 with ⟨e,h0⟩ | ⟨g,cap,cur,e,_⟩
 · subst e;exact ⟨none,0,by rw [←h2.length,h0]⟩
 · exact ⟨_,_,by rw [←h2.length];exact e⟩
theorem OwnI.lt {d:Nat} {w:World} {b:Nat} {v:Value} {l:List It} (h:OwnI d w b v l):∀ g,v.ownBlock=some g→b≤g∧g<w.heap.size:=by
 obtain ⟨ms,h1,h2⟩:=h
 exact fun g e=>World.ownsRow.lt h1 g e
theorem OwnI.step {w w':World} {b:Nat} {v:Value} {d:Nat} {l:List It} (h:OwnI d w b v l) (hw:∀ k,k<w.heap.size→b≤k→w'.heap[k]? = w.heap[k]?):OwnI d w' b v l:=by
 obtain ⟨ms,h1,h2⟩:=h
 refine ⟨ms,⟨h1.1,h1.2.imp id ?_⟩,h2.mono fun _ _ r=>r.step (Nat.le_refl _) (.inl rfl) (fun k k1 k2 _=>hw k k1 k2)⟩
 rintro ⟨g,cap,cur,rfl,k1,k2,k3⟩
 exact ⟨g,cap,cur,rfl,k1,(hw g (Array.getElem?_eq_some_iff.1 k2).1 k1).trans k2,k3⟩
theorem OwnI.rows {d:Nat} {w:World} {b:Nat} {A:Option Addr} {n c:Nat} {l:List It} (h:OwnI d w b (.slice A n c) l):Rows d w b none A n c l:=by
 obtain ⟨ms,h1,h2⟩:=h
 refine ⟨ms,?_,h2.mono fun _ _ r=>r.step (Nat.le_refl _) (.inr (.inl rfl)) (fun k _ _ _=>rfl)⟩
 rcases h1.2 with ⟨e,h0⟩ | ⟨g,cap,cur,e,k1,k2,k3,k4,k5,k6⟩
 · cases e
   exact ⟨h0.symm,.inl ⟨rfl,rfl,rfl⟩⟩
 · cases e
   exact ⟨rfl,.inr ⟨g,cur,rfl,k1,(fun e=>by cases e),k2,k3,k4,k5,k6⟩⟩
theorem info50:(Tryz.prog.info? 58).map (fun i=>(i.zero,i.size,i.bytes))=some (some (.agg #[.int .i64 0,.int .i64 0,.string ⟨#[]⟩,.slice none 0 0,.int .i64 0,.int .i64 0,.bool false,.int .i64 0]),8,88):=by kernel_rfl
theorem add_zero_at' (g j:Nat):(⟨g,0,none⟩:Addr).add j=⟨g,j,none⟩:=by
 unfold Addr.add
 by_cases h:j=0
 · subst h;rfl
 · simp [h]
theorem push_I {ops:Array Oper} {rest:List Oper} {o:Oper} {a:Act} {Q:Exit→Act→World→Prop} {w:World} (hgd:o.guard=none) (s x:Operand) (t:TypeId)
 (ho:o.op = .call { callee := .builtin .append,args:=#[s,x],argTypes:=#[t,t] }) (ht:Tryz.prog.underlying t=some (.slice 58))
 (d b:Nat) (v:Value) (l:List It) (hs:a.eval s=v) (hown:OwnI d w b v l) (g c:Nat) (m:MI) (i:It) (hx:a.eval x = .slice (some ⟨g,0,none⟩) 1 c)
 (hy:w.heap[g]? = some (.cells (mi1 m).toArray 58 (0,0))) (hm:DR d w b v.ownBlock m i) (hl:l.length+1≤1099511627776) (hbase:b≤w.heap.size)
 (h:∀ A c' w',OwnI d w' b (.slice A (l.length+1) c') (l++[i])→w.grownBy w' v.ownBlock→((Value.slice A (l.length+1) c').ownBlock=v.ownBlock∨(Value.slice A (l.length+1) c').ownBlock=some w.heap.size)→wpList Tryz.prog ops Q rest (a.put o.dst (.slice A (l.length+1) c')) w'):wpList Tryz.prog ops Q (o::rest) a w:=by
 obtain ⟨i0,hi,hz0,hz1,hz2⟩:=info_parts info50
 obtain ⟨ms,h1,h2⟩:=hown
 have hlen:=h2.length
 refine wpList_append_own_at w hgd s x t ho b 58 i0 _ 8 88 ht hi hz0 hz1 hz2 rfl (by decide) v ms.length (fi ms) hs h1 ⟨g,0,none⟩ 1 c (fi [m]) hx rfl ?_ (fi_one _) (by unfold maxLen;omega) (by omega) hbase (fun v' w' k2 k3 _ k5 => ?_)
 · intro j u hj
   have e:(fi [m])=mi1 m:=by simp [fi]
   rw [e] at hj
   rw [add_zero_at']
   simp only [World.cell?,hy]
   simpa using hj
 · have hf:∃ A c',v' = .slice A (l.length+1) c':=by
    rcases k2.2 with ⟨e,h0⟩ | ⟨g,cap,cur,e,_⟩
    · omega
    · exact ⟨_,_,by rw [←hlen];exact e⟩
   obtain ⟨A,c',rfl⟩:=hf
   refine h A c' w' ⟨ms++[m],?_,?_⟩ k3 k5
   · rw [fi_append,List.length_append]
     exact k2
   · have hst:∀ k,k<w.heap.size→b≤k→some k≠v.ownBlock→w'.heap[k]? = w.heap[k]? := fun k q1 _ q3=>k3.block k q1 q3
     have hx':(Value.slice A (l.length+1) c').ownBlock=v.ownBlock∨(Value.slice A (l.length+1) c').ownBlock=none∨∀ g,(Value.slice A (l.length+1) c').ownBlock=some g→w.heap.size≤g∨g<b:=by
      rcases k5 with e | e
      · exact .inl e
      · exact .inr (.inr fun g e2 => .inl (by rw [e] at e2;have:=Option.some.inj e2;omega))
     exact (h2.mono fun _ _ r=>r.step (Nat.le_refl _) hx' hst).append ⟨hm.step (Nat.le_refl _) hx' hst,trivial⟩
end Go.Proofs
namespace Go.Proofs
open Go.RowKit Go.Shelf
set_option maxRecDepth 100000
def SameT (x y:Tok):Prop:=x.k=y.k∧x.u=y.u∧x.t=y.t∧x.n=y.n
theorem ends_lit (R:List UInt8):endsB ⟨R.toArray⟩=(Lib.hasPrefix R [116,104,101,110] && decide (R[4+pastN false (R.drop 4)]? = some 59)):=by
 unfold endsB
 simp
theorem pre4_iff (L:List UInt8) (a b c d:UInt8):Lib.hasPrefix L [a,b,c,d]=true↔L.take 4=[a,b,c,d]:=by
 rw [←Lib.hasPrefix_of_take]
 simp only [Bool.and_eq_true,beq_iff_eq,decide_eq_true_eq]
 constructor
 · exact fun h=>h.2
 · intro h
   refine ⟨?_,h⟩
   have:=congrArg List.length h
   rw [List.length_take] at this
   simp at this ⊢
   omega
end Go.Proofs
namespace Go.Proofs
open Go.RowKit Go.Shelf
set_option maxRecDepth 100000
attribute [local go_sem] Oper.semAt_some
def TokAt (w:World) (G o:Nat) (x:Tok):Prop:=
 w.cell? ⟨G,o,none⟩=some (.int .i64 x.k)∧w.cell? ⟨G,o+1,none⟩=some (.int .i64 x.a)∧w.cell? ⟨G,o+2,none⟩=some (.int .i64 x.l)∧w.cell? ⟨G,o+3,none⟩=some (.int .i64 x.u)∧w.cell? ⟨G,o+4,none⟩=some (.string x.t)∧w.cell? ⟨G,o+5,none⟩=some (.int .i64 x.n)
def GoodT (t:Tok):Prop:=(t.k=2→1≤t.t.size∧t.t.size≤maxLen∧(byteAt t.t 0=58→2≤t.t.size))∧t.k≤22
def sen (e:Int):Tok:=⟨0,e,0,0,⟨#[]⟩,0⟩
abbrev tkv (t:Tok):Value := .agg #[.int .i64 t.k,.int .i64 t.a,.int .i64 t.l,.int .i64 t.u,.string t.t,.int .i64 t.n]
structure Rd (w:World) (R G o c:Nat) (ts:List Tok) (e:Int):Prop where
 rd:w.heap[R]? = some (.cells #[.slice (some ⟨G,o,none⟩) (ts.length+1) c] 95 (0,0))
 ne:G≠R
 cap:ts.length+1≤c∧c≤maxLen
 tk:∀ j x,(ts++[sen e])[j]? = some x→TokAt w G (o+j*6) x
 good:∀ t,t∈ts→GoodT t
def RdX (w:World) (R G:Nat) (ts:List Tok) (e:Int):Prop:=∃ o c,Rd w R G o c ts e
theorem TokAt.of_block {w w':World} {G o:Nat} {x:Tok} (h:TokAt w G o x) (hb:w'.heap[G]? = w.heap[G]?):TokAt w' G o x:=by
 obtain ⟨a0,a1,a2,a3,a4,a5⟩:=h
 have hc:∀ j,w'.cell? ⟨G,j,none⟩=w.cell? ⟨G,j,none⟩:=fun j=>World.cell?_of_block hb
 exact ⟨(hc _).trans a0,(hc _).trans a1,(hc _).trans a2,(hc _).trans a3,(hc _).trans a4,(hc _).trans a5⟩
theorem Rd.lt {w:World} {R G o c:Nat} {ts:List Tok} {e:Int} (h:Rd w R G o c ts e):R<w.heap.size:=(Array.getElem?_eq_some_iff.1 h.rd).1
theorem Rd.ltG {w:World} {R G o c:Nat} {ts:List Tok} {e:Int} (h:Rd w R G o c ts e):G<w.heap.size:=by
 obtain ⟨x,hx⟩:∃ x,(ts++[sen e])[0]? = some x:=⟨(ts++[sen e])[0]'(by simp),List.getElem?_eq_getElem _⟩
 obtain ⟨ob,ho,_⟩:=cells_of_cell (h.tk 0 x hx).1
 exact (Array.getElem?_eq_some_iff.1 ho).1
theorem Rd.step {w w':World} {R G o c:Nat} {ts:List Tok} {e:Int} (h:Rd w R G o c ts e) (hR:w'.heap[R]? = w.heap[R]?) (hG:w'.heap[G]? = w.heap[G]?):Rd w' R G o c ts e:=
 ⟨hR.trans h.rd,h.ne,h.cap,fun j x hj=>(h.tk j x hj).of_block hG,h.good⟩
theorem RdX.lt {w:World} {R G:Nat} {ts:List Tok} {e:Int} (h:RdX w R G ts e):R<w.heap.size∧G<w.heap.size:=by
 obtain ⟨o,c,h⟩:=h
 exact ⟨h.lt,h.ltG⟩
theorem RdX.below {w w':World} {R G n:Nat} {ts:List Tok} {e:Int} (h:RdX w R G ts e) (hb:Below n w w') (hn:w.heap.size≤n):RdX w' R G ts e:=by
 have hl:=h.lt
 obtain ⟨o,c,h⟩:=h
 exact ⟨o,c,h.step (hb.block R (by omega)) (hb.block G (by omega))⟩
theorem RdX.grown {w w':World} {R G:Nat} {y:Option Nat} {ts:List Tok} {e:Int} (h:RdX w R G ts e) (hb:w.grownBy w' y) (h1:some R≠y) (h2:some G≠y):RdX w' R G ts e:=by
 have hl:=h.lt
 obtain ⟨o,c,h⟩:=h
 exact ⟨o,c,h.step (hb.block R (by omega) h1) (hb.block G (by omega) h2)⟩
theorem RdX.alloc {w:World} {R G:Nat} {ts:List Tok} {e:Int} (h:RdX w R G ts e) (ob:Obj):RdX (w.alloc ob) R G ts e:=h.below ((Below.refl _ _).alloc (Nat.le_refl _) _) (Nat.le_refl _)
theorem RdX.set {w:World} {R G:Nat} {ts:List Tok} {e:Int} (h:RdX w R G ts e) {B:Nat} (h1:B≠R) (h2:B≠G) (j:Nat) (v:Value):RdX (w.setCell ⟨B,j,none⟩ v) R G ts e:=
 h.grown (y:=some B) (grown_setB w B j v) (fun e=>h1 (Option.some.inj e).symm) (fun e=>h2 (Option.some.inj e).symm)
theorem Rd.cellR {w:World} {R G o c:Nat} {ts:List Tok} {e:Int} (h:Rd w R G o c ts e):w.cell? ⟨R,0,none⟩=some (.slice (some ⟨G,o,none⟩) (ts.length+1) c)∧w.frozen? ⟨R,0,none⟩=false:=by
 simp [World.cell?,World.frozen?,h.rd]
theorem Rd.taken {w:World} {R G o c:Nat} {t:Tok} {ts:List Tok} {e:Int} (h:Rd w R G o c (t::ts) e):Rd (w.setCell ⟨R,0,none⟩ (.slice (some ⟨G,o+6,none⟩) (ts.length+1) (c - 1))) R G (o+6) (c - 1) ts e:=by
 refine ⟨?_,h.ne,?_,?_,fun x hx=>h.good x (List.mem_cons_of_mem _ hx)⟩
 · have:=cells_setS (j:=0) (u := .slice (some ⟨G,o+6,none⟩) (ts.length+1) (c - 1)) h.rd
   simpa using this
 · have:=h.cap
   simp at this
   omega
 · intro j x hj
   have h1:=h.tk (j+1) x (by simpa using hj)
   rw [show o+(j+1)*6=o+6+j*6 by omega] at h1
   refine h1.of_block ?_
   show (w.heap.modify R _)[G]? = _
   rw [Array.getElem?_modify,if_neg (fun e=>h.ne e.symm)]
abbrev thrown (a c:Int):Ending := .panicked [{ v := .iface 32 (.agg #[.int .i64 a,.int .i64 c]),recovered:=false }]
def Out {α:Type} (R G:Nat) (e:Int) (w:World) (y:Option Nat) (V:World→Value→α→Prop) (s:Res α) (x:Ending) (w':World):Prop:=
 Mv w w' R y∧match s with
 | .ok a r=>∃ v,x = .returned v∧RdX w' R G r e∧V w' v a
 | .no a c=>x=thrown a c
set_option maxHeartbeats 1000000 in
theorem whichOf_any (t:Tok) (w:World) (hg:GoodT t):Calls Tryz.prog 99 #[tkv t] w fun x w'=>x = .returned (.int .i64 (which t))∧Below w.heap.size w w':=by
 obtain ⟨k,a,l,u,s,n⟩:=t
 by_cases hk:k=2
 · subst hk
   obtain ⟨h1,h2,h3⟩:=hg.1 rfl
   simp only at h1 h2 h3
   have h0:0<s.size:=h1
   have h0':0<s.data.size:=h1
   have hw:which ⟨2,a,l,u,s,n⟩=(s[0].toNat:Int):=by
    have e:s.data.getD 0 0=s[0]:=by rw [Array.getD_eq_getD_getElem?,Array.getElem?_eq_getElem h0'];rfl
    simp [which,byteAt,e]
   have hwr:wrap64 (s[0].toNat:Int)=(s[0].toNat:Int):=IntWalk.wrap64_in _ (by have:=s[0].toNat_lt;omega)
   rw [hw]
   go_enter Tryz.func99,Tryz.ntmps99
   go_wp2
   go_ret
   exact ⟨congrArg (fun z=>Ending.returned (.int .i64 z)) hwr,(Below.refl _ _).alloc (Nat.le_refl _) _⟩
 · have hd:(k == 2)=false:=by simpa using hk
   have hw:which ⟨k,a,l,u,s,n⟩=k:=by simp [which,hk]
   rw [hw]
   go_enter Tryz.func99,Tryz.ntmps99
   go_wp2
   go_ret
   exact ⟨rfl,(Below.refl _ _).alloc (Nat.le_refl _) _⟩
theorem Rd.head {w:World} {R G o c:Nat} {ts:List Tok} {e:Int} (h:Rd w R G o c ts e):∃ t,TokAt w G o t∧GoodT t∧which t=nxt ts∧t.a=atOf e ts∧(∀ x r,ts=x::r→t=x):=by
 cases ts with
 | nil=>exact ⟨sen e,by simpa using h.tk 0 (sen e) rfl,⟨(fun e=>by cases e),(by simp [sen])⟩,rfl,rfl,fun _ _ e=>by cases e⟩
 | cons x r=>exact ⟨x,by simpa using h.tk 0 x rfl,h.good x (List.mem_cons_self ..),rfl,rfl,fun _ _ e=>by cases e;rfl⟩
set_option maxHeartbeats 1000000 in
theorem next_any (w:World) (R G:Nat) (ts:List Tok) (e:Int) (h:RdX w R G ts e):Calls Tryz.prog 53 #[.pointer (some ⟨R,0,none⟩)] w fun x w'=>x = .returned (.int .i64 (nxt ts))∧Below w.heap.size w w':=by
 obtain ⟨o,c,h⟩:=h
 obtain ⟨t,ht,hg,hw,-⟩:=h.head
 obtain ⟨a0,a1,a2,a3,a4,a5⟩:=ht
 obtain ⟨r0,r1⟩:=h.cellR
 have HG:Hid (GoodT t):=hg
 rw [←hw]
 clear hw hg h
 go_enter Tryz.func53,Tryz.ntmps53
 go_wp2_with (go_at_call 99;refine (whichOf_any t _ HG.out).mono ?_;rintro x w1 ⟨rfl,hb⟩)
 go_ret
 exact ⟨rfl,hb⟩
set_option maxHeartbeats 1000000 in
theorem take_any (w:World) (R G:Nat) (t:Tok) (ts:List Tok) (e:Int) (h:RdX w R G (t::ts) e):Calls Tryz.prog 140 #[.pointer (some ⟨R,0,none⟩)] w fun x w'=>x = .returned (tkv t)∧RdX w' R G ts e∧Mv w w' R none:=by
 obtain ⟨o,c,h⟩:=h
 have HR:Hid (Rd w R G o c (t::ts) e):=h
 have ht:TokAt w G o t:=by simpa using h.tk 0 t rfl
 obtain ⟨a0,a1,a2,a3,a4,a5⟩:=ht
 obtain ⟨r0,r1⟩:=h.cellR
 have hc:=h.cap
 simp only [List.length_cons] at r0 hc
 have hc0:ts.length+1≤c:=by omega
 have hc1:c≤maxLen:=hc.2
 have hRl:R<w.heap.size:=h.lt
 have hGl:G<w.heap.size:=h.ltG
 have hc2:¬ c=1:=by omega
 have hb:=h.taken
 have HB:Hid (Rd (w.setCell ⟨R,0,none⟩ (.slice (some ⟨G,o+6,none⟩) (ts.length+1) (c - 1))) R G (o+6) (c - 1) ts e):=hb
 clear h hc hb
 go_enter Tryz.func140,Tryz.ntmps140
 go_wp2
 refine bodyPost_ret (v:=tkv t) (by simp [results,Tryz.f140,go_sem]) rfl ⟨rfl,?_,?_⟩
 · exact (RdX.alloc (RdX.alloc ⟨_,_,HB.out⟩ _) _)
 · exact (((Mv.refl w R none).set (.inr rfl) _ _).alloc _).alloc _
set_option maxHeartbeats 1000000 in
theorem pass_any (w:World) (R G:Nat) (n:Int) (hn:n≠0) (ts:List Tok) (e:Int) (h:RdX w R G ts e):Calls Tryz.prog 100 #[.pointer (some ⟨R,0,none⟩),.int .i64 n] w fun x w'=>x = .returned (.bool (passT n ts).1)∧RdX w' R G (passT n ts).2 e∧Mv w w' R none:=by
 have H:Hid (RdX w R G ts e):=h
 clear h
 by_cases hk:nxt ts=n
 · have hd:(nxt ts == n)=true:=by simpa using hk
   have hp:passT n ts=(true,ts.tail):=by simp [passT,hk]
   rw [hp]
   cases ts with
   | nil=>exact absurd hk.symm hn
   | cons t r=>
    go_enter Tryz.func100,Tryz.ntmps100
    go_wp2_with (first | (go_at_call 53;refine (next_any _ R G _ e H.out).mono ?_;rintro x w1 ⟨rfl,hb1⟩;have H1:Hid (RdX w1 R G (t::r) e):=H.out.below hb1 (Nat.le_refl _);have HB1:Hid (Below w.heap.size w w1):=hb1;clear hb1) | (go_at_call 140;refine (take_any _ R G t r e H1.out).mono ?_;rintro x w2 ⟨rfl,h2,hm2⟩))
    go_ret
    exact ⟨rfl,h2,(Mv.of_below HB1.out).and hm2⟩
 · have hd:(nxt ts == n)=false:=by simpa using hk
   have hp:passT n ts=(false,ts):=by simp [passT,hk]
   rw [hp]
   go_enter Tryz.func100,Tryz.ntmps100
   go_wp2_with (go_at_call 53;refine (next_any _ R G _ e H.out).mono ?_;rintro x w1 ⟨rfl,hb1⟩)
   go_ret
   exact ⟨rfl,H.out.below hb1 (Nat.le_refl _),Mv.of_below hb1⟩
set_option maxHeartbeats 1000000 in
theorem refuse_any (w:World) (R G:Nat) (n:Int) (ts:List Tok) (e:Int) (h:RdX w R G ts e):Calls Tryz.prog 144 #[.pointer (some ⟨R,0,none⟩),.int .i64 n] w fun x w'=>x=thrown (atOf e ts) n∧Below w.heap.size w w':=by
 obtain ⟨o,c,h⟩:=h
 obtain ⟨t,ht,-,-,hw,-⟩:=h.head
 obtain ⟨a0,a1,a2,a3,a4,a5⟩:=ht
 obtain ⟨r0,r1⟩:=h.cellR
 rw [←hw]
 clear hw h
 go_enter Tryz.func144,Tryz.ntmps144
 go_wp2
 exact ⟨rfl,rfl,Below.refl _ _⟩
set_option maxHeartbeats 1000000 in
theorem want_any (w:World) (R G:Nat) (n:Int) (hn:n≠0) (ts:List Tok) (e:Int) (h:RdX w R G ts e):Calls Tryz.prog 103 #[.pointer (some ⟨R,0,none⟩),.int .i64 n] w (Out R G e w none (fun _ v _=>v = .tuple #[]) (wantT e n ts)):=by
 have H:Hid (RdX w R G ts e):=h
 clear h
 by_cases hk:nxt ts=n
 · have hp:passT n ts=(true,ts.tail):=by simp [passT,hk]
   have hq:wantT e n ts = .ok () ts.tail:=by simp [wantT,hk]
   rw [hq]
   go_enter Tryz.func103,Tryz.ntmps103
   go_wp2_with (go_at_call 100;refine (pass_any _ R G n hn _ e H.out).mono ?_;rintro x w1 ⟨rfl,h1,hm1⟩;rw [hp] at h1 ⊢)
   refine bodyPost_end (v := .tuple #[]) (by simp [results,Tryz.f103]) rfl ?_
   exact ⟨hm1,_,rfl,h1,rfl⟩
 · have hp:passT n ts=(false,ts):=by simp [passT,hk]
   have hq:wantT e n ts = .no (atOf e ts) 50:=by simp [wantT,hk]
   rw [hq]
   go_enter Tryz.func103,Tryz.ntmps103
   go_wp2_with (first | (go_at_call 100;refine (pass_any _ R G n hn _ e H.out).mono ?_;rintro x w1 ⟨rfl,h1,hm1⟩;rw [hp] at h1 ⊢;have H1:Hid (RdX w1 R G ts e):=h1;have HM1:Hid (Mv w w1 R none):=hm1;clear h1 hm1) | (go_at_call 144;refine (refuse_any _ R G 50 ts e H1.out).mono ?_;rintro x w2 ⟨rfl,hb2⟩))
   exact ⟨rfl,HM1.out.and (Mv.of_below hb2),rfl⟩
set_option maxHeartbeats 4000000 in
theorem has_any (m k:Nat) (hm:m=78∨m=62∨m=60∨m=386) (hk:k≤8) (w:World):Calls Tryz.prog 168 #[.int .i64 m,.int .i64 k] w fun x w'=>x = .returned (.bool (m.testBit k))∧w'=w:=by
 have hs:k=0∨k=1∨k=2∨k=3∨k=4∨k=5∨k=6∨k=7∨k=8:=by omega
 rcases hm with rfl | rfl | rfl | rfl <;> rcases hs with rfl | rfl | rfl | rfl | rfl | rfl | rfl | rfl | rfl <;> (go_enter Tryz.func168,Tryz.ntmps168;go_wp2;go_ret;exact ⟨by first | rfl | decide,rfl⟩)
theorem begun_le (n:Int):begun n≤8:=by
 unfold begun
 split
 · omega
 · split
   · omega
   · split
     · omega
     · split
       · omega
       · split
         · omega
         · split <;> omega
set_option maxHeartbeats 2000000 in
theorem begun_any (w:World) (R G:Nat) (ts:List Tok) (e:Int) (h:RdX w R G ts e):Calls Tryz.prog 167 #[.pointer (some ⟨R,0,none⟩)] w fun x w'=>x = .returned (.int .i64 (begun (nxt ts)))∧Below w.heap.size w w':=by
 have H:Hid (∀ w0,w0=w→Calls Tryz.prog 53 #[.pointer (some ⟨R,0,none⟩)] w0 fun x w'=>x = .returned (.int .i64 (nxt ts))∧Below w.heap.size w w'):=fun w0 e0=>by subst e0;exact next_any _ R G ts e h
 clear h
 generalize nxt ts=n at H ⊢
 by_cases h1:n=1
 · subst h1
   go_enter Tryz.func167,Tryz.ntmps167
   go_wp2_with (go_at_call 53;refine (H.out _ rfl).mono ?_;rintro x w1 ⟨rfl,hb1⟩)
   go_ret
   exact ⟨rfl,hb1⟩
 have d1:(n == 1)=false:=by simpa using h1
 by_cases h2:n=36
 · subst h2
   go_enter Tryz.func167,Tryz.ntmps167
   go_wp2_with (go_at_call 53;refine (H.out _ rfl).mono ?_;rintro x w1 ⟨rfl,hb1⟩)
   go_ret
   exact ⟨rfl,hb1⟩
 have d2:(n == 36)=false:=by simpa using h2
 by_cases h3:n=58
 · subst h3
   go_enter Tryz.func167,Tryz.ntmps167
   go_wp2_with (go_at_call 53;refine (H.out _ rfl).mono ?_;rintro x w1 ⟨rfl,hb1⟩)
   go_ret
   exact ⟨rfl,hb1⟩
 have d3:(n == 58)=false:=by simpa using h3
 by_cases h4:n=17
 · subst h4
   go_enter Tryz.func167,Tryz.ntmps167
   go_wp2_with (go_at_call 53;refine (H.out _ rfl).mono ?_;rintro x w1 ⟨rfl,hb1⟩)
   go_ret
   exact ⟨rfl,hb1⟩
 have d4:(n == 17)=false:=by simpa using h4
 by_cases h5:n=18
 · subst h5
   go_enter Tryz.func167,Tryz.ntmps167
   go_wp2_with (go_at_call 53;refine (H.out _ rfl).mono ?_;rintro x w1 ⟨rfl,hb1⟩)
   go_ret
   exact ⟨rfl,hb1⟩
 have d5:(n == 18)=false:=by simpa using h5
 by_cases h6:n=3
 · subst h6
   go_enter Tryz.func167,Tryz.ntmps167
   go_wp2_with (go_at_call 53;refine (H.out _ rfl).mono ?_;rintro x w1 ⟨rfl,hb1⟩)
   go_ret
   exact ⟨rfl,hb1⟩
 have d6:(n == 3)=false:=by simpa using h6
 have hb:begun n=0:=by simp [begun,h1,h2,h3,h4,h5,h6]
 rw [hb]
 go_enter Tryz.func167,Tryz.ntmps167
 go_wp2_with (go_at_call 53;refine (H.out _ rfl).mono ?_;rintro x w1 ⟨rfl,hb1⟩)
 go_ret
 exact ⟨rfl,hb1⟩
end Go.Proofs
