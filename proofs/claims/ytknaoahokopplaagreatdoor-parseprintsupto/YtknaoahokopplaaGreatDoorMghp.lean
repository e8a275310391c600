/-
  Several texts in one (Shelf5p Jap Jbp).
-/
import Derived.Shelf.LaysM
import Derived.Shelf.Strconv.Itoa4
import Derived.Test.YtknaoahokopplaaGreatDoorProg
import Derived.Test.YtknaoahokopplaaGreatDoorMgbp
import Derived.Shelf.Abstract
import Derived.WalkKit
import Derived.WalkSpells
import Derived.WalkLawsBesides
import Derived.Lib.OthersKept
import Derived.Maps.AppendAt
import Derived.Lib.SmallJoins
namespace Go.Proofs
open Go.Shelf
def Tryz.laysM171_ren:Go.Shelf.Ren:=⟨fun | 171=>150 | 243=>173 | 246=>139 | 283=>163 | 284=>164 | 285=>165 | 286=>166 | 129=>185 | 317=>184 | 318=>186 | 319=>187 | 320=>188 | 337=>202 | 338=>203 | n=>n,fun | 3=>3 | 9=>9 | 2=>2 | 4=>4 | 171=>162 | 0=>0 | 53=>163 | 37=>50 | 5=>5 | 173=>166 | 212=>177 | 51=>178 | 20=>20 | 213=>179 | 46=>180 | 232=>204 | 233=>205 | n=>n,fun | 17=>2 | 18=>7 | 19=>8 | n=>n⟩
theorem Tryz.laysM171:Go.Proofs.LaysM.n171 Tryz.prog Tryz.laysM171_ren := {
 mixed:=by kernel_rfl
 f129:=Tryz.func185.trans (congrArg some (by kernel_rfl))
 f171:=Tryz.func150.trans (congrArg some (by kernel_rfl))
 f243:=Tryz.func173.trans (congrArg some (by kernel_rfl))
 f246:=Tryz.func139.trans (congrArg some (by kernel_rfl))
 f283:=Tryz.func163.trans (congrArg some (by kernel_rfl))
 f284:=Tryz.func164.trans (congrArg some (by kernel_rfl))
 f285:=Tryz.func165.trans (congrArg some (by kernel_rfl))
 f286:=Tryz.func166.trans (congrArg some (by kernel_rfl))
 f317:=Tryz.func184.trans (congrArg some (by kernel_rfl))
 f318:=Tryz.func186.trans (congrArg some (by kernel_rfl))
 f319:=Tryz.func187.trans (congrArg some (by kernel_rfl))
 f320:=Tryz.func188.trans (congrArg some (by kernel_rfl))
 f337:=Tryz.func202.trans (congrArg some (by kernel_rfl))
 f338:=Tryz.func203.trans (congrArg some (by kernel_rfl))
 t0:=Tryz.underlying0
 a0:=Tryz.isAgg0
 z0:=Tryz.sizeOf0
 v0:=Tryz.zeroValue0
 t2:=Tryz.underlying2
 a2:=Tryz.isAgg2
 z2:=Tryz.sizeOf2
 v2:=Tryz.zeroValue2
 t3:=Tryz.underlying3
 a3:=Tryz.isAgg3
 z3:=Tryz.sizeOf3
 v3:=Tryz.zeroValue3
 t4:=Tryz.underlying4
 a4:=Tryz.isAgg4
 z4:=Tryz.sizeOf4
 v4:=Tryz.zeroValue4
 t5:=Tryz.underlying5
 a5:=Tryz.isAgg5
 z5:=Tryz.sizeOf5
 v5:=Tryz.zeroValue5
 t9:=Tryz.underlying9
 a9:=Tryz.isAgg9
 z9:=Tryz.sizeOf9
 v9:=Tryz.zeroValue9
 t20:=Tryz.underlying20
 a20:=Tryz.isAgg20
 z20:=Tryz.sizeOf20
 v20:=Tryz.zeroValue20
 t37:=Tryz.underlying50
 a37:=Tryz.isAgg50
 z37:=Tryz.sizeOf50
 v37:=Tryz.zeroValue50
 t46:=Tryz.underlying180
 a46:=Tryz.isAgg180
 z46:=Tryz.sizeOf180
 v46:=Tryz.zeroValue180
 t51:=Tryz.underlying178
 a51:=Tryz.isAgg178
 z51:=Tryz.sizeOf178
 v51:=Tryz.zeroValue178
 t53:=Tryz.underlying163
 a53:=Tryz.isAgg163
 z53:=Tryz.sizeOf163
 v53:=Tryz.zeroValue163
 t171:=Tryz.underlying162
 a171:=Tryz.isAgg162
 z171:=Tryz.sizeOf162
 v171:=Tryz.zeroValue162
 t173:=Tryz.underlying166
 a173:=Tryz.isAgg166
 z173:=Tryz.sizeOf166
 v173:=Tryz.zeroValue166
 t212:=Tryz.underlying177
 a212:=Tryz.isAgg177
 z212:=Tryz.sizeOf177
 v212:=Tryz.zeroValue177
 t213:=Tryz.underlying179
 a213:=Tryz.isAgg179
 z213:=Tryz.sizeOf179
 t232:=Tryz.underlying204
 a232:=Tryz.isAgg204
 z232:=Tryz.sizeOf204
 v232:=Tryz.zeroValue204
 t233:=Tryz.underlying205
 a233:=Tryz.isAgg205
 z233:=Tryz.sizeOf205
 v233:=Tryz.zeroValue205
 g17:=by kernel_rfl
 g18:=by kernel_rfl
 g19:=by kernel_rfl
 i0:=by kernel_rfl
 i2:=by kernel_rfl
 i3:=by kernel_rfl
 i4:=by kernel_rfl
 i5:=by kernel_rfl
 i9:=by kernel_rfl
 i20:=by kernel_rfl
 i37:=by kernel_rfl
 i46:=by kernel_rfl
 i51:=by kernel_rfl
 i53:=by kernel_rfl
 i171:=by kernel_rfl
 i173:=by kernel_rfl
 i212:=by kernel_rfl
 i232:=by kernel_rfl
 i233:=by kernel_rfl
 m17:=by kernel_rfl
 m18:=by kernel_rfl
 m19:=by kernel_rfl }
open Go.RowKit Go.Sort Go.Lib in
theorem Tryz.strconv_Itoa (n : Int) (h0 : -9223372036854775808 ≤ n) (h1 : n ≤ 9223372036854775807) (w : World) (htab : Lib.TabIs Tryz.prog w "internal/strconv.uint64pow10" .u64 Lib.pow10Tab) :
 Calls Tryz.prog 150 #[.int .i64 n] w fun e w'=>e = .returned (.string ⟨(Lib.itoa n).toArray⟩)∧∃ k os,w'=grow (w.drewN k) os:=Any.strconv_Itoa Tryz.laysM171 n h0 h1 w htab
end Go.Proofs
namespace Go.Proofs
open Go.RowKit Go.Shelf
inductive It where
 | mk (k u:Int) (t:ByteArray) (ps:List It) (lo hi:Int) (nt:Bool) (key:Int)
structure Ln where
 (k a:Int) (t:ByteArray) (bg en:Bool) (ante key post res:List It) (cur:Int)
inductive Res (α:Type) where
 | ok (x:α) (r:List Tok)
 | no (a c:Int)
def Res.bind {α β:Type} (x:Res α) (f:α→List Tok→Res β):Res β:=
 match x with
 | .ok y r=>f y r
 | .no a c => .no a c
def byteAt (t:ByteArray) (i:Nat):Int:=((t.data.getD i 0).toNat:Int)
def which (t:Tok):Int:=if t.k=2 then byteAt t.t 0 else t.k
def nxt:List Tok→Int
 | []=>0
 | t::_=>which t
def atOf (e:Int):List Tok→Int
 | []=>e
 | t::_=>t.a
def begun (n:Int):Nat:=if n=1 then 1 else if n=36 then 2 else if n=58 then 3 else if n=17 then 4 else if n=18 then 5 else if n=3 then 7 else 0
def bareN (t:Tok):ByteArray:=if which t=58 then t.t.extract 1 (t.t.size - 1) else t.t.extract 1 t.t.size
def passT (n:Int) (ts:List Tok):Bool × List Tok:=if nxt ts=n then (true,ts.tail) else (false,ts)
def wantT (e n:Int) (ts:List Tok):Res Unit:=if nxt ts=n then .ok () ts.tail else .no (atOf e ts) 50
def isRng (lo hi:Int):Bool:=decide (lo≤hi) && (decide (1114111<lo) == decide (1114111<hi))
def upToT (e:Int) (f:Tok):List Tok→Res It
 | [] => .no e 50
 | t::r=>if which t=1 then (if isRng f.u t.u then .ok (.mk 6 0 ⟨#[]⟩ [] f.u t.u false 0) r else .no f.a 51) else .no t.a 50
def rowT (e:Int) (may:Nat) (item:List Tok→Res It):Nat→List Tok→Res (List It)
 | 0,ts=>if may.testBit (begun (nxt ts)) then .no (atOf e ts) 52 else .ok [] ts
 | d+1,ts=>if may.testBit (begun (nxt ts)) then (item ts).bind fun x r=>(rowT e may item d r).bind fun xs r2 => .ok (x::xs) r2 else .ok [] ts
def restT (e:Int) (may:Nat) (sets:List Tok→Res (List It)) (pairs:List Tok→Res It) (t:Tok) (r:List Tok):Res It:=
 match begun (which t) with
 | 1=>if may.testBit 6 && (nxt r == 20) then upToT e t r.tail else .ok (.mk 1 t.u ⟨#[]⟩ [] 0 0 false 0) r
 | 2 => .ok (.mk 2 0 (bareN t) [] 0 0 false 0) r
 | 3 => .ok (.mk 3 0 (bareN t) [] 0 0 false 0) r
 | 4 => .ok (.mk 4 0 ⟨#[]⟩ [] 0 0 false 0) r
 | 5=>(sets (passT 15 r).2).bind fun ps r2=>(wantT e 19 r2).bind fun _ r3 => .ok (.mk 5 0 ⟨#[]⟩ ps 0 0 (passT 15 r).1 0) r3
 | _=>if nxt r=22 then (pairs r.tail).bind fun x r2 => .ok (.mk 8 0 ⟨#[]⟩ [x] 0 0 false t.n) r2 else .ok (.mk 7 0 ⟨#[]⟩ [] 0 0 false t.n) r
def itemT (e:Int) (may:Nat) (sets:List Tok→Res (List It)) (pairs:List Tok→Res It):List Tok→Res It
 | [] => .no e 50
 | t::r=>if may.testBit (begun (which t)) then restT e may sets pairs t r else .no t.a 50
def noRow:List Tok→Res (List It):=fun _ => .no 0 0
def noItem:List Tok→Res It:=fun _ => .no 0 0
def partT (e:Int):List Tok→Res It:=itemT e 78 noRow noItem
def partsT (e:Int):List Tok→Res (List It):=rowT e 78 (partT e) 512
def sideT (e:Int) (may:Nat):List Tok→Res It:=itemT e may (partsT e) noItem
def pieceT (e:Int):List Tok→Res It:=itemT e 386 noRow (sideT e 60)
def sidesT (e:Int):List Tok→Res (List It):=rowT e 62 (sideT e 62) 512
def resultT (e:Int) (d:Nat):List Tok→Res (List It):=rowT e 386 (pieceT e) d
def postT (e:Int) (ts:List Tok):Res (List It × Bool):=
 if nxt ts=13 then (sidesT e ts.tail).bind fun po r => .ok (po,(passT 16 r).1) (passT 16 r).2 else .ok ([],false) ts
def tailT (e:Int) (ts:List Tok):Res (List It × Int):=
 (resultT e 512 ts).bind fun x r=>if nxt r=14 then (resultT e (512 - x.length) r.tail).bind fun y r2 => .ok (x++y,(x.length:Int)) r2 else .ok (x,(x.length:Int)) r
def anteT (e:Int) (bg:Bool) (x:List It) (ts:List Tok):Res (List It × List It):=
 if bg || (nxt ts == 12) then (wantT e 12 ts).bind fun _ r=>(sidesT e r).bind fun y r2 => .ok (x,y) r2 else .ok ([],x) ts
def ruleT (e:Int) (ts:List Tok):Res Ln:=
 (sidesT e (passT 15 ts).2).bind fun x r1=>(anteT e (passT 15 ts).1 x r1).bind fun ak r2=>(postT e r2).bind fun pe r3=>(wantT e 10 r3).bind fun _ r4=>(tailT e r4).bind fun rc r5=>
  .ok ⟨2,0,⟨#[]⟩,(passT 15 ts).1,pe.2,ak.1,ak.2,pe.1,rc.1,rc.2⟩ r5
def defT (e:Int) (t:Tok) (ts:List Tok):Res Ln:=
 (wantT e 21 ts).bind fun _ r=>(sideT e 62 r).bind fun x r2 => .ok ⟨1,0,bareN t,false,false,[],[x],[],[],0⟩ r2
def someT (e:Int) (ts:List Tok):Res Ln:=
 match ts with
 | []=>ruleT e []
 | t::r=>if which t=116 then .ok ⟨3,0,⟨#[]⟩,false,false,[],[],[],[],0⟩ r else if which t=36∧nxt r=21 then defT e t r else ruleT e (t::r)
def lineT (e:Int) (ts:List Tok):Res Ln:=
 (someT e ts).bind fun l r=>(wantT e 11 r).bind fun _ r2 => .ok { l with a:=atOf e ts } r2
def linesT (e:Int):Nat→List Tok→Res (List Ln)
 | 0,ts => .ok [] ts
 | f+1,ts=>if nxt ts=0 then .ok [] ts else (lineT e ts).bind fun l r=>(linesT e f r).bind fun ls r2 => .ok (l::ls) r2
end Go.Proofs
namespace Go.Proofs
open Go.RowKit Go.Shelf
set_option maxRecDepth 100000
attribute [local go_sem] Oper.semAt_some
def All2 {α β:Type} (R:α→β→Prop):List α→List β→Prop
 | [],[]=>True
 | a::l,b::m=>R a b∧All2 R l m
 | _,_=>False
theorem All2.mono {α β:Type} {R S:α→β→Prop} (h:∀ a b,R a b→S a b):∀ {l:List α} {m:List β},All2 R l m→All2 S l m
 | [],[],_=>trivial
 | _::_,_::_,k=>⟨h _ _ k.1,All2.mono h k.2⟩
 | [],_::_,k=>k.elim
 | _::_,[],k=>k.elim
theorem All2.length {α β:Type} {R:α→β→Prop} : ∀ {l:List α} {m:List β},All2 R l m→l.length=m.length
 | [],[],_=>rfl
 | _::_,_::_,k=>by simp [All2.length k.2]
 | [],_::_,k=>k.elim
 | _::_,[],k=>k.elim
theorem All2.append {α β:Type} {R:α→β→Prop} : ∀ {l l2:List α} {m m2:List β},All2 R l m→All2 R l2 m2→All2 R (l++l2) (m++m2)
 | [],_,[],_,_,k=>k
 | _::_,_,_::_,_,h,k=>⟨h.1,All2.append h.2 k⟩
 | [],_,_::_,_,h,_=>h.elim
 | _::_,_,[],_,h,_=>h.elim
structure Mv (w w':World) (R:Nat) (y:Option Nat):Prop where
 os:w'.os=w.os
 tape:w'.tape=w.tape
 output:w'.output=w.output
 size:w.heap.size≤w'.heap.size
 block:∀ k,k<w.heap.size→k≠R→some k≠y→w'.heap[k]? = w.heap[k]?
theorem Mv.refl (w:World) (R:Nat) (y:Option Nat):Mv w w R y:=⟨rfl,rfl,rfl,Nat.le_refl _,fun _ _ _ _=>rfl⟩
theorem Mv.trans {a b c:World} {R:Nat} {y z:Option Nat} (h:Mv a b R y) (k:Mv b c R z) (hz:z=y∨∀ g,z=some g→a.heap.size≤g):Mv a c R y:=
 ⟨k.os.trans h.os,k.tape.trans h.tape,k.output.trans h.output,Nat.le_trans h.size k.size,fun i hi hR hy=>(k.block i (Nat.lt_of_lt_of_le hi h.size) hR (fun e=>by
  rcases hz with hz | hz
  · exact hy (by rw [←hz];exact e)
  · have:=hz i e.symm;omega)).trans (h.block i hi hR hy)⟩
theorem Mv.and {a b c:World} {R:Nat} {y:Option Nat} (h:Mv a b R y) (k:Mv b c R none):Mv a c R y:=h.trans k (.inr (fun g e=>by cases e))
theorem Mv.of_below {a b:World} {R:Nat} {y:Option Nat} (h:Below a.heap.size a b):Mv a b R y:=⟨h.os,h.tape,h.output,h.size,fun i hi _ _=>h.block i hi⟩
theorem Mv.of_grown {a b:World} {R:Nat} {y:Option Nat} (h:a.grownBy b y):Mv a b R y:=⟨h.os,h.tape,h.output,h.size,fun i hi _ hy=>h.block i hi hy⟩
theorem Mv.alloc {a b:World} {R:Nat} {y:Option Nat} (h:Mv a b R y) (o:Obj):Mv a (b.alloc o) R y:=h.trans (z:=none) (.of_below ((Below.refl _ _).alloc (Nat.le_refl _) _)) (.inr (fun g e=>by cases e))
theorem Mv.set {a b:World} {R:Nat} {y:Option Nat} (h:Mv a b R y) {B:Nat} (hB:a.heap.size≤B∨B=R) (j:Nat) (v:Value):Mv a (b.setCell ⟨B,j,none⟩ v) R y:=
 ⟨h.os,h.tape,h.output,by simpa using h.size,fun i hi hR hy=>by
  refine Eq.trans ?_ (h.block i hi hR hy)
  show (b.heap.modify B _)[i]? = _
  rw [Array.getElem?_modify,if_neg (fun e=>by rcases hB with hB | hB <;> omega)]⟩
theorem Mv.below {a b:World} {R n:Nat} {y:Option Nat} (h:Mv a b R y) (hn:n≤a.heap.size) (hR:n≤R) (hy:∀ g,y=some g→n≤g):Below n a b:=
 ⟨h.os,h.tape,h.output,h.size,fun i hi=>h.block i (by omega) (by omega) (fun e=>by have:=hy i e.symm;omega)⟩
structure MI where
 (k u:Int) (t:ByteArray) (A:Option Addr) (n c:Nat) (lo hi:Int) (nt:Bool) (key:Int)
def mi1 (x:MI):List Value:=[.int .i64 x.k,.int .i64 x.u,.string x.t,.slice x.A x.n x.c,.int .i64 x.lo,.int .i64 x.hi,.bool x.nt,.int .i64 x.key]
abbrev mia (x:MI):Value := .agg #[.int .i64 x.k,.int .i64 x.u,.string x.t,.slice x.A x.n x.c,.int .i64 x.lo,.int .i64 x.hi,.bool x.nt,.int .i64 x.key]
def fi (l:List MI):List Value:=l.flatMap mi1
theorem fi_append (l m:List MI):fi (l++m)=fi l++fi m:=by simp [fi]
theorem fi_one (l:List MI):∀ u∈fi l,u.oneCell'=true:=by
 intro u hu
 simp only [fi,List.mem_flatMap] at hu
 obtain ⟨x,_,hx⟩:=hu
 simp only [mi1,List.mem_cons,List.not_mem_nil,or_false] at hx
 rcases hx with rfl | rfl | rfl | rfl | rfl | rfl | rfl | rfl <;> rfl
def RowI (w:World) (b:Nat) (x:Option Nat) (A:Option Addr) (n c:Nat) (ms:List MI):Prop:=
 n=ms.length∧((A=none∧n=0∧c=0)∨∃ g cur,A=some ⟨g,0,none⟩∧b≤g∧some g≠x∧w.heap[g]? = some (.cells cur 58 (0,0))∧n≤c∧c≤maxLen∧cur.size=c*8∧cur.toList.take (n*8)=fi ms)
def Plain (m:MI):It→Prop
 | .mk k u t _ lo hi nt key=>m.k=k∧m.u=u∧m.t=t∧m.lo=lo∧m.hi=hi∧m.nt=nt∧m.key=key
def It.ps:It→List It
 | .mk _ _ _ ps _ _ _ _=>ps
def DR:Nat→World→Nat→Option Nat→MI→It→Prop
 | 0,_,_,_,m,i=>Plain m i∧i.ps=[]∧m.A=none∧m.n=0∧m.c=0
 | d+1,w,b,x,m,i=>Plain m i∧∃ ms,RowI w b x m.A m.n m.c ms∧All2 (DR d w b x) ms i.ps
def Rows (d:Nat) (w:World) (b:Nat) (x:Option Nat) (A:Option Addr) (n c:Nat) (l:List It):Prop:=∃ ms,RowI w b x A n c ms∧All2 (DR d w b x) ms l
theorem RowI.step {w w':World} {b b':Nat} {x x':Option Nat} {A:Option Addr} {n c:Nat} {ms:List MI} (h:RowI w b x A n c ms) (hb:b'≤b) (hx:x'=x∨x'=none∨∀ g,x'=some g→w.heap.size≤g∨g<b)
 (hw:∀ k,k<w.heap.size→b≤k→some k≠x→w'.heap[k]? = w.heap[k]?):RowI w' b' x' A n c ms:=by
 refine ⟨h.1,h.2.imp id ?_⟩
 rintro ⟨g,cur,rfl,h1,h2,h3,h4⟩
 have hlt:=(Array.getElem?_eq_some_iff.1 h3).1
 refine ⟨g,cur,rfl,by omega,?_,(hw g hlt h1 h2).trans h3,h4⟩
 rcases hx with rfl | rfl | hx
 · exact h2
 · intro e;cases e
 · intro e
   have:=hx g e.symm
   omega
theorem DR.step {w w':World} {b b':Nat} {x x':Option Nat} (hb:b'≤b) (hx:x'=x∨x'=none∨∀ g,x'=some g→w.heap.size≤g∨g<b)
 (hw:∀ k,k<w.heap.size→b≤k→some k≠x→w'.heap[k]? = w.heap[k]?):∀ {d:Nat} {m:MI} {i:It},DR d w b x m i→DR d w' b' x' m i
 | 0,_,_,h=>h
 | _+1,_,_,h=>⟨h.1,h.2.imp fun _ k=>⟨k.1.step hb hx hw,k.2.mono fun _ _ r=>DR.step hb hx hw r⟩⟩
theorem Rows.step {w w':World} {b b':Nat} {x x':Option Nat} (hb:b'≤b) (hx:x'=x∨x'=none∨∀ g,x'=some g→w.heap.size≤g∨g<b)
 (hw:∀ k,k<w.heap.size→b≤k→some k≠x→w'.heap[k]? = w.heap[k]?) {d:Nat} {A:Option Addr} {n c:Nat} {l:List It} (h:Rows d w b x A n c l):Rows d w' b' x' A n c l:=
 h.imp fun _ k=>⟨k.1.step hb hx hw,k.2.mono fun _ _ r=>DR.step hb hx hw r⟩
theorem DR.up {w:World} {b:Nat} {x:Option Nat} : ∀ {d:Nat} {m:MI} {i:It},DR d w b x m i→DR (d+1) w b x m i
 | 0,_,_,h=>⟨h.1,[],⟨by rw [h.2.2.2.1];rfl,.inl ⟨h.2.2.1,h.2.2.2.1,h.2.2.2.2⟩⟩,by rw [h.2.1];trivial⟩
 | _+1,_,_,h=>⟨h.1,h.2.imp fun _ k=>⟨k.1,k.2.mono fun _ _ r=>DR.up r⟩⟩
theorem Rows.up {d:Nat} {w:World} {b:Nat} {x:Option Nat} {A:Option Addr} {n c:Nat} {l:List It} (h:Rows d w b x A n c l):Rows (d+1) w b x A n c l:=h.imp fun _ k=>⟨k.1,k.2.mono fun _ _ r=>r.up⟩
theorem Rows.nil (d:Nat) (w:World) (b:Nat) (x:Option Nat):Rows d w b x none 0 0 []:=⟨[],⟨rfl,.inl ⟨rfl,rfl,rfl⟩⟩,trivial⟩
theorem Mv.keeps {w w':World} {R b:Nat} {x y:Option Nat} (h:Mv w w' R y) (hR:R<b) (hy:y=none∨y=x∨∀ g,y=some g→g<b):∀ k,k<w.heap.size→b≤k→some k≠x→w'.heap[k]? = w.heap[k]? :=
 fun k h1 h2 h3=>h.block k h1 (by omega) (fun e=>by
  rcases hy with hy | hy | hy
  · rw [hy] at e;cases e
  · exact h3 (by rw [←hy];exact e)
  · have:=hy k e.symm;omega)
def OwnI (d:Nat) (w:World) (b:Nat) (v:Value) (l:List It):Prop:=∃ ms,w.ownsRow b 58 8 v ms.length (fi ms)∧All2 (DR d w b v.ownBlock) ms l
theorem OwnI.nil (d:Nat) (w:World) (b:Nat):OwnI d w b (.slice none 0 0) []:=⟨[],World.ownsRow_nil _ _ _ _,trivial⟩
theorem OwnI.form {d:Nat} {w:World} {b:Nat} {v:Value} {l:List It} (h:OwnI d w b v l):∃ A c,v = .slice A l.length c:=by
 obtain ⟨ms,h1,h2⟩:=h
 rcases h1.2 with ⟨e,h0⟩ | ⟨g,cap,cur,e,_⟩
 · subst e;exact ⟨none,0,by rw [←h2.length,h0]⟩
 · exact ⟨_,_,by rw [←h2.length];exact e⟩
theorem OwnI.lt {d:Nat} {w:World} {b:Nat} {v:Value} {l:List It} (h:OwnI d w b v l):∀ g,v.ownBlock=some g→b≤g∧g<w.heap.size:=by
 obtain ⟨ms,h1,h2⟩:=h
 exact fun g e=>World.ownsRow.lt h1 g e
theorem OwnI.step {w w':World} {b:Nat} {v:Value} {d:Nat} {l:List It} (h:OwnI d w b v l) (hw:∀ k,k<w.heap.size→b≤k→w'.heap[k]? = w.heap[k]?):OwnI d w' b v l:=by
 obtain ⟨ms,h1,h2⟩:=h
 refine ⟨ms,⟨h1.1,h1.2.imp id ?_⟩,h2.mono fun _ _ r=>r.step (Nat.le_refl _) (.inl rfl) (fun k k1 k2 _=>hw k k1 k2)⟩
 rintro ⟨g,cap,cur,rfl,k1,k2,k3⟩
 exact ⟨g,cap,cur,rfl,k1,(hw g (Array.getElem?_eq_some_iff.1 k2).1 k1).trans k2,k3⟩
theorem OwnI.rows {d:Nat} {w:World} {b:Nat} {A:Option Addr} {n c:Nat} {l:List It} (h:OwnI d w b (.slice A n c) l):Rows d w b none A n c l:=by
 obtain ⟨ms,h1,h2⟩:=h
 refine ⟨ms,?_,h2.mono fun _ _ r=>r.step (Nat.le_refl _) (.inr (.inl rfl)) (fun k _ _ _=>rfl)⟩
 rcases h1.2 with ⟨e,h0⟩ | ⟨g,cap,cur,e,k1,k2,k3,k4,k5,k6⟩
 · cases e
   exact ⟨h0.symm,.inl ⟨rfl,rfl,rfl⟩⟩
 · cases e
   exact ⟨rfl,.inr ⟨g,cur,rfl,k1,(fun e=>by cases e),k2,k3,k4,k5,k6⟩⟩
theorem info50:(Tryz.prog.info? 58).map (fun i=>(i.zero,i.size,i.bytes))=some (some (.agg #[.int .i64 0,.int .i64 0,.string ⟨#[]⟩,.slice none 0 0,.int .i64 0,.int .i64 0,.bool false,.int .i64 0]),8,88):=by kernel_rfl
theorem add_zero_at' (g j:Nat):(⟨g,0,none⟩:Addr).add j=⟨g,j,none⟩:=by
 unfold Addr.add
 by_cases h:j=0
 · subst h;rfl
 · simp [h]
theorem push_I {ops:Array Oper} {rest:List Oper} {o:Oper} {a:Act} {Q:Exit→Act→World→Prop} {w:World} (hgd:o.guard=none) (s x:Operand) (t:TypeId)
 (ho:o.op = .call { callee := .builtin .append,args:=#[s,x],argTypes:=#[t,t] }) (ht:Tryz.prog.underlying t=some (.slice 58))
 (d b:Nat) (v:Value) (l:List It) (hs:a.eval s=v) (hown:OwnI d w b v l) (g c:Nat) (m:MI) (i:It) (hx:a.eval x = .slice (some ⟨g,0,none⟩) 1 c)
 (hy:w.heap[g]? = some (.cells (mi1 m).toArray 58 (0,0))) (hm:DR d w b v.ownBlock m i) (hl:l.length+1≤1099511627776) (hbase:b≤w.heap.size)
 (h:∀ A c' w',OwnI d w' b (.slice A (l.length+1) c') (l++[i])→w.grownBy w' v.ownBlock→((Value.slice A (l.length+1) c').ownBlock=v.ownBlock∨(Value.slice A (l.length+1) c').ownBlock=some w.heap.size)→wpList Tryz.prog ops Q rest (a.put o.dst (.slice A (l.length+1) c')) w'):wpList Tryz.prog ops Q (o::rest) a w:=by
 obtain ⟨i0,hi,hz0,hz1,hz2⟩:=info_parts info50
 obtain ⟨ms,h1,h2⟩:=hown
 have hlen:=h2.length
 refine wpList_append_own_at w hgd s x t ho b 58 i0 _ 8 88 ht hi hz0 hz1 hz2 rfl (by decide) v ms.length (fi ms) hs h1 ⟨g,0,none⟩ 1 c (fi [m]) hx rfl ?_ (fi_one _) (by unfold maxLen;omega) (by omega) hbase (fun v' w' k2 k3 _ k5 => ?_)
 · intro j u hj
   have e:(fi [m])=mi1 m:=by simp [fi]
   rw [e] at hj
   rw [add_zero_at']
   simp only [World.cell?,hy]
   simpa using hj
 · have hf:∃ A c',v' = .slice A (l.length+1) c':=by
    rcases k2.2 with ⟨e,h0⟩ | ⟨g,cap,cur,e,_⟩
    · omega
    · exact ⟨_,_,by rw [←hlen];exact e⟩
   obtain ⟨A,c',rfl⟩:=hf
   refine h A c' w' ⟨ms++[m],?_,?_⟩ k3 k5
   · rw [fi_append,List.length_append]
     exact k2
   · have hst:∀ k,k<w.heap.size→b≤k→some k≠v.ownBlock→w'.heap[k]? = w.heap[k]? := fun k q1 _ q3=>k3.block k q1 q3
     have hx':(Value.slice A (l.length+1) c').ownBlock=v.ownBlock∨(Value.slice A (l.length+1) c').ownBlock=none∨∀ g,(Value.slice A (l.length+1) c').ownBlock=some g→w.heap.size≤g∨g<b:=by
      rcases k5 with e | e
      · exact .inl e
      · exact .inr (.inr fun g e2 => .inl (by rw [e] at e2;have:=Option.some.inj e2;omega))
     exact (h2.mono fun _ _ r=>r.step (Nat.le_refl _) hx' hst).append ⟨hm.step (Nat.le_refl _) hx' hst,trivial⟩
end Go.Proofs
