/-
  The parser's reader: tokens that are left; its small functions.
-/
import Derived.Shelf.Abstract
import Derived.WalkKit
import Derived.WalkSpells
import Derived.WalkLawsBesides
import Derived.BigQuiet
import Derived.Deep.QuietTactic
import Derived.Deep.LoopGhost
import Derived.WalkMore
import Derived.Test.YtknaoahokopplaaGreatDoorMghp
namespace Go.Proofs
open Go.RowKit Go.Shelf
set_option maxRecDepth 100000
attribute [local go_sem] Oper.semAt_some
def TokAt (w:World) (G o:Nat) (x:Tok):Prop:=
 w.cell? ⟨G,o,none⟩=some (.int .i64 x.k)∧w.cell? ⟨G,o+1,none⟩=some (.int .i64 x.a)∧w.cell? ⟨G,o+2,none⟩=some (.int .i64 x.l)∧w.cell? ⟨G,o+3,none⟩=some (.int .i64 x.u)∧w.cell? ⟨G,o+4,none⟩=some (.string x.t)∧w.cell? ⟨G,o+5,none⟩=some (.int .i64 x.n)
def GoodT (t:Tok):Prop:=(t.k=2→1≤t.t.size∧t.t.size≤maxLen∧(byteAt t.t 0=58→2≤t.t.size))∧t.k≤22
def sen (e:Int):Tok:=⟨0,e,0,0,⟨#[]⟩,0⟩
abbrev tkv (t:Tok):Value := .agg #[.int .i64 t.k,.int .i64 t.a,.int .i64 t.l,.int .i64 t.u,.string t.t,.int .i64 t.n]
structure Rd (w:World) (R G o c:Nat) (ts:List Tok) (e:Int):Prop where
 rd:w.heap[R]? = some (.cells #[.slice (some ⟨G,o,none⟩) (ts.length+1) c] 95 (0,0))
 ne:G≠R
 cap:ts.length+1≤c∧c≤maxLen
 tk:∀ j x,(ts++[sen e])[j]? = some x→TokAt w G (o+j*6) x
 good:∀ t,t∈ts→GoodT t
def RdX (w:World) (R G:Nat) (ts:List Tok) (e:Int):Prop:=∃ o c,Rd w R G o c ts e
theorem TokAt.of_block {w w':World} {G o:Nat} {x:Tok} (h:TokAt w G o x) (hb:w'.heap[G]? = w.heap[G]?):TokAt w' G o x:=by
 obtain ⟨a0,a1,a2,a3,a4,a5⟩:=h
 have hc:∀ j,w'.cell? ⟨G,j,none⟩=w.cell? ⟨G,j,none⟩:=fun j=>World.cell?_of_block hb
 exact ⟨(hc _).trans a0,(hc _).trans a1,(hc _).trans a2,(hc _).trans a3,(hc _).trans a4,(hc _).trans a5⟩
theorem Rd.lt {w:World} {R G o c:Nat} {ts:List Tok} {e:Int} (h:Rd w R G o c ts e):R<w.heap.size:=(Array.getElem?_eq_some_iff.1 h.rd).1
theorem Rd.ltG {w:World} {R G o c:Nat} {ts:List Tok} {e:Int} (h:Rd w R G o c ts e):G<w.heap.size:=by
 obtain ⟨x,hx⟩:∃ x,(ts++[sen e])[0]? = some x:=⟨(ts++[sen e])[0]'(by simp),List.getElem?_eq_getElem _⟩
 obtain ⟨ob,ho,_⟩:=cells_of_cell (h.tk 0 x hx).1
 exact (Array.getElem?_eq_some_iff.1 ho).1
theorem Rd.step {w w':World} {R G o c:Nat} {ts:List Tok} {e:Int} (h:Rd w R G o c ts e) (hR:w'.heap[R]? = w.heap[R]?) (hG:w'.heap[G]? = w.heap[G]?):Rd w' R G o c ts e:=
 ⟨hR.trans h.rd,h.ne,h.cap,fun j x hj=>(h.tk j x hj).of_block hG,h.good⟩
theorem RdX.lt {w:World} {R G:Nat} {ts:List Tok} {e:Int} (h:RdX w R G ts e):R<w.heap.size∧G<w.heap.size:=by
 obtain ⟨o,c,h⟩:=h
 exact ⟨h.lt,h.ltG⟩
theorem RdX.below {w w':World} {R G n:Nat} {ts:List Tok} {e:Int} (h:RdX w R G ts e) (hb:Below n w w') (hn:w.heap.size≤n):RdX w' R G ts e:=by
 have hl:=h.lt
 obtain ⟨o,c,h⟩:=h
 exact ⟨o,c,h.step (hb.block R (by omega)) (hb.block G (by omega))⟩
theorem RdX.grown {w w':World} {R G:Nat} {y:Option Nat} {ts:List Tok} {e:Int} (h:RdX w R G ts e) (hb:w.grownBy w' y) (h1:some R≠y) (h2:some G≠y):RdX w' R G ts e:=by
 have hl:=h.lt
 obtain ⟨o,c,h⟩:=h
 exact ⟨o,c,h.step (hb.block R (by omega) h1) (hb.block G (by omega) h2)⟩
theorem RdX.alloc {w:World} {R G:Nat} {ts:List Tok} {e:Int} (h:RdX w R G ts e) (ob:Obj):RdX (w.alloc ob) R G ts e:=h.below ((Below.refl _ _).alloc (Nat.le_refl _) _) (Nat.le_refl _)
theorem RdX.set {w:World} {R G:Nat} {ts:List Tok} {e:Int} (h:RdX w R G ts e) {B:Nat} (h1:B≠R) (h2:B≠G) (j:Nat) (v:Value):RdX (w.setCell ⟨B,j,none⟩ v) R G ts e:=
 h.grown (y:=some B) (grown_setB w B j v) (fun e=>h1 (Option.some.inj e).symm) (fun e=>h2 (Option.some.inj e).symm)
theorem Rd.cellR {w:World} {R G o c:Nat} {ts:List Tok} {e:Int} (h:Rd w R G o c ts e):w.cell? ⟨R,0,none⟩=some (.slice (some ⟨G,o,none⟩) (ts.length+1) c)∧w.frozen? ⟨R,0,none⟩=false:=by
 simp [World.cell?,World.frozen?,h.rd]
theorem Rd.taken {w:World} {R G o c:Nat} {t:Tok} {ts:List Tok} {e:Int} (h:Rd w R G o c (t::ts) e):Rd (w.setCell ⟨R,0,none⟩ (.slice (some ⟨G,o+6,none⟩) (ts.length+1) (c - 1))) R G (o+6) (c - 1) ts e:=by
 refine ⟨?_,h.ne,?_,?_,fun x hx=>h.good x (List.mem_cons_of_mem _ hx)⟩
 · have:=cells_setS (j:=0) (u := .slice (some ⟨G,o+6,none⟩) (ts.length+1) (c - 1)) h.rd
   simpa using this
 · have:=h.cap
   simp at this
   omega
 · intro j x hj
   have h1:=h.tk (j+1) x (by simpa using hj)
   rw [show o+(j+1)*6=o+6+j*6 by omega] at h1
   refine h1.of_block ?_
   show (w.heap.modify R _)[G]? = _
   rw [Array.getElem?_modify,if_neg (fun e=>h.ne e.symm)]
abbrev thrown (a c:Int):Ending := .panicked [{ v := .iface 32 (.agg #[.int .i64 a,.int .i64 c]),recovered:=false }]
def Out {α:Type} (R G:Nat) (e:Int) (w:World) (y:Option Nat) (V:World→Value→α→Prop) (s:Res α) (x:Ending) (w':World):Prop:=
 Mv w w' R y∧match s with
 | .ok a r=>∃ v,x = .returned v∧RdX w' R G r e∧V w' v a
 | .no a c=>x=thrown a c
set_option maxHeartbeats 1000000 in
theorem whichOf_any (t:Tok) (w:World) (hg:GoodT t):Calls Tryz.prog 99 #[tkv t] w fun x w'=>x = .returned (.int .i64 (which t))∧Below w.heap.size w w':=by
 obtain ⟨k,a,l,u,s,n⟩:=t
 by_cases hk:k=2
 · subst hk
   obtain ⟨h1,h2,h3⟩:=hg.1 rfl
   simp only at h1 h2 h3
   have h0:0<s.size:=h1
   have h0':0<s.data.size:=h1
   have hw:which ⟨2,a,l,u,s,n⟩=(s[0].toNat:Int):=by
    have e:s.data.getD 0 0=s[0]:=by rw [Array.getD_eq_getD_getElem?,Array.getElem?_eq_getElem h0'];rfl
    simp [which,byteAt,e]
   have hwr:wrap64 (s[0].toNat:Int)=(s[0].toNat:Int):=IntWalk.wrap64_in _ (by have:=s[0].toNat_lt;omega)
   rw [hw]
   go_enter Tryz.func99,Tryz.ntmps99
   go_wp2
   go_ret
   exact ⟨congrArg (fun z=>Ending.returned (.int .i64 z)) hwr,(Below.refl _ _).alloc (Nat.le_refl _) _⟩
 · have hd:(k == 2)=false:=by simpa using hk
   have hw:which ⟨k,a,l,u,s,n⟩=k:=by simp [which,hk]
   rw [hw]
   go_enter Tryz.func99,Tryz.ntmps99
   go_wp2
   go_ret
   exact ⟨rfl,(Below.refl _ _).alloc (Nat.le_refl _) _⟩
theorem Rd.head {w:World} {R G o c:Nat} {ts:List Tok} {e:Int} (h:Rd w R G o c ts e):∃ t,TokAt w G o t∧GoodT t∧which t=nxt ts∧t.a=atOf e ts∧(∀ x r,ts=x::r→t=x):=by
 cases ts with
 | nil=>exact ⟨sen e,by simpa using h.tk 0 (sen e) rfl,⟨(fun e=>by cases e),(by simp [sen])⟩,rfl,rfl,fun _ _ e=>by cases e⟩
 | cons x r=>exact ⟨x,by simpa using h.tk 0 x rfl,h.good x (List.mem_cons_self ..),rfl,rfl,fun _ _ e=>by cases e;rfl⟩
set_option maxHeartbeats 1000000 in
theorem next_any (w:World) (R G:Nat) (ts:List Tok) (e:Int) (h:RdX w R G ts e):Calls Tryz.prog 53 #[.pointer (some ⟨R,0,none⟩)] w fun x w'=>x = .returned (.int .i64 (nxt ts))∧Below w.heap.size w w':=by
 obtain ⟨o,c,h⟩:=h
 obtain ⟨t,ht,hg,hw,-⟩:=h.head
 obtain ⟨a0,a1,a2,a3,a4,a5⟩:=ht
 obtain ⟨r0,r1⟩:=h.cellR
 have HG:Hid (GoodT t):=hg
 rw [←hw]
 clear hw hg h
 go_enter Tryz.func53,Tryz.ntmps53
 go_wp2_with (go_at_call 99;refine (whichOf_any t _ HG.out).mono ?_;rintro x w1 ⟨rfl,hb⟩)
 go_ret
 exact ⟨rfl,hb⟩
set_option maxHeartbeats 1000000 in
theorem take_any (w:World) (R G:Nat) (t:Tok) (ts:List Tok) (e:Int) (h:RdX w R G (t::ts) e):Calls Tryz.prog 140 #[.pointer (some ⟨R,0,none⟩)] w fun x w'=>x = .returned (tkv t)∧RdX w' R G ts e∧Mv w w' R none:=by
 obtain ⟨o,c,h⟩:=h
 have HR:Hid (Rd w R G o c (t::ts) e):=h
 have ht:TokAt w G o t:=by simpa using h.tk 0 t rfl
 obtain ⟨a0,a1,a2,a3,a4,a5⟩:=ht
 obtain ⟨r0,r1⟩:=h.cellR
 have hc:=h.cap
 simp only [List.length_cons] at r0 hc
 have hc0:ts.length+1≤c:=by omega
 have hc1:c≤maxLen:=hc.2
 have hRl:R<w.heap.size:=h.lt
 have hGl:G<w.heap.size:=h.ltG
 have hc2:¬ c=1:=by omega
 have hb:=h.taken
 have HB:Hid (Rd (w.setCell ⟨R,0,none⟩ (.slice (some ⟨G,o+6,none⟩) (ts.length+1) (c - 1))) R G (o+6) (c - 1) ts e):=hb
 clear h hc hb
 go_enter Tryz.func140,Tryz.ntmps140
 go_wp2
 refine bodyPost_ret (v:=tkv t) (by simp [results,Tryz.f140,go_sem]) rfl ⟨rfl,?_,?_⟩
 · exact (RdX.alloc (RdX.alloc ⟨_,_,HB.out⟩ _) _)
 · exact (((Mv.refl w R none).set (.inr rfl) _ _).alloc _).alloc _
set_option maxHeartbeats 1000000 in
theorem pass_any (w:World) (R G:Nat) (n:Int) (hn:n≠0) (ts:List Tok) (e:Int) (h:RdX w R G ts e):Calls Tryz.prog 100 #[.pointer (some ⟨R,0,none⟩),.int .i64 n] w fun x w'=>x = .returned (.bool (passT n ts).1)∧RdX w' R G (passT n ts).2 e∧Mv w w' R none:=by
 have H:Hid (RdX w R G ts e):=h
 clear h
 by_cases hk:nxt ts=n
 · have hd:(nxt ts == n)=true:=by simpa using hk
   have hp:passT n ts=(true,ts.tail):=by simp [passT,hk]
   rw [hp]
   cases ts with
   | nil=>exact absurd hk.symm hn
   | cons t r=>
    go_enter Tryz.func100,Tryz.ntmps100
    go_wp2_with (first | (go_at_call 53;refine (next_any _ R G _ e H.out).mono ?_;rintro x w1 ⟨rfl,hb1⟩;have H1:Hid (RdX w1 R G (t::r) e):=H.out.below hb1 (Nat.le_refl _);have HB1:Hid (Below w.heap.size w w1):=hb1;clear hb1) | (go_at_call 140;refine (take_any _ R G t r e H1.out).mono ?_;rintro x w2 ⟨rfl,h2,hm2⟩))
    go_ret
    exact ⟨rfl,h2,(Mv.of_below HB1.out).and hm2⟩
 · have hd:(nxt ts == n)=false:=by simpa using hk
   have hp:passT n ts=(false,ts):=by simp [passT,hk]
   rw [hp]
   go_enter Tryz.func100,Tryz.ntmps100
   go_wp2_with (go_at_call 53;refine (next_any _ R G _ e H.out).mono ?_;rintro x w1 ⟨rfl,hb1⟩)
   go_ret
   exact ⟨rfl,H.out.below hb1 (Nat.le_refl _),Mv.of_below hb1⟩
set_option maxHeartbeats 1000000 in
theorem refuse_any (w:World) (R G:Nat) (n:Int) (ts:List Tok) (e:Int) (h:RdX w R G ts e):Calls Tryz.prog 144 #[.pointer (some ⟨R,0,none⟩),.int .i64 n] w fun x w'=>x=thrown (atOf e ts) n∧Below w.heap.size w w':=by
 obtain ⟨o,c,h⟩:=h
 obtain ⟨t,ht,-,-,hw,-⟩:=h.head
 obtain ⟨a0,a1,a2,a3,a4,a5⟩:=ht
 obtain ⟨r0,r1⟩:=h.cellR
 rw [←hw]
 clear hw h
 go_enter Tryz.func144,Tryz.ntmps144
 go_wp2
 exact ⟨rfl,rfl,Below.refl _ _⟩
set_option maxHeartbeats 1000000 in
theorem want_any (w:World) (R G:Nat) (n:Int) (hn:n≠0) (ts:List Tok) (e:Int) (h:RdX w R G ts e):Calls Tryz.prog 103 #[.pointer (some ⟨R,0,none⟩),.int .i64 n] w (Out R G e w none (fun _ v _=>v = .tuple #[]) (wantT e n ts)):=by
 have H:Hid (RdX w R G ts e):=h
 clear h
 by_cases hk:nxt ts=n
 · have hp:passT n ts=(true,ts.tail):=by simp [passT,hk]
   have hq:wantT e n ts = .ok () ts.tail:=by simp [wantT,hk]
   rw [hq]
   go_enter Tryz.func103,Tryz.ntmps103
   go_wp2_with (go_at_call 100;refine (pass_any _ R G n hn _ e H.out).mono ?_;rintro x w1 ⟨rfl,h1,hm1⟩;rw [hp] at h1 ⊢)
   refine bodyPost_end (v := .tuple #[]) (by simp [results,Tryz.f103]) rfl ?_
   exact ⟨hm1,_,rfl,h1,rfl⟩
 · have hp:passT n ts=(false,ts):=by simp [passT,hk]
   have hq:wantT e n ts = .no (atOf e ts) 50:=by simp [wantT,hk]
   rw [hq]
   go_enter Tryz.func103,Tryz.ntmps103
   go_wp2_with (first | (go_at_call 100;refine (pass_any _ R G n hn _ e H.out).mono ?_;rintro x w1 ⟨rfl,h1,hm1⟩;rw [hp] at h1 ⊢;have H1:Hid (RdX w1 R G ts e):=h1;have HM1:Hid (Mv w w1 R none):=hm1;clear h1 hm1) | (go_at_call 144;refine (refuse_any _ R G 50 ts e H1.out).mono ?_;rintro x w2 ⟨rfl,hb2⟩))
   exact ⟨rfl,HM1.out.and (Mv.of_below hb2),rfl⟩
set_option maxHeartbeats 4000000 in
theorem has_any (m k:Nat) (hm:m=78∨m=62∨m=60∨m=386) (hk:k≤8) (w:World):Calls Tryz.prog 168 #[.int .i64 m,.int .i64 k] w fun x w'=>x = .returned (.bool (m.testBit k))∧w'=w:=by
 have hs:k=0∨k=1∨k=2∨k=3∨k=4∨k=5∨k=6∨k=7∨k=8:=by omega
 rcases hm with rfl | rfl | rfl | rfl <;> rcases hs with rfl | rfl | rfl | rfl | rfl | rfl | rfl | rfl | rfl <;> (go_enter Tryz.func168,Tryz.ntmps168;go_wp2;go_ret;exact ⟨by first | rfl | decide,rfl⟩)
theorem begun_le (n:Int):begun n≤8:=by
 unfold begun
 split
 · omega
 · split
   · omega
   · split
     · omega
     · split
       · omega
       · split
         · omega
         · split <;> omega
set_option maxHeartbeats 2000000 in
theorem begun_any (w:World) (R G:Nat) (ts:List Tok) (e:Int) (h:RdX w R G ts e):Calls Tryz.prog 167 #[.pointer (some ⟨R,0,none⟩)] w fun x w'=>x = .returned (.int .i64 (begun (nxt ts)))∧Below w.heap.size w w':=by
 have H:Hid (∀ w0,w0=w→Calls Tryz.prog 53 #[.pointer (some ⟨R,0,none⟩)] w0 fun x w'=>x = .returned (.int .i64 (nxt ts))∧Below w.heap.size w w'):=fun w0 e0=>by subst e0;exact next_any _ R G ts e h
 clear h
 generalize nxt ts=n at H ⊢
 by_cases h1:n=1
 · subst h1
   go_enter Tryz.func167,Tryz.ntmps167
   go_wp2_with (go_at_call 53;refine (H.out _ rfl).mono ?_;rintro x w1 ⟨rfl,hb1⟩)
   go_ret
   exact ⟨rfl,hb1⟩
 have d1:(n == 1)=false:=by simpa using h1
 by_cases h2:n=36
 · subst h2
   go_enter Tryz.func167,Tryz.ntmps167
   go_wp2_with (go_at_call 53;refine (H.out _ rfl).mono ?_;rintro x w1 ⟨rfl,hb1⟩)
   go_ret
   exact ⟨rfl,hb1⟩
 have d2:(n == 36)=false:=by simpa using h2
 by_cases h3:n=58
 · subst h3
   go_enter Tryz.func167,Tryz.ntmps167
   go_wp2_with (go_at_call 53;refine (H.out _ rfl).mono ?_;rintro x w1 ⟨rfl,hb1⟩)
   go_ret
   exact ⟨rfl,hb1⟩
 have d3:(n == 58)=false:=by simpa using h3
 by_cases h4:n=17
 · subst h4
   go_enter Tryz.func167,Tryz.ntmps167
   go_wp2_with (go_at_call 53;refine (H.out _ rfl).mono ?_;rintro x w1 ⟨rfl,hb1⟩)
   go_ret
   exact ⟨rfl,hb1⟩
 have d4:(n == 17)=false:=by simpa using h4
 by_cases h5:n=18
 · subst h5
   go_enter Tryz.func167,Tryz.ntmps167
   go_wp2_with (go_at_call 53;refine (H.out _ rfl).mono ?_;rintro x w1 ⟨rfl,hb1⟩)
   go_ret
   exact ⟨rfl,hb1⟩
 have d5:(n == 18)=false:=by simpa using h5
 by_cases h6:n=3
 · subst h6
   go_enter Tryz.func167,Tryz.ntmps167
   go_wp2_with (go_at_call 53;refine (H.out _ rfl).mono ?_;rintro x w1 ⟨rfl,hb1⟩)
   go_ret
   exact ⟨rfl,hb1⟩
 have d6:(n == 3)=false:=by simpa using h6
 have hb:begun n=0:=by simp [begun,h1,h2,h3,h4,h5,h6]
 rw [hb]
 go_enter Tryz.func167,Tryz.ntmps167
 go_wp2_with (go_at_call 53;refine (H.out _ rfl).mono ?_;rintro x w1 ⟨rfl,hb1⟩)
 go_ret
 exact ⟨rfl,hb1⟩
end Go.Proofs
