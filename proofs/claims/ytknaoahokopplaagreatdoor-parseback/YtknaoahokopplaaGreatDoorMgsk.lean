/-
  Several texts in one (Tfk Jkk).
-/
import Derived.Test.YtknaoahokopplaaGreatDoorMgok
import Derived.Test.YtknaoahokopplaaGreatDoorMgrk
import Derived.Shelf.Abstract
import Derived.WalkKit
import Derived.WalkSpells
import Derived.WalkLawsBesides
import Derived.BigQuiet
import Derived.Deep.QuietTactic
import Derived.Deep.LoopGhost
import Derived.Defers
import Derived.Recover
import Derived.WalkMore
namespace Go.Proofs
open Go.RowKit Go.Shelf
def SimR {α:Type} (R:α→α→Prop):Res α→Res α→Prop
 | .ok x r,.ok y r'=>R x y∧All2 SameT r r'
 | .no _ c,.no _ c'=>c=c'
 | _,_=>False
abbrev TS (a b:List Tok):Prop:=All2 SameT a b
theorem SimR.bind {α β:Type} {R:α→α→Prop} {S:β→β→Prop} {x y:Res α} {f g:α→List Tok→Res β} (h:SimR R x y) (k:∀ a b r r',R a b→TS r r'→SimR S (f a r) (g b r')):SimR S (x.bind f) (y.bind g):=by
 cases x <;> cases y
 · exact k _ _ _ _ h.1 h.2
 · exact h.elim
 · exact h.elim
 · exact h
theorem same_which {x y:Tok} (h:SameT x y):which x=which y:=by
 unfold which byteAt
 rw [h.1,h.2.2.1]
theorem same_bareN {x y:Tok} (h:SameT x y):bareN x=bareN y:=by
 unfold bareN
 rw [same_which h,h.2.2.1]
theorem ts_nxt:∀ {a b:List Tok},TS a b→nxt a=nxt b
 | [],[],_=>rfl
 | _::_,_::_,h=>same_which h.1
 | [],_::_,h=>h.elim
 | _::_,[],h=>h.elim
theorem ts_tail:∀ {a b:List Tok},TS a b→TS a.tail b.tail
 | [],[],_=>trivial
 | _::_,_::_,h=>h.2
 | [],_::_,h=>h.elim
 | _::_,[],h=>h.elim
theorem ts_pass (n:Int) {a b:List Tok} (h:TS a b):(passT n a).1=(passT n b).1∧TS (passT n a).2 (passT n b).2:=by
 unfold passT
 rw [ts_nxt h]
 split
 · exact ⟨rfl,ts_tail h⟩
 · exact ⟨rfl,h⟩
theorem ts_want (e e' n:Int) {a b:List Tok} (h:TS a b):SimR (fun _ _=>True) (wantT e n a) (wantT e' n b):=by
 unfold wantT
 rw [ts_nxt h]
 split
 · exact ⟨trivial,ts_tail h⟩
 · exact rfl
theorem ts_upTo (e e':Int) {f g:Tok} (hf:SameT f g):∀ {a b:List Tok},TS a b→SimR (fun x y=>x=y) (upToT e f a) (upToT e' g b)
 | [],[],_=>rfl
 | x::a,y::b,h=>by
  simp only [upToT]
  rw [same_which h.1,hf.2.1,h.1.2.1]
  split
  · split
    · exact ⟨rfl,h.2⟩
    · exact rfl
  · exact rfl
 | [],_::_,h=>h.elim
 | _::_,[],h=>h.elim
theorem ts_row (e e':Int) (may:Nat) {it it':List Tok→Res It} (hi:∀ a b,TS a b→SimR (fun x y=>x=y) (it a) (it' b)):∀ (d:Nat) {a b:List Tok},TS a b→SimR (fun x y=>x=y) (rowT e may it d a) (rowT e' may it' d b)
 | 0,a,b,h=>by
  unfold rowT
  rw [ts_nxt h]
  split
  · exact rfl
  · exact ⟨rfl,h⟩
 | d+1,a,b,h=>by
  unfold rowT
  rw [ts_nxt h]
  split
  · refine (hi a b h).bind fun x y r r' hx hr=>(ts_row e e' may hi d hr).bind fun xs ys r2 r2' hxs hr2=>⟨by rw [hx,hxs],hr2⟩
  · exact ⟨rfl,h⟩
theorem ts_item (e e':Int) (may:Nat) {sets sets':List Tok→Res (List It)} {pairs pairs':List Tok→Res It} (h1:∀ a b,TS a b→SimR (fun x y=>x=y) (sets a) (sets' b)) (h2:∀ a b,TS a b→SimR (fun x y=>x=y) (pairs a) (pairs' b)) :
 ∀ {a b:List Tok},TS a b→SimR (fun x y=>x=y) (itemT e may sets pairs a) (itemT e' may sets' pairs' b)
 | [],[],_=>rfl
 | x::a,y::b,h=>by
  simp only [itemT]
  rw [same_which h.1]
  split
  · unfold restT
    rw [same_which h.1]
    have hp:=ts_pass 15 h.2
    split
    · rw [ts_nxt h.2]
      split
      · exact ts_upTo e e' h.1 (ts_tail h.2)
      · exact ⟨by rw [h.1.2.1],h.2⟩
    · exact ⟨by rw [same_bareN h.1],h.2⟩
    · exact ⟨by rw [same_bareN h.1],h.2⟩
    · exact ⟨rfl,h.2⟩
    · refine (h1 _ _ hp.2).bind fun ps ps' r r' e1 hr=>(ts_want e e' 19 hr).bind fun _ _ r2 r2' _ hr2=>⟨by rw [e1,hp.1],hr2⟩
    · rw [ts_nxt h.2]
      split
      · exact (h2 _ _ (ts_tail h.2)).bind fun x1 y1 r r' e1 hr=>⟨by rw [e1,h.1.2.2.2],hr⟩
      · exact ⟨by rw [h.1.2.2.2],h.2⟩
  · exact rfl
 | [],_::_,h=>h.elim
 | _::_,[],h=>h.elim
theorem ts_noRow (a b:List Tok) (_:TS a b):SimR (fun x y=>x=y) (noRow a) (noRow b):=rfl
theorem ts_noItem (a b:List Tok) (_:TS a b):SimR (fun x y=>x=y) (noItem a) (noItem b):=rfl
theorem ts_part (e e':Int) (a b:List Tok) (h:TS a b):SimR (fun x y=>x=y) (partT e a) (partT e' b):=ts_item (sets:=noRow) (sets':=noRow) (pairs:=noItem) (pairs':=noItem) e e' 78 ts_noRow ts_noItem h
theorem ts_parts (e e':Int) (a b:List Tok) (h:TS a b):SimR (fun x y=>x=y) (partsT e a) (partsT e' b):=ts_row e e' 78 (ts_part e e') 512 h
theorem ts_side (e e':Int) (may:Nat) (a b:List Tok) (h:TS a b):SimR (fun x y=>x=y) (sideT e may a) (sideT e' may b):=ts_item (pairs:=noItem) (pairs':=noItem) e e' may (ts_parts e e') ts_noItem h
theorem ts_piece (e e':Int) (a b:List Tok) (h:TS a b):SimR (fun x y=>x=y) (pieceT e a) (pieceT e' b):=ts_item (sets:=noRow) (sets':=noRow) e e' 386 ts_noRow (ts_side e e' 60) h
theorem ts_sides (e e':Int) (a b:List Tok) (h:TS a b):SimR (fun x y=>x=y) (sidesT e a) (sidesT e' b):=ts_row e e' 62 (ts_side e e' 62) 512 h
theorem ts_result (e e':Int) (d:Nat) (a b:List Tok) (h:TS a b):SimR (fun x y=>x=y) (resultT e d a) (resultT e' d b):=ts_row e e' 386 (ts_piece e e') d h
theorem ts_post (e e':Int) (a b:List Tok) (h:TS a b):SimR (fun x y=>x=y) (postT e a) (postT e' b):=by
 unfold postT
 rw [ts_nxt h]
 split
 · refine (ts_sides e e' _ _ (ts_tail h)).bind fun x y r r' e1 hr => ?_
   have hp:=ts_pass 16 hr
   exact ⟨by rw [e1,hp.1],hp.2⟩
 · exact ⟨rfl,h⟩
theorem ts_tailT (e e':Int) (a b:List Tok) (h:TS a b):SimR (fun x y=>x=y) (tailT e a) (tailT e' b):=by
 unfold tailT
 refine (ts_result e e' 512 _ _ h).bind fun x y r r' e1 hr => ?_
 subst e1
 rw [ts_nxt hr]
 split
 · exact (ts_result e e' _ _ _ (ts_tail hr)).bind fun x1 y1 r2 r2' e2 hr2=>⟨by rw [e2],hr2⟩
 · exact ⟨rfl,hr⟩
theorem ts_ante (e e':Int) (bg:Bool) (x:List It) (a b:List Tok) (h:TS a b):SimR (fun x y=>x=y) (anteT e bg x a) (anteT e' bg x b):=by
 unfold anteT
 rw [ts_nxt h]
 split
 · exact (ts_want e e' 12 h).bind fun _ _ r r' _ hr=>(ts_sides e e' _ _ hr).bind fun x1 y1 r2 r2' e2 hr2=>⟨by rw [e2],hr2⟩
 · exact ⟨rfl,h⟩
theorem ts_rule (e e':Int) (a b:List Tok) (h:TS a b):SimR (fun x y=>x=y) (ruleT e a) (ruleT e' b):=by
 unfold ruleT
 have hp:=ts_pass 15 h
 rw [hp.1]
 refine (ts_sides e e' _ _ hp.2).bind fun x y r r' e1 hr => ?_
 subst e1
 refine (ts_ante e e' _ _ _ _ hr).bind fun x1 y1 r1 r1' e1 hr1 => ?_
 subst e1
 refine (ts_post e e' _ _ hr1).bind fun x2 y2 r2 r2' e2 hr2 => ?_
 subst e2
 refine (ts_want e e' 10 hr2).bind fun _ _ r3 r3' _ hr3 => ?_
 exact (ts_tailT e e' _ _ hr3).bind fun x4 y4 r4 r4' e4 hr4=>⟨by rw [e4],hr4⟩
theorem ts_def (e e':Int) {x y:Tok} (hx:SameT x y) (a b:List Tok) (h:TS a b):SimR (fun x y=>x=y) (defT e x a) (defT e' y b):=by
 unfold defT
 refine (ts_want e e' 21 h).bind fun _ _ r3 r3' _ hr3 => ?_
 exact (ts_side e e' 62 _ _ hr3).bind fun x4 y4 r4 r4' e4 hr4=>⟨by rw [e4,same_bareN hx],hr4⟩
theorem ts_some (e e':Int):∀ (a b:List Tok),TS a b→SimR (fun x y=>x=y) (someT e a) (someT e' b)
 | [],[],h=>ts_rule e e' [] [] h
 | x::a,y::b,h=>by
  unfold someT
  simp only
  rw [same_which h.1,ts_nxt h.2]
  split
  · exact ⟨rfl,h.2⟩
  · split
    · exact ts_def e e' h.1 a b h.2
    · exact ts_rule e e' _ _ h
 | [],_::_,h=>h.elim
 | _::_,[],h=>h.elim
def SameL (x y:Ln):Prop := { x with a:=0 } = { y with a:=0 }
theorem ts_line (e e':Int) (a b:List Tok) (h:TS a b):SimR SameL (lineT e a) (lineT e' b):=by
 unfold lineT
 refine (ts_some e e' a b h).bind fun x y r r' e1 hr => ?_
 subst e1
 exact (ts_want e e' 11 hr).bind fun _ _ r3 r3' _ hr3=>⟨rfl,hr3⟩
theorem ts_lines (e e':Int):∀ (f:Nat) (a b:List Tok),TS a b→SimR (All2 SameL) (linesT e f a) (linesT e' f b)
 | 0,a,b,h=>⟨trivial,h⟩
 | f+1,a,b,h=>by
  unfold linesT
  rw [ts_nxt h]
  split
  · exact ⟨trivial,h⟩
  · exact (ts_line e e' a b h).bind fun x y r r' e1 hr=>(ts_lines e e' f r r' hr).bind fun xs ys r2 r2' e2 hr2=>⟨⟨e1,e2⟩,hr2⟩
end Go.Proofs
namespace Go.Proofs
open Go.RowKit Go.Shelf
set_option maxRecDepth 100000
attribute [local go_sem] Oper.semAt_some
set_option maxHeartbeats 1000000 in
theorem catch_idle (p q:Addr) (w:World) :
 CallsD Tryz.prog 52 #[.pointer (some p),.pointer (some q)] .returning w fun e u' w'=>e = .returned (.tuple #[])∧u' = .returning∧w'=w:=by
 refine callsD_of_wpS Tryz.func52 rfl fun c₀ cs hu => ?_
 apply wpS_seq
 apply wpS_region
 simp [wpOpsS,go_sem,recoverD,hu,Tryz.ntmps52,Exit.thenS]
 refine wpS_of_wp ?_
 go_wp2
 cases c₀
 simp_all [bodyPostS,results,Tryz.results52]
set_option maxHeartbeats 1000000 in
theorem catch_thrown (P Q:Nat) (v0:Value) (a0 e0 a c:Int) (w:World) (hP:w.heap[P]? = some (.cells #[v0] 29 (0,0))) (hQ:FB w Q a0 e0) (hPQ:P≠Q) :
 CallsD Tryz.prog 52 #[.pointer (some ⟨P,0,none⟩),.pointer (some ⟨Q,0,none⟩)] (.panicking [{ v := .iface 32 (.agg #[.int .i64 a,.int .i64 c]),recovered:=false }]) w fun e u' w'=>
  e = .returned (.tuple #[])∧u' = .panicking [{ v := .iface 32 (.agg #[.int .i64 a,.int .i64 c]),recovered:=true }]∧w'.heap[P]? = some (.cells #[.slice none 0 0] 29 (0,0))∧FB w' Q a c∧Mv w w' P (some Q):=by
 refine callsD_of_wpS Tryz.func52 rfl fun c₀ cs hu => ?_
 apply wpS_seq
 apply wpS_region
 simp [wpOpsS,go_sem,recoverD,hu,Tryz.ntmps52,Exit.thenS]
 refine wpS_of_wp ?_
 have p0:w.cell? ⟨P,0,none⟩=some v0:=by simp [World.cell?,hP]
 have p1:w.frozen? ⟨P,0,none⟩=false:=by simp [World.frozen?,hP]
 obtain ⟨q0,q1,q2,q3⟩:=hQ.cells
 have hta:∀ (v:Value) (w:World),(Instr.typeAssert (.iface 32 v) 20 32 true).run Tryz.prog w = .ok (.tuple #[v,.bool true]) w:=fun _ _=>by kernel_rfl
 have hPl:P<w.heap.size:=(Array.getElem?_eq_some_iff.1 hP).1
 have hQl:=hQ.lt
 go_wp2
 have hP2:(w.alloc (.cells #[.int .i64 a,.int .i64 c] 32)).heap[P]? = some (.cells #[v0] 29 (0,0)):=(Below.heap_alloc _ _ _ hPl).trans hP
 have hQ2:FB (w.alloc (.cells #[.int .i64 a,.int .i64 c] 32)) Q a0 e0:=hQ.allocs _
 have hN:FB (w.alloc (.cells #[.int .i64 a,.int .i64 c] 32)) w.heap.size a c:=FB.new _ _ _
 have hM:Mv w (w.alloc (.cells #[.int .i64 a,.int .i64 c] 32)) P (some Q):=(Mv.refl _ _ _).alloc _
 have hNP:w.heap.size≠P:=by omega
 have hNQ:w.heap.size≠Q:=by omega
 have hQP:Q≠P:=fun e=>hPQ e.symm
 have hPN:P≠w.heap.size:=by omega
 have hQN:Q≠w.heap.size:=by omega
 generalize w.alloc (.cells #[.int .i64 a,.int .i64 c] 32)=W at *
 generalize w.heap.size=N at *
 have p0:W.cell? ⟨P,0,none⟩=some v0:=by simp [World.cell?,hP2]
 have p1:W.frozen? ⟨P,0,none⟩=false:=by simp [World.frozen?,hP2]
 obtain ⟨q0,q1,q2,q3⟩:=hQ2.cells
 obtain ⟨n0,n1,n2,n3⟩:=hN.cells
 have hfin:((((W.setCell ⟨P,0,none⟩ (.slice none 0 0)).setCell ⟨Q,0,none⟩ (.int .i64 a)).setCell ⟨Q,1,none⟩ (.int .i64 c)).drew).heap[P]? = some (.cells #[.slice none 0 0] 29 (0,0))∧FB ((((W.setCell ⟨P,0,none⟩ (.slice none 0 0)).setCell ⟨Q,0,none⟩ (.int .i64 a)).setCell ⟨Q,1,none⟩ (.int .i64 c)).drew) Q a c∧Mv w ((((W.setCell ⟨P,0,none⟩ (.slice none 0 0)).setCell ⟨Q,0,none⟩ (.int .i64 a)).setCell ⟨Q,1,none⟩ (.int .i64 c)).drew) P (some Q):=by
  have h1:((((W.setCell ⟨P,0,none⟩ (.slice none 0 0)).setCell ⟨Q,0,none⟩ (.int .i64 a)).setCell ⟨Q,1,none⟩ (.int .i64 c))).heap[P]? = some (.cells #[.slice none 0 0] 29 (0,0)):=by
   rw [heap_set_other _ hPQ,heap_set_other _ hPQ]
   exact cells_setS hP2
  have h2:FB (((W.setCell ⟨P,0,none⟩ (.slice none 0 0)).setCell ⟨Q,0,none⟩ (.int .i64 a)).setCell ⟨Q,1,none⟩ (.int .i64 c)) Q a c:=FB.set (show FB (W.setCell ⟨P,0,none⟩ (.slice none 0 0)) Q a0 e0 from (heap_set_other _ hQP _ _).trans hQ2) a c
  refine ⟨h1,h2,?_⟩
  refine ⟨hM.os,hM.tape,hM.output,by simpa using hM.size,fun k k1 k2 k3 => ?_⟩
  have k4:k≠Q:=fun e=>k3 (by rw [e])
  exact (heap_set_other _ k4 _ _).trans ((heap_set_other _ k4 _ _).trans ((heap_set_other _ k2 _ _).trans (hM.block k k1 k2 k3)))
 go_region
 all_goals exact ⟨rfl,_,rfl,.tuple #[],by simp [results,Tryz.f52],rfl,rfl,hfin⟩
end Go.Proofs
