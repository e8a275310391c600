/-
  Several texts in one (Ca Cb).
-/
import Derived.RangeFuncNested
import Derived.RangeFuncBound
import Derived.RangeFuncCalls
import Derived.RangeFuncLeaves
import Derived.Shelf.Abstract
import Derived.Shelf.RegionOpen
import Derived.WalkKit
import Derived.WalkSpells
import Derived.WalkLawsBesides
import Derived.OwnWalkIn
import Derived.TacticsInMore
import Derived.LoopNIn
import Derived.LoopIn
import Derived.BigQuiet
import Derived.RegionIn
import Derived.Deep.QuietTactic
import Derived.Deep.RegionWith
import Derived.Lib.OthersKept
import Derived.Maps.AppendAt
import Derived.Lib.SmallJoins
import Derived.Shelf.SlSortCmp.QuietGrown
import Derived.Deep.Upon
import Derived.Test.YtcfcjljapamcoabGreatDoorMger
namespace Go.Proofs
open Go.RowKit Go.Shelf
set_option maxRecDepth 100000
attribute [local go_sem] Oper.semAt_some
attribute [local go_sem ↓] Go.wp_at_zero Go.wp_at_succ
def Rob (X:Nat→Prop) (w:World) (P:World→Prop):Prop:=∀ w'',Fr w w'' X→P w''
theorem Rob.now {X:Nat→Prop} {w:World} {P:World→Prop} (h:Rob X w P):P w:=h w (Fr.refl _ _)
theorem Rob.fr {X Y:Nat→Prop} {w w':World} {P:World→Prop} (h:Rob X w P) (hf:Fr w w' Y) (hy:∀ k,k<w.heap.size→Y k→X k):Rob X w' P:=fun w'' h2=>h w'' ((hf.mono hy).trans h2 fun _ _ e=>e)
theorem Rob.less {X Y:Nat→Prop} {w:World} {P:World→Prop} (h:Rob X w P) (hy:∀ k,k<w.heap.size→Y k→X k):Rob Y w P:=fun w'' h2=>h w'' (h2.mono hy)
def RowB (w:World) (g:Nat) (e:TypeId) (F:Nat→Value) (n:Nat):Prop:=∃ cur:Array Value,w.heap[g]? = some (.cells cur e (0,0))∧∀ j,j<n→cur[j]? = some (F j)
theorem RowB.cell {w:World} {g:Nat} {e:TypeId} {F:Nat→Value} {n j:Nat} (h:RowB w g e F n) (hj:j<n):w.cell? ⟨g,j,none⟩=some (F j):=by
 obtain ⟨cur,h1,h2⟩:=h
 rw [cell_of h1,h2 j hj]
theorem RowB.free {w:World} {g:Nat} {e:TypeId} {F:Nat→Value} {n j:Nat} (h:RowB w g e F n):w.frozen? ⟨g,j,none⟩=false:=by
 obtain ⟨cur,h1,h2⟩:=h
 exact free_of h1
theorem RowB.lt {w:World} {g:Nat} {e:TypeId} {F:Nat→Value} {n:Nat} (h:RowB w g e F n):g<w.heap.size:=by
 obtain ⟨cur,h1,_⟩:=h
 exact blk_lt h1
def updF (F:Nat→Value) (i:Nat) (u:Value):Nat→Value:=fun j=>if j=i then u else F j
theorem RowB.set {w:World} {g:Nat} {e:TypeId} {F:Nat→Value} {n:Nat} (h:RowB w g e F n) (i:Nat) (u:Value):RowB (w.setCell ⟨g,i,none⟩ u) g e (updF F i u) n:=by
 obtain ⟨cur,h1,h2⟩:=h
 refine ⟨_,set_heap h1,fun j hj => ?_⟩
 have hlt:j<cur.size:=(Array.getElem?_eq_some_iff.1 (h2 j hj)).1
 rw [Array.getElem?_setIfInBounds]
 by_cases e:i=j
 · subst e;rw [if_pos rfl,if_pos hlt];simp [updF]
 · rw [if_neg e,h2 j hj];simp [updF,Ne.symm e]
theorem RowB.fr {w w':World} {X:Nat→Prop} {g:Nat} {e:TypeId} {F:Nat→Value} {n:Nat} (h:RowB w g e F n) (hf:Fr w w' X) (hx:¬ X g):RowB w' g e F n:=by
 obtain ⟨cur,h1,h2⟩:=h
 exact ⟨cur,(hf.block g (blk_lt h1) hx).trans h1,h2⟩
theorem row_of {w:World} {base:Nat} {e:TypeId} {size:Nat} {v:Value} {n:Nat} {xs:List Value} (h:w.ownsRow base e size v n xs) (hn:n≠0):∃ g cap,v = .slice (some ⟨g,0,none⟩) n cap∧base≤g∧n≤cap∧RowB w g e (fun j=>xs.getD j undef) (n*size):=by
 rcases h.2 with ⟨_,h0⟩ | ⟨g,cap,cur,e1,h1,h2,h3,_,_,h5⟩
 · exact absurd h0 hn
 · refine ⟨g,cap,e1,h1,h3,cur,h2,fun j hj => ?_⟩
   have hl:xs.length=n*size:=h.1
   have hj2:j<xs.length:=by omega
   show cur[j]? = some (xs.getD j undef)
   rw [List.getD_eq_getElem?_getD,List.getElem?_eq_getElem hj2]
   have:(cur.toList.take (n*size))[j]? = some xs[j]:=by rw [h5];exact List.getElem?_eq_getElem hj2
   rw [List.getElem?_take,if_pos hj] at this
   simpa using this
theorem run_appX (w:World) (t ty e:TypeId) (z:Value) (size bytes:Nat) (ht:Tryz.prog.underlying t=some (.slice e)) (hinf:(Tryz.prog.info? e).map (fun i=>(i.zero,i.size,i.bytes))=some (some z,size,bytes)) (hzs:z.cells.size=size) (hsz:0<size) (hb0:bytes≤120)
 (base g:Nat) (hg:w.heap[g]? = some (.cells #[] e (0,0))) (hbg:base≤g) (a:Addr) (n c:Nat) (xs:List Value) (hl:xs.length=n*size) (hr:∀ j u,xs[j]? = some u→w.cell? (a.add j)=some u) (h1:∀ u∈xs,u.oneCell'=true) (hn:n≤4294967296) :
 ∃ v' w',(Builtin.append_ #[t,t] ty #[.slice (some ⟨g,0,none⟩) 0 0,.slice (some a) n c]).run Tryz.prog w = .ok v' w'∧w'.ownsRow base e size v' n xs∧Fr w w' (fun k=>k=g):=by
 obtain ⟨i0,hi0,hz0,hz1,hz2⟩:=info_parts hinf
 have hown:w.ownsRow base e size (.slice (some ⟨g,0,none⟩) 0 0) 0 []:=⟨by simp,.inr ⟨g,0,#[],rfl,hbg,hg,Nat.le_refl _,Nat.zero_le _,by simp,by simp⟩⟩
 by_cases he:n=0
 · subst he
   have hx:xs=[]:=List.eq_nil_of_length_eq_zero (by omega)
   subst hx
   have hr:=run_append_nothing (P:=Tryz.prog) w t t ty e i0 ht hi0 (some ⟨g,0,none⟩) 0 0 (Nat.le_refl _) (.slice (some a) 0 c) ⟨.inl ⟨e,ht⟩,fun w'=>by simp [Builtin.lenOf,go_sem],by simp [Builtin.firstCells,go_sem],by simp [Builtin.firstCells,go_sem],by simp,by simp⟩
   exact ⟨_,w,hr,hown,Fr.refl _ _⟩
 · obtain ⟨v',w',q1,q2,q3,_,_⟩:=run_append_own_at (P:=Tryz.prog) w base t ty e i0 z size bytes ht hi0 hz0 hz1 hz2 hzs hsz (.slice (some ⟨g,0,none⟩) 0 0) 0 [] hown a n c xs hl hr h1 (by unfold maxLen;omega) (by have:(0+n)*bytes≤4294967296*120:=Nat.mul_le_mul (by omega) hb0;omega) (by have:=blk_lt hg;omega)
   refine ⟨v',w',q1,by simpa using q2,(fr_by q3).mono fun k _ e => ?_⟩
   injection e with e
   exact e.symm
theorem app_X {ops:Array Oper} {rest:List Oper} {o:Oper} {ac:Act} {Q:Exit→Act→World→Prop} {w:World} (hgd:o.guard=none) (s x:Operand) (t:TypeId)
 (ho:o.op = .call { callee := .builtin .append,args:=#[s,x],argTypes:=#[t,t] }) (e:TypeId) (z:Value) (size bytes:Nat) (ht:Tryz.prog.underlying t=some (.slice e)) (hinf:(Tryz.prog.info? e).map (fun i=>(i.zero,i.size,i.bytes))=some (some z,size,bytes)) (hzs:z.cells.size=size) (hsz:0<size) (hb0:bytes≤120)
 (base g:Nat) (hs:ac.eval s = .slice (some ⟨g,0,none⟩) 0 0) (hg:w.heap[g]? = some (.cells #[] e (0,0))) (hbg:base≤g) (a:Addr) (n c:Nat) (hx:ac.eval x = .slice (some a) n c) (xs:List Value) (hl:xs.length=n*size) (hr:∀ j u,xs[j]? = some u→w.cell? (a.add j)=some u) (h1:∀ u∈xs,u.oneCell'=true) (hn:n≤4294967296)
 (h:∀ v' w',w'.ownsRow base e size v' n xs→Fr w w' (fun k=>k=g)→wpList Tryz.prog ops Q rest (ac.put o.dst v') w'):wpList Tryz.prog ops Q (o::rest) ac w:=by
 refine wpList_plain hgd fun K hK => ?_
 obtain ⟨v',w',hr2,q1,q2⟩:=run_appX w t o.type e z size bytes ht hinf hzs hsz hb0 base g hg hbg a n c xs hl hr h1 hn
 unfold Oper.wp execOp
 simp only [ho,resolve,invoke,builtin,Sem.run_bind,Sem.run_pure,Result.andThen_ok,List.map_toArray,List.map_cons,List.map_nil,hs,hx,hr2]
 exact hK _ _ (h v' w' q1 q2)
def Lies (w:World) (A:Option Addr) (xs:List Value):Prop:=∀ j u,xs[j]? = some u→∃ a,A=some a∧w.cell? (a.add j)=some u
theorem eqS22 (W:World) (a:Addr) (n c:Nat):(binOp .eql 22 (.slice (some a) n c) (.slice none 0 0)).run Tryz.prog W = .ok (.bool false) W:=by kernel_rfl
theorem eqN22 (W:World) (n c:Nat):(binOp .eql 22 (.slice none n c) (.slice none 0 0)).run Tryz.prog W = .ok (.bool true) W:=by kernel_rfl
set_option maxHeartbeats 2000000 in
theorem clone58 (w:World) (A:Option Addr) (n c:Nat) (xs:List Value) (hA:A=none→n=0) (hl:xs.length=n*7) (hr:Lies w A xs) (h1:∀ u∈xs,u.oneCell'=true) (hn:n≤4294967296) :
 Calls Tryz.prog 62 #[.slice A n c] w fun e w'=>∃ v',e = .returned v'∧w'.ownsRow w.heap.size 61 7 v' n xs∧Below w.heap.size w w':=by
 cases A with
 | none=>
  obtain rfl:=hA rfl
  have hx:xs=[]:=List.eq_nil_of_length_eq_zero (by omega)
  subst hx
  have he:=eqN22
  clear hr h1 hl hn hA
  go_enter Tryz.func62,Tryz.ntmps62
  go_wp2
  go_ret
  exact ⟨_,rfl,World.ownsRow_nil _ _ _ _,(Below.refl _ _)⟩
 | some a=>
  have he:=eqS22
  obtain ⟨h,hh⟩:∃ h,w.heap.size=h:=⟨_,rfl⟩
  have HH:Hid (w.heap.size=h):=hh
  have HG:Hid ((w.alloc (.cells #[] 61)).heap[h]? = some (.cells #[] 61 (0,0))):=by rw [←hh];exact heap_alloc_new w _
  have HR:Hid (∀ j u,xs[j]? = some u→(w.alloc (.cells #[] 61)).cell? (a.add j)=some u):=fun j u hj=>by
   obtain ⟨a',e,h2⟩:=hr j u hj
   injection e with e
   subst e
   exact cell_up h2 _
  have HX:=Hid.mk' (And.intro hl h1)
  clear hr h1 hl hA
  go_enter Tryz.func62,Tryz.ntmps62
  go_wp2_with (at_builtin;go_must (refine app_X rfl _ _ 22 rfl 61 (.agg #[.bool false,.slice none 0 0,.slice none 0 0,.slice none 0 0,.bool false,.slice none 0 0,.int .i64 0]) 7 120 Tryz.underlying22 inf54 rfl (by decide) (by decide) h h rfl HG.out (Nat.le_refl _) a n c rfl xs HX.out.1 HR.out HX.out.2 hn ?_;intro v' w3 hr3 hb3;have H3:=Hid.mk' (And.intro hr3 hb3);clear hr3 hb3))
  go_ret
  have hb:=H3.out.2
  refine ⟨_,rfl,?_,?_⟩
  · have:=H3.out.1
    rw [HH.out]
    exact this
  · exact ((Grown.refl w).alloc _).below.trans (hb.below (fun k e=>by have:=HH.out;omega) (by simp))
theorem eqS51 (W:World) (a:Addr) (n c:Nat):(binOp .eql 59 (.slice (some a) n c) (.slice none 0 0)).run Tryz.prog W = .ok (.bool false) W:=by kernel_rfl
theorem eqN51 (W:World) (n c:Nat):(binOp .eql 59 (.slice none n c) (.slice none 0 0)).run Tryz.prog W = .ok (.bool true) W:=by kernel_rfl
set_option maxHeartbeats 2000000 in
theorem clone60 (w:World) (A:Option Addr) (n c:Nat) (xs:List Value) (hA:A=none→n=0) (hl:xs.length=n*4) (hr:Lies w A xs) (h1:∀ u∈xs,u.oneCell'=true) (hn:n≤4294967296) :
 Calls Tryz.prog 64 #[.slice A n c] w fun e w'=>∃ v',e = .returned v'∧w'.ownsRow w.heap.size 58 4 v' n xs∧Below w.heap.size w w':=by
 cases A with
 | none=>
  obtain rfl:=hA rfl
  have hx:xs=[]:=List.eq_nil_of_length_eq_zero (by omega)
  subst hx
  have he:=eqN51
  clear hr h1 hl hn hA
  go_enter Tryz.func64,Tryz.ntmps64
  go_wp2
  go_ret
  exact ⟨_,rfl,World.ownsRow_nil _ _ _ _,(Below.refl _ _)⟩
 | some a=>
  have he:=eqS51
  obtain ⟨h,hh⟩:∃ h,w.heap.size=h:=⟨_,rfl⟩
  have HH:Hid (w.heap.size=h):=hh
  have HG:Hid ((w.alloc (.cells #[] 58)).heap[h]? = some (.cells #[] 58 (0,0))):=by rw [←hh];exact heap_alloc_new w _
  have HR:Hid (∀ j u,xs[j]? = some u→(w.alloc (.cells #[] 58)).cell? (a.add j)=some u):=fun j u hj=>by
   obtain ⟨a',e,h2⟩:=hr j u hj
   injection e with e
   subst e
   exact cell_up h2 _
  have HX:=Hid.mk' (And.intro hl h1)
  clear hr h1 hl hA
  go_enter Tryz.func64,Tryz.ntmps64
  go_wp2_with (at_builtin;go_must (refine app_X rfl _ _ 59 rfl 58 (.agg #[.int .i64 0,.int .i64 0,.int .i64 0,.slice none 0 0]) 4 48 Tryz.underlying59 inf66 rfl (by decide) (by decide) h h rfl HG.out (Nat.le_refl _) a n c rfl xs HX.out.1 HR.out HX.out.2 hn ?_;intro v' w3 hr3 hb3;have H3:=Hid.mk' (And.intro hr3 hb3);clear hr3 hb3))
  go_ret
  have hb:=H3.out.2
  refine ⟨_,rfl,?_,?_⟩
  · have:=H3.out.1
    rw [HH.out]
    exact this
  · exact ((Grown.refl w).alloc _).below.trans (hb.below (fun k e=>by have:=HH.out;omega) (by simp))
theorem eqS60 (W:World) (a:Addr) (n c:Nat):(binOp .eql 39 (.slice (some a) n c) (.slice none 0 0)).run Tryz.prog W = .ok (.bool false) W:=by kernel_rfl
theorem eqN60 (W:World) (n c:Nat):(binOp .eql 39 (.slice none n c) (.slice none 0 0)).run Tryz.prog W = .ok (.bool true) W:=by kernel_rfl
set_option maxHeartbeats 2000000 in
theorem clone61 (w:World) (A:Option Addr) (n c:Nat) (xs:List Value) (hA:A=none→n=0) (hl:xs.length=n*2) (hr:Lies w A xs) (h1:∀ u∈xs,u.oneCell'=true) (hn:n≤4294967296) :
 Calls Tryz.prog 65 #[.slice A n c] w fun e w'=>∃ v',e = .returned v'∧w'.ownsRow w.heap.size 55 2 v' n xs∧Below w.heap.size w w':=by
 cases A with
 | none=>
  obtain rfl:=hA rfl
  have hx:xs=[]:=List.eq_nil_of_length_eq_zero (by omega)
  subst hx
  have he:=eqN60
  clear hr h1 hl hn hA
  go_enter Tryz.func65,Tryz.ntmps65
  go_wp2
  go_ret
  exact ⟨_,rfl,World.ownsRow_nil _ _ _ _,(Below.refl _ _)⟩
 | some a=>
  have he:=eqS60
  obtain ⟨h,hh⟩:∃ h,w.heap.size=h:=⟨_,rfl⟩
  have HH:Hid (w.heap.size=h):=hh
  have HG:Hid ((w.alloc (.cells #[] 55)).heap[h]? = some (.cells #[] 55 (0,0))):=by rw [←hh];exact heap_alloc_new w _
  have HR:Hid (∀ j u,xs[j]? = some u→(w.alloc (.cells #[] 55)).cell? (a.add j)=some u):=fun j u hj=>by
   obtain ⟨a',e,h2⟩:=hr j u hj
   injection e with e
   subst e
   exact cell_up h2 _
  have HX:=Hid.mk' (And.intro hl h1)
  clear hr h1 hl hA
  go_enter Tryz.func65,Tryz.ntmps65
  go_wp2_with (at_builtin;go_must (refine app_X rfl _ _ 39 rfl 55 (.agg #[.int .i64 0,.int .i64 0]) 2 16 Tryz.underlying39 info38 rfl (by decide) (by decide) h h rfl HG.out (Nat.le_refl _) a n c rfl xs HX.out.1 HR.out HX.out.2 hn ?_;intro v' w3 hr3 hb3;have H3:=Hid.mk' (And.intro hr3 hb3);clear hr3 hb3))
  go_ret
  have hb:=H3.out.2
  refine ⟨_,rfl,?_,?_⟩
  · have:=H3.out.1
    rw [HH.out]
    exact this
  · exact ((Grown.refl w).alloc _).below.trans (hb.below (fun k e=>by have:=HH.out;omega) (by simp))
theorem eqS33 (W:World) (a:Addr) (n c:Nat):(binOp .eql 56 (.slice (some a) n c) (.slice none 0 0)).run Tryz.prog W = .ok (.bool false) W:=by kernel_rfl
theorem eqN33 (W:World) (n c:Nat):(binOp .eql 56 (.slice none n c) (.slice none 0 0)).run Tryz.prog W = .ok (.bool true) W:=by kernel_rfl
set_option maxHeartbeats 2000000 in
theorem clone85 (w:World) (A:Option Addr) (n c:Nat) (xs:List Value) (hA:A=none→n=0) (hl:xs.length=n*1) (hr:Lies w A xs) (h1:∀ u∈xs,u.oneCell'=true) (hn:n≤4294967296) :
 Calls Tryz.prog 91 #[.slice A n c] w fun e w'=>∃ v',e = .returned v'∧w'.ownsRow w.heap.size 39 1 v' n xs∧Below w.heap.size w w':=by
 cases A with
 | none=>
  obtain rfl:=hA rfl
  have hx:xs=[]:=List.eq_nil_of_length_eq_zero (by omega)
  subst hx
  have he:=eqN33
  clear hr h1 hl hn hA
  go_enter Tryz.func91,Tryz.ntmps91
  go_wp2
  go_ret
  exact ⟨_,rfl,World.ownsRow_nil _ _ _ _,(Below.refl _ _)⟩
 | some a=>
  have he:=eqS33
  obtain ⟨h,hh⟩:∃ h,w.heap.size=h:=⟨_,rfl⟩
  have HH:Hid (w.heap.size=h):=hh
  have HG:Hid ((w.alloc (.cells #[] 39)).heap[h]? = some (.cells #[] 39 (0,0))):=by rw [←hh];exact heap_alloc_new w _
  have HR:Hid (∀ j u,xs[j]? = some u→(w.alloc (.cells #[] 39)).cell? (a.add j)=some u):=fun j u hj=>by
   obtain ⟨a',e,h2⟩:=hr j u hj
   injection e with e
   subst e
   exact cell_up h2 _
  have HX:=Hid.mk' (And.intro hl h1)
  clear hr h1 hl hA
  go_enter Tryz.func91,Tryz.ntmps91
  go_wp2_with (at_builtin;go_must (refine app_X rfl _ _ 56 rfl 39 (.slice none 0 0) 1 24 Tryz.underlying56 inf59 rfl (by decide) (by decide) h h rfl HG.out (Nat.le_refl _) a n c rfl xs HX.out.1 HR.out HX.out.2 hn ?_;intro v' w3 hr3 hb3;have H3:=Hid.mk' (And.intro hr3 hb3);clear hr3 hb3))
  go_ret
  have hb:=H3.out.2
  refine ⟨_,rfl,?_,?_⟩
  · have:=H3.out.1
    rw [HH.out]
    exact this
  · exact ((Grown.refl w).alloc _).below.trans (hb.below (fun k e=>by have:=HH.out;omega) (by simp))
theorem Rs.fr {w w':World} {X:Nat→Prop} {v:Value} {l:List (Int × Int)} (h:Rs w v l) (hf:Fr w w' X) (hx:∀ b,v.ownBlock=some b→¬ X b):Rs w' v l:=by
 obtain ⟨A,c,rfl,h1,h2⟩:=h
 refine ⟨A,c,rfl,h1,h2.imp id ?_⟩
 rintro ⟨g,o,rfl,hr⟩
 refine ⟨g,o,rfl,fun j hj => ?_⟩
 have hb:=hx g rfl
 have k:=hr j hj
 have hlt:=cell_lt k.1
 have e:w'.heap[g]? = w.heap[g]? := hf.block g hlt hb
 exact ⟨by rw [cell_same e];exact k.1,by rw [cell_same e];exact k.2⟩
theorem OwnR.rob {w:World} {base:Nat} {v:Value} {l:List (Int × Int)} (h:OwnR w base v l):Rob (fun k=>k<base) w fun W=>Rs W v l:=fun W hf=>h.rs.fr hf fun b hb hx=>by
 have:=(World.ownsRow.lt h b hb).1
 omega
theorem clone_rs (v:Value) (l:List (Int × Int)) (w:World) (h:Rs w v l) (hn:l.length≤4294967296):Calls Tryz.prog 65 #[v] w fun e w'=>∃ v',e = .returned v'∧IsSl v'∧Rob (fun k=>k<w.heap.size) w' (fun W=>Rs W v' l)∧Below w.heap.size w w':=by
 obtain ⟨A,c,rfl,h1,h2⟩:=h
 refine (clone61 w A l.length c (fl l) (fun e => ?_) (fl_length l) (fun j u hj => ?_) (fl_one _) hn).mono ?_
 · rcases h2 with h2 | ⟨g,o,e2,_⟩
   · rw [h2];rfl
   · rw [e] at e2;cases e2
 · have hjl:j<l.length*2:=by rw [←fl_length];exact (List.getElem?_eq_some_iff.1 hj).1
   obtain ⟨g,o,rfl,hd⟩:=h2.resolve_left fun e=>by rw [e] at hjl;simp at hjl
   refine ⟨_,rfl,?_⟩
   have hadd:(⟨g,o,none⟩:Addr).add j=⟨g,o+j,none⟩:=by unfold Addr.add;split <;> simp_all
   rw [hadd]
   obtain ⟨i,hi⟩:∃ i,j=i*2∨j=i*2+1:=⟨j / 2,by omega⟩
   have hil:i<l.length:=by omega
   have k1:=hd i hil
   have k2:=fl_at l hil
   rcases hi with rfl | rfl
   · rw [k2.1] at hj;injection hj with hj;subst hj;exact k1.1
   · rw [k2.2] at hj;injection hj with hj;subst hj;rw [←Nat.add_assoc];exact k1.2
 · rintro e w' ⟨v',rfl,hO,hB⟩
   have hO:OwnR w' w.heap.size v' l:=hO
   exact ⟨v',rfl,hO.rs.sl,hO.rob,hB⟩
theorem SRd.vals {w:World} {g o:Nat} {ls:List (List (Int × Int))} (h:SRd w g o ls):∃ F:Nat→Value,∀ j,j<ls.length→w.cell? ⟨g,o+j,none⟩=some (F j)∧Rs w (F j) (ls.getD j []):=by
 have h':∀ (j:Nat) (hj:j<ls.length),∃ sv,w.cell? ⟨g,o+j,none⟩=some sv∧Rs w sv ls[j]:=h
 refine ⟨fun j=>if hj:j<ls.length then Classical.choose (h' j hj) else undef,fun j hj => ?_⟩
 have:=Classical.choose_spec (h' j hj)
 simp only [dif_pos hj,List.getD_eq_getElem?_getD,List.getElem?_eq_getElem hj,Option.getD_some]
 exact this
theorem map_range_at (F:Nat→Value) (n j:Nat) (u:Value) (h:((List.range n).map F)[j]? = some u):j<n∧u=F j:=by
 have hj:j<n:=by
  have:=(List.getElem?_eq_some_iff.1 h).1
  simpa using this
 rw [List.getElem?_map,List.getElem?_range hj] at h
 exact ⟨hj,(Option.some.inj h).symm⟩
theorem own_sl2 {w:World} {base:Nat} {e:TypeId} {size:Nat} {v:Value} {n:Nat} {xs:List Value} (h:w.ownsRow base e size v n xs):∃ a cap,v = .slice a n cap:=by
 rcases h.2 with ⟨e,h0⟩ | ⟨g,cap,cur,e,_⟩
 · exact ⟨none,0,by rw [e,h0]⟩
 · exact ⟨_,cap,e⟩
theorem isSl_one {v:Value} (h:IsSl v):v.oneCell'=true:=by
 obtain ⟨a,n,c,rfl⟩:=h
 rfl
theorem add_none (g o j:Nat):(⟨g,o,none⟩:Addr).add j=⟨g,o+j,none⟩:=by unfold Addr.add;split <;> simp_all
structure OR (w wr:World) (base g:Nat) (ls:List (List (Int × Int))) (F:Nat→Value) (k:Nat) (G:Nat→Value):Prop where
 row:RowB wr g 39 G ls.length
 new:∀ j,j<k→Rob (fun i=>i<base∨i=g) wr fun W=>Rs W (G j) (ls.getD j [])
 old:∀ j,k≤j→G j=F j
 bel:Below base w wr
set_option maxHeartbeats 4000000 in
theorem ownRow_any (v:Value) (ls:List (List (Int × Int))) (w:World) (h:SR w v ls) (hn:ls.length≤4294967296) (hs:∀ l∈ls,l.length≤4294967296) :
 Calls Tryz.prog 63 #[v] w fun e w'=>∃ v',e = .returned v'∧Rob (fun k=>k<w.heap.size) w' (fun W=>SR W v' ls)∧Below w.heap.size w w':=by
 obtain ⟨A,c,rfl,h1,h2⟩:=h
 obtain ⟨n,hN⟩:∃ n,ls.length=n:=⟨_,rfl⟩
 have HN:=Hid.mk' hN
 by_cases h0:n=0
 · have hl0:ls=[]:=List.eq_nil_of_length_eq_zero (by omega)
   have HC:Hid (Calls Tryz.prog 91 #[.slice A 0 c] w fun e w'=>∃ v',e = .returned v'∧w'.ownsRow w.heap.size 39 1 v' 0 []∧Below w.heap.size w w'):=by
    refine clone85 w A 0 c [] (fun _=>rfl) rfl (fun j u hj=>by simp at hj) (by simp) (by omega)
   subst hl0
   rw [show ([]:List (List (Int × Int))).length=0 from rfl]
   clear h1 h2 hn hs hN HN
   go_enter Tryz.func63,Tryz.ntmps63
   go_wp2_with (go_at_call 91;refine HC.out.mono ?_;rintro e w1 ⟨v1,rfl,hO,hB⟩;obtain ⟨q1,q3,hv⟩:=own_sl2 hO;subst hv;have HO:=Hid.mk' (And.intro hO hB);clear hO hB)
   go_loopw [4,5,10] (fun _ _ v10 wr=>v10 = .int .i64 0∧wr=w1) (fun _ _ _ _=>0)
   case atStart=>exact ⟨rfl,rfl⟩
   case round=>
    obtain ⟨rfl,rfl⟩:=hrel
    go_wp2
    go_ret
    refine ⟨_,rfl,fun W _=>⟨q1,q3,rfl,Nat.zero_le _,.inl rfl⟩,HO.out.2⟩
 · obtain ⟨g0,o0,rfl,hd⟩:=h2.resolve_left fun e=>h0 (by rw [←hN,e];rfl)
   obtain ⟨F,hF⟩:=hd.vals
   have HF:=Hid.mk' hF
   have hFs:∀ j,j<n→IsSl (F j):=fun j hj=>(hF j (by omega)).2.sl
   have HC:Hid (Calls Tryz.prog 91 #[.slice (some ⟨g0,o0,none⟩) n c] w fun e w'=>∃ v',e = .returned v'∧w'.ownsRow w.heap.size 39 1 v' n ((List.range n).map F)∧Below w.heap.size w w'):=by
    refine clone85 w _ n c _ (fun e=>by cases e) (by simp) (fun j u hj => ?_) (fun u hu => ?_) (by omega)
    · obtain ⟨hj1,rfl⟩:=map_range_at F n j u hj
      exact ⟨_,rfl,by rw [add_none];exact (hF j (by omega)).1⟩
    · obtain ⟨j,hj,rfl⟩:=List.mem_map.1 hu
      exact isSl_one (hFs j (List.mem_range.1 hj))
   rw [hN]
   have hnI:(n:Int)≤4294967296:=by omega
   have HS:=Hid.mk' hs
   clear h1 h2 hd hF hs hN
   go_enter Tryz.func63,Tryz.ntmps63
   go_wp2_with (go_at_call 91;refine HC.out.mono ?_;rintro e w1 ⟨v1,rfl,hO,hB⟩;obtain ⟨g,cap,hv,hg,hcap,hrow⟩:=row_of hO h0;subst hv;have HO:=Hid.mk' (And.intro hg (And.intro hcap (And.intro hrow hB)));clear hO hB hrow)
   have HK0:Hid (OR w w1 w.heap.size g ls F 0 F):=by
    obtain ⟨k1,k2,⟨cur,k3,k5⟩,k4⟩:=HO.out
    refine ⟨⟨cur,k3,fun j hj => ?_⟩,fun j hj=>by omega,fun j _=>rfl,k4⟩
    have hj2:j<n:=by have:=HN.out;omega
    rw [k5 j (by omega)]
    show some (((List.range n).map F).getD j undef)=_
    rw [List.getD_eq_getElem?_getD,List.getElem?_map,List.getElem?_range hj2]
    rfl
   go_loopw [4,5,10] (fun _ _ v10 wr=>∃ k:Nat,v10 = .int .i64 k∧k≤n∧Hid (∃ G,OR w wr w.heap.size g ls F k G)) (fun _ _ v10 _=>n - (intOf v10).toNat)
   case atStart=>exact ⟨0,rfl,by omega,_,HK0.out⟩
   case round=>
    obtain ⟨k,rfl,hk,HG⟩:=hrel
    obtain ⟨G,hG⟩:=HG.out
    by_cases hlt:k<n
    · have hltI:(k:Int)<(n:Int):=by omega
      have hkl:k<ls.length:=by have:=HN.out;omega
      have ck:wr.cell? ⟨g,k,none⟩=some (F k):=by rw [hG.row.cell hkl,hG.old k (Nat.le_refl _)]
      have hgl:=hG.row.lt
      obtain ⟨x1,x2,x3,hx⟩:=hFs k hlt
      have HCl:Hid (∀ W,Grown wr W→Calls Tryz.prog 65 #[F k] W fun e w'=>∃ y1 y2 y3,e = .returned (.slice y1 y2 y3)∧Rob (fun i=>i<W.heap.size) w' (fun W=>Rs W (.slice y1 y2 y3) (ls.getD k []))∧Below W.heap.size W w'):=fun W hg=>by
       have hm:ls.getD k []∈ls:=by rw [List.getD_eq_getElem?_getD,List.getElem?_eq_getElem hkl];exact List.getElem_mem hkl
       refine (clone_rs (F k) (ls.getD k []) W (((HF.out k hkl).2.below hG.bel (Nat.le_refl _)).below hg.below (Nat.le_refl _)) (HS.out _ hm)).mono ?_
       rintro e w' ⟨v',rfl,⟨y1,y2,y3,rfl⟩,h1,h2⟩
       exact ⟨y1,y2,y3,rfl,h1,h2⟩
      rw [hx] at HCl ck
      have HGG:=Hid.mk' hG
      have HX:=Hid.mk' hx
      have hcI:(k:Int)<(cap:Int):=by omega
      clear hG hx
      go_wp2_with (go_at_call 65;go_must (refine (HCl.out _ (by (repeat (first | exact Grown.refl _ | refine Grown.alloc ?_ _ | refine Grown.drew ?_)))).mono ?_;rintro e w5 ⟨y1,y2,y3,rfl,hr5,hb5⟩;have H5:=Hid.mk' (And.intro hr5 hb5);have hR5:RowB w5 g 39 G ls.length:=HGG.out.row.fr (fr_below hb5 (Nat.le_refl _) (fun _=>False)) id;have e5:=hR5.cell hkl;have f5:w5.frozen? ⟨g,k,none⟩=false:=hR5.free;rw [HGG.out.old k (Nat.le_refl _),HX.out] at e5;have HR5:=Hid.mk' hR5;clear hr5 hb5 hR5))
      refine ⟨⟨k+1,by go_num,by omega,updF G k (.slice y1 y2 y3),?_⟩,by simp [intOf];omega⟩
      have hG:=HGG.out
      have hbl:=H5.out.2
      have hfs:=fr_set w5 g k (.slice y1 y2 y3)
      have hbw:w.heap.size≤wr.heap.size:=hG.bel.size
      refine ⟨HR5.out.set k _,fun j hj => ?_,fun j hj => ?_,?_⟩
      · by_cases e:j=k
        · subst e
          have e1:updF G j (.slice y1 y2 y3) j = .slice y1 y2 y3:=by simp [updF]
          rw [e1]
          refine Rob.fr (H5.out.1.less fun i _ hi => ?_) hfs fun i _ e => .inr e
          show i<wr.heap.size
          rcases hi with hi | hi <;> omega
        · have e1:updF G k (.slice y1 y2 y3) j=G j:=by simp [updF,e]
          rw [e1]
          exact Rob.fr (Rob.fr (hG.new j (by omega)) (fr_below hbl (Nat.le_refl _) (fun _=>False)) fun _ _ e=>e.elim) hfs fun i _ e => .inr e
      · have e1:updF G k (.slice y1 y2 y3) j=G j:=by simp [updF];omega
        rw [e1]
        exact hG.old j (by omega)
      · exact (hG.bel.trans (hbl.mono hbw)).setCell (by have:=HO.out.1;exact this) _
    · obtain rfl:k=n:=by omega
      have hge:¬ (k:Int)<(k:Int):=by omega
      clear hG
      go_wp2
      go_ret
      obtain ⟨G,hG⟩:=HG.out
      refine ⟨.slice (some ⟨g,0,none⟩) k cap,rfl,fun W hf=>⟨some ⟨g,0,none⟩,cap,by rw [HN.out],by rw [HN.out];exact HO.out.2.1,.inr ⟨g,0,rfl,fun j hj=>⟨G j,?_,?_⟩⟩⟩,hG.bel⟩
      · rw [Nat.zero_add]
        exact (hG.row.fr hf fun e=>by have:=HO.out.1;omega).cell hj
      · have:=(hG.new j (by have:=HN.out;omega)).less (Y:=fun i=>i<w.heap.size) (fun i _ e => .inl e) W hf
        rwa [List.getD_eq_getElem?_getD,List.getElem?_eq_getElem hj] at this
end Go.Proofs
