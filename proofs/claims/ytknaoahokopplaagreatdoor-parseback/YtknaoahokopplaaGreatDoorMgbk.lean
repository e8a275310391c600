/-
  Several texts in one (Ubk Tkk).
-/
import Derived.RangeFuncNested
import Derived.RangeFuncBound
import Derived.RangeFuncCalls
import Derived.RangeFuncLeaves
import Derived.Shelf.Abstract
import Derived.Shelf.RegionOpen
import Derived.WalkKit
import Derived.WalkSpells
import Derived.WalkLawsBesides
import Derived.OwnWalkIn
import Derived.TacticsInMore
import Derived.LoopNIn
import Derived.LoopIn
import Derived.BigQuiet
import Derived.RegionIn
import Derived.Deep.QuietTactic
import Derived.Lib.OthersKept
import Derived.Lib.IndexBytes
import Derived.Test.YtknaoahokopplaaGreatDoorUak
import Derived.WalkMore
import Derived.Maps.AppendAt
import Derived.RangeFuncBox
import Derived.Lib.SmallJoins
import Derived.Test.YtknaoahokopplaaGreatDoorProg
namespace Go.Proofs
open Go.RowKit Go.Shelf
set_option maxRecDepth 100000
attribute [local go_sem] Oper.semAt_some
def firstU (s:ByteArray):Int × Int:=match units s with | []=>(0,0) | x::_=>(x.2,wd x.2)
theorem firstU_of {s:ByteArray} {x:Nat × Nat} (h:[x] <+: units s):firstU s=((x.2:Int),wd x.2):=by
 obtain ⟨t,ht⟩:=h
 unfold firstU
 rw [←ht];rfl
set_option maxHeartbeats 1000000 in
theorem firstU_any (s:ByteArray) (w:World) (hs:s.size≤maxLen):Calls Tryz.prog 135 #[.string s] w fun e w'=>e = .returned (.tuple #[.int .i64 (firstU s).1,.int .i64 (firstU s).2])∧Below w.heap.size w w':=by
 refine (callsIn_wide (n:=5)).1 ?_
 refine callsIn_of_wp_marks Tryz.func135 rfl trivial ?_ rfl
 simp only [Tryz.ntmps135,List.size_toArray,List.length_cons,List.length_nil,Nat.reduceAdd,Nat.reduceSub,Array.replicate_succ,Array.replicate_zero,List.push_toArray,List.append_toArray,List.nil_append,List.cons_append]
 gi_wp2_with (refine ⟨trivial,?_⟩;gi_at_call 158;refine (callsIn_wide.2 (all_any _ _)).mono ?_;rintro e w' ⟨rfl,rfl⟩)
 have b0:Boxed (w.alloc (.cells #[.int .i64 0] 3)) w.heap.size 3 (.int .i64 0):=Boxed.new _ _ _
 have b1:Boxed ((w.alloc (.cells #[.int .i64 0] 3)).alloc (.cells #[.int .i64 0] 3)) (w.heap.size+1) 3 (.int .i64 0):=by have:=Boxed.new (w.alloc (.cells #[.int .i64 0] 3)) 3 (.int .i64 0);rwa [World.size_alloc] at this
 have b2:Boxed (((w.alloc (.cells #[.int .i64 0] 3)).alloc (.cells #[.int .i64 0] 3)).alloc (.cells #[.string s] 9)) (w.heap.size+1+1) 9 (.string s):=by have:=Boxed.new ((w.alloc (.cells #[.int .i64 0] 3)).alloc (.cells #[.int .i64 0] 3)) 9 (.string s);rwa [World.size_alloc,World.size_alloc] at this
 have hB0:Below w.heap.size w (((w.alloc (.cells #[.int .i64 0] 3)).alloc (.cells #[.int .i64 0] 3)).alloc (.cells #[.string s] 9)):=(((Below.refl _ w).alloc (Nat.le_refl _) _).alloc (by simp) _).alloc (by simp;omega) _
 refine wpIn_rangeFunc_ownF rfl (by omega) (gf:=179) (lb:=#[.pointer (some ⟨w.heap.size+1+1,0,none⟩)]) rfl trivial (enters_of Tryz.func179 (by kernel_rfl) rfl)
  (all_stops 4 (by omega) (w.heap.size+1+1) s hs _ (by simp) b2.cell) kpA_t kpA_b (Below.refl _ _) (fun _=>rfl)
  (fun pre W=>(pre=[]∧Boxed W w.heap.size 3 (.int .i64 0)∧Boxed W (w.heap.size+1) 3 (.int .i64 0))∧Below w.heap.size w W)
  (fun c pre W=>(c = .ret∧∃ x,vals pre=[x]∧Boxed W w.heap.size 3 (.int .i64 x.2)∧Boxed W (w.heap.size+1) 3 (.int .i64 (wd x.2)))∧Below w.heap.size w W)
  (OwnFrom.and (Own.from (fun s A B row hs hg hr=>⟨hs.1,boxed_kept hs.2.1 hg hr,boxed_kept hs.2.2 hg hr⟩) _) (ownFrom_below (Nat.le_refl _) (by simp;omega)))
  (fun c=>OwnFrom.and (Own.from (fun s A B row hs hg hr=>by obtain ⟨hc,x,hx,h1,h2⟩:=hs;exact ⟨hc,x,hx,boxed_kept h1 hg hr,boxed_kept h2 hg hr⟩) _) (ownFrom_below (Nat.le_refl _) (by simp;omega)))
  ⟨⟨rfl,(b0.alloc _).alloc _,b1.alloc _⟩,hB0⟩
  (fun x => { tmps:=#[.string s,undef,.pointer (some ⟨w.heap.size,0,none⟩),.pointer (some ⟨w.heap.size+1,0,none⟩),undef,.int .i64 x.1.2,.string s,.func (.func 179) #[] #[.pointer (some ⟨w.heap.size+1+1,0,none⟩)],.int .i64 x.1.1,.int .i64 x.1.2,undef,undef,undef],defers:=[] }) ?assign ?body ?done ?stop
 case assign=>
  intro l x W K hK
  gi_wp2
  exact hK
 case body=>
  rintro l pre x W ⟨⟨rfl,h1,h2⟩,hB⟩ _
  have c1:=h1.cell
  have f1:=h1.frozen
  have c2:=h2.cell
  have f2:=h2.frozen
  gi_wp2_with (refine ⟨trivial,?_⟩;gi_at_call 48;refine (CallsIn.inRound l (callsIn_wide.2 (width_any _ _))).mono ?_;rintro e w' ⟨rfl,rfl⟩)
  exact ⟨(KeepsOthers.setCell _ _ _).trans (KeepsOthers.setCell _ _ _),⟨rfl,x.1,rfl,(h1.set _).other (by omega) _,(h2.other (by omega) _).set _⟩,(hB.setCell (p:=⟨w.heap.size,0,none⟩) (Nat.le_refl _) _).setCell (p:=⟨w.heap.size+1,0,none⟩) (by simp) _⟩
 case done=>
  rintro D ys W hD hys ⟨⟨rfl,h1,h2⟩,hB⟩ hK
  have c1:=h1.cell
  have f1:=h1.frozen
  have c2:=h2.cell
  have f2:=h2.frozen
  gi_wp2
  have hK':=((KeepsOthers.setCell W ⟨w.heap.size,0,none⟩ (.int .i64 0)).trans (KeepsOthers.setCell _ ⟨w.heap.size+1,0,none⟩ (.int .i64 0))).same D _ hK rfl
  refine ⟨by simp,.inl ⟨_,_,rfl,run_takeDeferred hK',?_⟩⟩
  have g1:=(boxed_putObj ((h1.set (.int .i64 0)).other (B':=w.heap.size+1) (by omega) (.int .i64 0)) (.deferred none) hK' rfl).cell
  have g2:=(boxed_putObj ((h2.other (B':=w.heap.size) (by omega) (.int .i64 0)).set (.int .i64 0)) (.deferred none) hK' rfl).cell
  have hu:units s=[]:=hys.symm
  have hf:firstU s=(0,0):=by unfold firstU;rw [hu]
  refine ⟨.tuple #[.int .i64 0,.int .i64 0],?_,by rw [hf],((hB.setCell (p:=⟨w.heap.size,0,none⟩) (Nat.le_refl _) _).setCell (p:=⟨w.heap.size+1,0,none⟩) (by simp) _).trans (belowK_b (w:=w) (Nat.le_refl _) _ D _ _ (by simp at hD;omega) hK' rfl rfl)⟩
  simp [results,Tryz.f135,go_sem,g1,g2]
 case stop=>
  rintro D c pre W hD hpre ⟨⟨rfl,x,hx,h1,h2⟩,hB⟩ hK
  gi_wp2
  refine ⟨by simp,.inl ⟨_,_,rfl,run_takeDeferred hK,?_⟩⟩
  have g1:=(boxed_putObj h1 (.deferred none) hK rfl).cell
  have g2:=(boxed_putObj h2 (.deferred none) hK rfl).cell
  have hf:=firstU_of (s:=s) (x:=x) (by rw [←hx];exact hpre.1)
  refine ⟨.tuple #[.int .i64 x.2,.int .i64 (wd x.2)],?_,by rw [hf],hB.trans (belowK_b (w:=w) (Nat.le_refl _) W D _ _ (by simp at hD;omega) hK rfl rfl)⟩
  simp [results,Tryz.f135,go_sem,g1,g2]
end Go.Proofs
namespace Go.Proofs
open Go.RowKit Go.Shelf
set_option maxRecDepth 100000
attribute [local go_sem] Oper.semAt_some
abbrev tk (k a l u:Int) (t:ByteArray) (n:Int):Value := .agg #[.int .i64 k,.int .i64 a,.int .i64 l,.int .i64 u,.string t,.int .i64 n]
def TB (W:World) (B:Nat) (k a l u:Int) (t:ByteArray) (n:Int):Prop:=W.heap[B]? = some (.cells #[.int .i64 k,.int .i64 a,.int .i64 l,.int .i64 u,.string t,.int .i64 n] 52 (0,0))
theorem TB.new (W:World) (k a l u:Int) (t:ByteArray) (n:Int):TB (W.alloc (.cells #[.int .i64 k,.int .i64 a,.int .i64 l,.int .i64 u,.string t,.int .i64 n] 52)) W.heap.size k a l u t n:=World.alloc_heap_new _ _
theorem TB.lt {W:World} {B:Nat} {k a l u:Int} {t:ByteArray} {n:Int} (h:TB W B k a l u t n):B<W.heap.size:=(Array.getElem?_eq_some_iff.1 h).1
theorem TB.below {W W':World} {B m:Nat} {k a l u:Int} {t:ByteArray} {n:Int} (h:TB W B k a l u t n) (hb:Below m W W') (hm:B<m):TB W' B k a l u t n:=(hb.block B hm).trans h
theorem TB.cells {W:World} {B:Nat} {k a l u:Int} {t:ByteArray} {n:Int} (h:TB W B k a l u t n) :
 W.cell? ⟨B,0,none⟩=some (.int .i64 k)∧W.cell? ⟨B,1,none⟩=some (.int .i64 a)∧W.cell? ⟨B,2,none⟩=some (.int .i64 l)∧W.cell? ⟨B,3,none⟩=some (.int .i64 u)∧W.cell? ⟨B,4,none⟩=some (.string t)∧W.cell? ⟨B,5,none⟩=some (.int .i64 n):=by
 simp [World.cell?,show W.heap[B]? = _ from h]
theorem TB.frozen {W:World} {B:Nat} {k a l u:Int} {t:ByteArray} {n:Int} (h:TB W B k a l u t n) :
 W.frozen? ⟨B,0,none⟩=false∧W.frozen? ⟨B,1,none⟩=false∧W.frozen? ⟨B,2,none⟩=false∧W.frozen? ⟨B,3,none⟩=false∧W.frozen? ⟨B,4,none⟩=false∧W.frozen? ⟨B,5,none⟩=false:=by
 simp [World.frozen?,show W.heap[B]? = _ from h]
theorem cells_setS {w:World} {g:Nat} {cur:Array Value} {t:TypeId} {j:Nat} {u:Value} (h:w.heap[g]? = some (.cells cur t (0,0))):(w.setCell ⟨g,j,none⟩ u).heap[g]? = some (.cells (cur.setIfInBounds j u) t (0,0)):=by
 show (w.heap.modify g _)[g]? = _
 rw [Array.getElem?_modify,if_pos rfl,h]
 rfl
abbrev set6 (W:World) (B:Nat) (k a l u:Int) (t:ByteArray) (n:Int):World:=(((((W.setCell ⟨B,0,none⟩ (.int .i64 k)).setCell ⟨B,1,none⟩ (.int .i64 a)).setCell ⟨B,2,none⟩ (.int .i64 l)).setCell ⟨B,3,none⟩ (.int .i64 u)).setCell ⟨B,4,none⟩ (.string t)).setCell ⟨B,5,none⟩ (.int .i64 n)
theorem TB.set {W:World} {B:Nat} {k a l u:Int} {t:ByteArray} {n:Int} (h:TB W B k a l u t n) (k' a' l' u':Int) (t':ByteArray) (n':Int):TB (set6 W B k' a' l' u' t' n') B k' a' l' u' t' n':=by
 have:=cells_setS (j:=5) (u := .int .i64 n') (cells_setS (j:=4) (u := .string t') (cells_setS (j:=3) (u := .int .i64 u') (cells_setS (j:=2) (u := .int .i64 l') (cells_setS (j:=1) (u := .int .i64 a') (cells_setS (j:=0) (u := .int .i64 k') h)))))
 simpa [TB,set6] using this
theorem below_set6 {m:Nat} {w W:World} {B:Nat} (h:Below m w W) (hm:m≤B) (k a l u:Int) (t:ByteArray) (n:Int):Below m w (set6 W B k a l u t n):=
 (((((h.setCell (p:=⟨B,0,none⟩) hm _).setCell (p:=⟨B,1,none⟩) hm _).setCell (p:=⟨B,2,none⟩) hm _).setCell (p:=⟨B,3,none⟩) hm _).setCell (p:=⟨B,4,none⟩) hm _).setCell (p:=⟨B,5,none⟩) hm _
theorem ret_tk {fn:Func} {p q:Tmp} {W:World} {B:Nat} {tmps:Array Value} {k a l u:Int} {t:ByteArray} {n e:Int} {R:Ending→World→Prop} (hr:fn.results=#[.cell p 52,.tmp q]) (hp:tmps.getD p undef = .pointer (some ⟨B,0,none⟩)) (hq:tmps.getD q undef = .int .i64 e) (h:TB W B k a l u t n)
 (K:R (.returned (.tuple #[tk k a l u t n,.int .i64 e])) W):bodyPost Tryz.prog fn R Exit.ret { tmps:=tmps,defers:=[] } W:=by
 refine bodyPost_ret (v := .tuple #[tk k a l u t n,.int .i64 e]) ?_ rfl K
 rw [results_cell_tmp hr]
 simp only [hp,hq]
 obtain ⟨c0,c1,c2,c3,c4,c5⟩:=h.cells
 simp [go_sem,Result.andThen,c0,c1,c2,c3,c4,c5]
structure Tok where
 (k a l u:Int) (t:ByteArray) (n:Int)
def tok1 (x:Tok):List Value:=[.int .i64 x.k,.int .i64 x.a,.int .i64 x.l,.int .i64 x.u,.string x.t,.int .i64 x.n]
def ft (l:List Tok):List Value:=l.flatMap tok1
theorem ft_append (l m:List Tok):ft (l++m)=ft l++ft m:=by simp [ft]
theorem ft_one (l:List Tok):∀ u∈ft l,u.oneCell'=true:=by
 intro u hu
 simp only [ft,List.mem_flatMap] at hu
 obtain ⟨x,_,hx⟩:=hu
 simp only [tok1,List.mem_cons,List.not_mem_nil,or_false] at hx
 rcases hx with rfl | rfl | rfl | rfl | rfl | rfl <;> rfl
def OwnT (w:World) (base:Nat) (v:Value) (l:List Tok):Prop:=w.ownsRow base 52 6 v l.length (ft l)
theorem OwnT.nil (w:World) (base:Nat):OwnT w base (.slice none 0 0) []:=World.ownsRow_nil _ _ _ _
theorem OwnT.alloc {w:World} {base:Nat} {v:Value} {l:List Tok} (h:OwnT w base v l) (o:Obj):OwnT (w.alloc o) base v l:=World.ownsRow.alloc h o
theorem OwnT.kept {w w':World} {row:Option Nat} {base:Nat} {v:Value} {l:List Tok} (h:OwnT w base v l) (hg:w.grownBy w' row) (hne:v.ownBlock=none∨v.ownBlock≠row):OwnT w' base v l:=World.ownsRow.kept h hg hne
theorem OwnT.le {w:World} {base base':Nat} {v:Value} {l:List Tok} (h:OwnT w base v l) (hb:base'≤base):OwnT w base' v l:=Joins.ownsRow_le h hb
theorem OwnT.below {w w':World} {base n:Nat} {v:Value} {l:List Tok} (h:OwnT w base v l) (hb:Below n w w') (hn:w.heap.size≤n):OwnT w' base v l:=by
 refine ⟨h.1,?_⟩
 rcases h.2 with h | ⟨g,cap,cur,rfl,h1,h2,h3⟩
 · exact .inl h
 · have:g<w.heap.size:=(Array.getElem?_eq_some_iff.1 h2).1
   exact .inr ⟨g,cap,cur,rfl,h1,(hb.block g (by omega)).trans h2,h3⟩
theorem info47:(Tryz.prog.info? 52).map (fun i=>(i.zero,i.size,i.bytes))=some (some (.agg #[.int .i64 0,.int .i64 0,.int .i64 0,.int .i64 0,.string ⟨#[]⟩,.int .i64 0]),6,56):=by kernel_rfl
theorem info_parts {α:Type} {i:Option α} {β γ δ:Type} {f:α→β} {g:α→γ} {h:α→δ} {b:β} {c:γ} {d:δ} (e:i.map (fun x=>(f x,g x,h x))=some (b,c,d)):∃ x,i=some x∧f x=b∧g x=c∧h x=d:=by
 cases i with
 | none=>cases e
 | some x=>simp at e;exact ⟨x,rfl,e.1,e.2.1,e.2.2⟩
theorem ownT_below {w w':World} {base:Nat} {v:Value} {l:List Tok} (h:OwnT w base v l) (hb:base≤w.heap.size) (hg:w.grownBy w' v.ownBlock):Below base w w':=(Below.refl _ w).grown hg hb (fun k hk=>(World.ownsRow.lt h k hk).1)
theorem push_T {ops:Array Oper} {rest:List Oper} {o:Oper} {a:Act} {Q:Exit→Act→World→Prop} {w:World} (hgd:o.guard=none) (s x:Operand) (t:TypeId)
 (ho:o.op = .call { callee := .builtin .append,args:=#[s,x],argTypes:=#[t,t] }) (ht:Tryz.prog.underlying t=some (.slice 52))
 (base:Nat) (v:Value) (l:List Tok) (hs:a.eval s=v) (hown:OwnT w base v l) (g c:Nat) (y:Tok) (hx:a.eval x = .slice (some ⟨g,0,none⟩) 1 c)
 (hy:TB w g y.k y.a y.l y.u y.t y.n) (hl:l.length+1≤2199023255552) (hbase:base≤w.heap.size)
 (h:∀ v' w',OwnT w' base v' (l++[y])→w.grownBy w' v.ownBlock→Below base w w'→wpList Tryz.prog ops Q rest (a.put o.dst v') w'):wpList Tryz.prog ops Q (o::rest) a w:=by
 obtain ⟨i0,hi,hz0,hz1,hz2⟩:=info_parts info47
 obtain ⟨c0,c1,c2,c3,c4,c5⟩:=hy.cells
 refine wpList_append_own w hgd s x t ho base 52 i0 _ 6 56 ht hi hz0 hz1 hz2 rfl (by decide) v l.length (ft l) hs hown ⟨g,0,none⟩ 1 c (ft [y]) hx rfl ?_ (ft_one _) (by unfold maxLen;omega) (by omega) hbase (fun v' w' h2 h3 _=>h v' w' ?_ h3 (ownT_below hown hbase h3))
 · intro j u hj
   match j,hj with
   | 0,hj=>simp [ft,tok1] at hj;subst hj;exact c0
   | 1,hj=>simp [ft,tok1] at hj;subst hj;exact c1
   | 2,hj=>simp [ft,tok1] at hj;subst hj;exact c2
   | 3,hj=>simp [ft,tok1] at hj;subst hj;exact c3
   | 4,hj=>simp [ft,tok1] at hj;subst hj;exact c4
   | 5,hj=>simp [ft,tok1] at hj;subst hj;exact c5
 · unfold OwnT
   rw [ft_append,List.length_append]
   exact h2
def FB (W:World) (B:Nat) (a e:Int):Prop:=W.heap[B]? = some (.cells #[.int .i64 a,.int .i64 e] 32 (0,0))
theorem FB.lt {W:World} {B:Nat} {a e:Int} (h:FB W B a e):B<W.heap.size:=(Array.getElem?_eq_some_iff.1 h).1
theorem FB.below {W W':World} {B m:Nat} {a e:Int} (h:FB W B a e) (hb:Below m W W') (hm:B<m):FB W' B a e:=(hb.block B hm).trans h
theorem FB.cells {W:World} {B:Nat} {a e:Int} (h:FB W B a e):W.cell? ⟨B,0,none⟩=some (.int .i64 a)∧W.cell? ⟨B,1,none⟩=some (.int .i64 e)∧W.frozen? ⟨B,0,none⟩=false∧W.frozen? ⟨B,1,none⟩=false:=by
 simp [World.cell?,World.frozen?,show W.heap[B]? = _ from h]
theorem FB.allocs {W:World} {B:Nat} {a e:Int} (h:FB W B a e) (o:Obj):FB (W.alloc o) B a e:=(Below.heap_alloc _ _ _ h.lt).trans h
theorem grown_setB (W:World) (b j:Nat) (v:Value):W.grownBy (W.setCell ⟨b,j,none⟩ v) (some b):=
 ⟨rfl,rfl,rfl,by simp,fun k _ hk=>by
  show (W.heap.modify b _)[k]? = _
  rw [Array.getElem?_modify,if_neg (fun e=>hk (by rw [e]))]⟩
theorem ownT_apart {W:World} {B:Nat} {v:Value} {l:List Tok} (h:OwnT W (B+1) v l):v.ownBlock=none∨v.ownBlock≠some B:=by
 cases e:v.ownBlock with
 | none=>exact .inl rfl
 | some k=>exact .inr (fun e2=>by have e3:=Option.some.inj e2;have:=(World.ownsRow.lt h k e).1;omega)
theorem formT {w:World} {b:Nat} {v:Value} {l:List Tok} (h:OwnT w b v l):∃ A c,v = .slice A l.length c:=by
 rcases h.2 with ⟨e,h0⟩ | ⟨g,cap,cur,e,_⟩
 · subst e;exact ⟨none,0,by rw [h0]⟩
 · exact ⟨_,_,e⟩
theorem FB.new (W:World) (a e:Int):FB (W.alloc (.cells #[.int .i64 a,.int .i64 e] 32)) W.heap.size a e:=World.alloc_heap_new _ _
theorem FB.set {W:World} {B:Nat} {a e:Int} (h:FB W B a e) (a' e':Int):FB ((W.setCell ⟨B,0,none⟩ (.int .i64 a')).setCell ⟨B,1,none⟩ (.int .i64 e')) B a' e':=by
 have:=cells_setS (j:=1) (u := .int .i64 e') (cells_setS (j:=0) (u := .int .i64 a') h)
 simpa [FB] using this
end Go.Proofs
