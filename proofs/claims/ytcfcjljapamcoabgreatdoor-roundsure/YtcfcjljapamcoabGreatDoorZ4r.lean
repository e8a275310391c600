/-
  back 38: the rule that undoes a way's.
-/
import Derived.Test.YtcfcjljapamcoabGreatDoorZ3r
import Derived.Test.YtcfcjljapamcoabGreatDoorYqr
namespace Go.Proofs
open Go.RowKit Go.Shelf
set_option maxRecDepth 100000
attribute [local go_sem] Oper.semAt_some
structure PV where
 c:Pc
 tv:Value
def PV.cs (x:PV):List Value:=[.int .i64 x.c.k,.int .i64 x.c.u,.int .i64 x.c.y,x.tv]
def pvcells (ps:List PV):List Value:=ps.flatMap PV.cs
theorem PV.len (x:PV):x.cs.length=4:=rfl
theorem pvcells_at {ps:List PV} : ∀ {j:Nat} (hj:j<ps.length) {i:Nat} (_:i<4),(pvcells ps)[j*4+i]? = (ps[j].cs)[i]? := by
 induction ps with
 | nil=>intro j hj;cases hj
 | cons x ps ih=>
  intro j hj i hi
  show (x.cs++pvcells ps)[j*4+i]? = _
  match j,hj with
  | 0,_=>
   rw [List.getElem?_append_left (by rw [PV.len];omega)]
   simp
  | j+1,hj=>
   rw [List.getElem?_append_right (by rw [PV.len];omega),PV.len,show (j+1)*4+i - 4=j*4+i by omega]
   have h2:j<ps.length:=by simpa using hj
   simpa using ih h2 hi
theorem pvcells_snoc (ps:List PV) (x:PV):pvcells (ps++[x])=pvcells ps++x.cs:=by simp [pvcells]
structure OwnPV (w0 w:World) (base:Nat) (v:Value) (ps:List PV):Prop where
 row:w.ownsRow base 58 4 v ps.length (pvcells ps)
 ok:∀ x∈ps,Rs w0 x.tv x.c.tl
 bel:Below w0.heap.size w0 w
 lo:w0.heap.size≤base
theorem OwnPV.below {w0 w w':World} {base n:Nat} {v:Value} {ps:List PV} (h:OwnPV w0 w base v ps) (hb:Below n w w') (hn:w.heap.size≤n):OwnPV w0 w' base v ps:=
 ⟨ownsRow_below8 h.row hb hn,h.ok,h.bel.trans (hb.mono (Nat.le_trans h.bel.size hn)),h.lo⟩
theorem OwnPV.form {w0 w:World} {base:Nat} {v:Value} {ps:List PV} (h:OwnPV w0 w base v ps):∃ a c,v = .slice a ps.length c:=by
 rcases h.row.2 with ⟨rfl,e⟩ | ⟨g,cap,cur,rfl,_⟩
 · exact ⟨none,0,by rw [e]⟩
 · exact ⟨_,cap,rfl⟩
theorem pv_one {w0:World} {x:PV} (h:Rs w0 x.tv x.c.tl):∀ u∈x.cs,u.oneCell'=true:=by
 intro u hu
 have h1:=isSl_one h.sl
 simp only [PV.cs,List.mem_cons,List.not_mem_nil,or_false] at hu
 rcases hu with rfl | rfl | rfl | rfl
 · rfl
 · rfl
 · rfl
 · exact h1
theorem step_P {ops:Array Oper} {o:Oper} {a:Act} {K:Act→World→Prop} {Q:Exit→Act→World→Prop} {E:Prop} {w:World} (hgd:o.guard=none) (s x:Operand)
 (ho:o.op = .call { callee := .builtin .append,args:=#[s,x],argTypes:=#[59,59] })
 (w0:World) (base:Nat) (v:Value) (ps:List PV) (hs:a.eval s=v) (hown:OwnPV w0 w base v ps) (g c:Nat) (y:PV) (hx:a.eval x = .slice (some ⟨g,0,none⟩) 1 c)
 (hy:w.heap[g]? = some (.cells y.cs.toArray 58 (0,0))) (hk:Rs w0 y.tv y.c.tl) (hl:ps.length+1≤1000000) (hbase:base≤w.heap.size)
 (h:∀ A c' w',OwnPV w0 w' base (.slice A (ps.length+1) c') (ps++[y])→w.grownBy w' v.ownBlock→K (a.put o.dst (.slice A (ps.length+1) c')) w') :
 if Region.wanted o (yielded ops a.tmps)=true then Oper.wp Tryz.prog o a w K Q else E:=by
 obtain ⟨i0,hi,hz0,hz1,hz2⟩:=info_parts inf66
 refine step_append_lies w hgd s x 59 ho base 58 i0 _ 4 48 Tryz.underlying59 hi hz0 hz1 hz2 rfl (by decide) v ps.length (pvcells ps) hs hown.row ⟨g,0,none⟩ 1 c y.cs hx (PV.len y) ?_ (pv_one hk) (by decide) (by unfold maxLen;omega) (by omega) hbase _ rfl (fun g' cap w' k2 k3 _ _ => ?_)
 · intro j u hj
   rw [add_zero_at]
   simp only [World.cell?,hy]
   simpa using hj
 · refine h _ _ w' ⟨by rw [List.length_append,pvcells_snoc];exact k2,fun z hz => ?_,hown.bel.grown k3 hown.bel.size fun k hk=>Nat.le_trans hown.lo (World.ownsRow.lt hown.row k hk).1,hown.lo⟩ k3
   rcases List.mem_append.1 hz with hz | hz
   · exact hown.ok z hz
   · simp only [List.mem_singleton] at hz
     subst hz
     exact hk
theorem OwnPV.rob {w0 w:World} {base n:Nat} {v:Value} {ps:List PV} (h:OwnPV w0 w base v ps) (hn:n≤base):Rob (fun k=>w0.heap.size≤k∧k<n) w fun W=>PR W v (ps.map PV.c):=fun W hf=>by
 rcases h.row.2 with ⟨rfl,e⟩ | ⟨g,cap,cur,rfl,hg,k2,hc,_⟩
 · have:ps=[]:=List.eq_nil_of_length_eq_zero (by omega)
   subst this
   exact ⟨none,0,rfl,Nat.le_refl _,.inl rfl⟩
 · refine ⟨_,cap,by rw [List.length_map],by rw [List.length_map];exact hc,.inr ⟨g,0,rfl,fun j hj => ?_⟩⟩
   have hj':j<ps.length:=by simpa using hj
   have e:(ps.map PV.c)[j]'hj=ps[j].c:=by simp
   rw [e]
   have hx:=h.ok _ (List.getElem_mem hj')
   have hgl:g<w.heap.size:=(Array.getElem?_eq_some_iff.1 k2).1
   have cel:∀ (i:Nat) (u:Value),(ps[j].cs)[i]? = some u→W.cell? ⟨g,0+j*4+i,none⟩=some u:=fun i u hu=>by
    have hi:i<4:=by have:=(List.getElem?_eq_some_iff.1 hu).1;simpa [PV.cs] using this
    have:=World.ownsRow.cells h.row rfl (j*4+i) u (by rw [pvcells_at hj' hi];exact hu)
    rw [add_zero_at] at this
    rw [Nat.zero_add]
    exact (cell_eqb (a:=⟨g,j*4+i,none⟩) (hf.block g hgl fun e=>by omega)).trans this
   refine ⟨ps[j].tv,cel 0 _ rfl,cel 1 _ rfl,cel 2 _ rfl,cel 3 _ rfl,hx.same fun g2 o2 n2 c2 e2 hn2 hg2 => ?_⟩
   exact (hf.block g2 (Nat.lt_of_lt_of_le hg2 h.bel.size) fun e=>by omega).trans (h.bel.block g2 hg2)
def resT (r:Rl) (k:Nat):List Pc:=(List.range k).map fun p=>restP r (r.key.getD p []) p
def turnR (r:Rl):Rl:=⟨r.bg,r.en,r.key.length,r.ante,img r,r.post,resT r r.key.length⟩
theorem resT_succ (r:Rl) (k:Nat):resT r (k+1)=resT r k++[restP r (r.key.getD k []) k]:=by
 unfold resT
 rw [List.range_succ,List.map_append]
 rfl
structure BkI (w0 W3 wr:World) (B:Nat) (r:Rl) (av iv pv xv:Value) (n:Nat) (ps:List PV):Prop where
 own:OwnPV w0 wr (B+1) xv ps
 blk:wr.heap[B]? = some (.cells #[.bool r.bg,av,iv,pv,.bool r.en,xv,.int .i64 n] 61 (0,0))
 bel:Below B W3 wr
theorem BkI.below {w0 W3 wr w':World} {B:Nat} {r:Rl} {av iv pv xv:Value} {n:Nat} {ps:List PV} (h:BkI w0 W3 wr B r av iv pv xv n ps) (hb:Below wr.heap.size wr w'):BkI w0 W3 w' B r av iv pv xv n ps:=
 ⟨h.own.below hb (Nat.le_refl _),(hb.block B (blk_lt h.blk)).trans h.blk,h.bel.trans (hb.mono (Nat.le_of_lt (blk_lt h.blk)))⟩
theorem BkI.more {w0 W3 wr w8:World} {B:Nat} {r:Rl} {av iv pv xv:Value} {n:Nat} {ps:List PV} (h:BkI w0 W3 wr B r av iv pv xv n ps) (hg:wr.grownBy w8 xv.ownBlock) {xv':Value} {y:PV} (hO:OwnPV w0 w8 (B+1) xv' (ps++[y])) (h0:w0.heap.size≤B) :
 w8.cell? ⟨B,5,none⟩=some xv∧w8.frozen? ⟨B,5,none⟩=false∧BkI w0 W3 (w8.setCell ⟨B,5,none⟩ xv') B r av iv pv xv' n (ps++[y]):=by
 have hlo:=World.ownsRow.lt h.own.row
 have hbk:w8.heap[B]? = some (.cells #[.bool r.bg,av,iv,pv,.bool r.en,xv,.int .i64 n] 61 (0,0)):=(hg.block B (blk_lt h.blk) fun e=>by have:=(hlo B e.symm).1;omega).trans h.blk
 have hne:∀ g,g≠B→(w8.setCell ⟨B,5,none⟩ xv').heap[g]? = w8.heap[g]? := fun g hg=>Below.heap_setCell w8 ⟨B,5,none⟩ xv' g hg
 refine ⟨by rw [cell_of hbk];rfl,free_of hbk,⟨⟨hO.row.1,?_⟩,hO.ok,hO.bel.setCell h0 _,hO.lo⟩,by rw [set_heap hbk];rfl,?_⟩
 · refine hO.row.2.imp id ?_
   rintro ⟨g,cap,cur,e1,k1,k2,k3⟩
   exact ⟨g,cap,cur,e1,k1,(hne g (by omega)).trans k2,k3⟩
 · exact (h.bel.grown hg (Nat.le_trans (Nat.le_of_lt (blk_lt h.blk)) (Nat.le_refl _)) fun k hk=>by have:=(hlo k hk).1;omega).setCell (Nat.le_refl _) _
def BackQ (w0 w:World) (r:Rl) (av pv iv:Value) (e:Ending) (w':World):Prop:=∃ y1 y2 y3,e = .returned (.agg #[.bool r.bg,av,iv,pv,.bool r.en,.slice y1 y2 y3,.int .i64 r.key.length])∧Rob (fun k=>w0.heap.size≤k∧k<w.heap.size) w' (fun W=>PR W (.slice y1 y2 y3) (resT r r.key.length))∧Below w.heap.size w w'
theorem ret_rl38 {tmps:Array Value} {W:World} {B:Nat} {a b c d e f g:Value} {R:Ending→World→Prop} (hp:tmps.getD 2 undef = .pointer (some ⟨B,0,none⟩)) (hb:W.heap[B]? = some (.cells #[a,b,c,d,e,f,g] 61 (0,0)))
 (K:R (.returned (.agg #[a,b,c,d,e,f,g])) W):bodyPost Tryz.prog Tryz.f41 R Exit.ret { tmps:=tmps,defers:=[] } W:=
 bodyPost_ret (v := .agg #[a,b,c,d,e,f,g]) (results_cell_row rfl tmps W B 61 _ _ _ hp hb Tryz.underlying61 rfl (by kernel_rfl)) rfl K
theorem set_seven {W:World} {B:Nat} {a b c d e f g a' b' c' d' e' f' g':Value} (h:W.heap[B]? = some (.cells #[a,b,c,d,e,f,g] 61 (0,0))):(((((((W.setCell ⟨B,0,none⟩ a').setCell ⟨B,1,none⟩ b').setCell ⟨B,2,none⟩ c').setCell ⟨B,3,none⟩ d').setCell ⟨B,4,none⟩ e').setCell ⟨B,5,none⟩ f').setCell ⟨B,6,none⟩ g').heap[B]? = some (.cells #[a',b',c',d',e',f',g'] 61 (0,0)):=by
 rw [set_heap (set_heap (set_heap (set_heap (set_heap (set_heap (set_heap h))))))]
 rfl
theorem set_seven_fr (W:World) (B:Nat) (a' b' c' d' e' f' g':Value):Fr W (((((((W.setCell ⟨B,0,none⟩ a').setCell ⟨B,1,none⟩ b').setCell ⟨B,2,none⟩ c').setCell ⟨B,3,none⟩ d').setCell ⟨B,4,none⟩ e').setCell ⟨B,5,none⟩ f').setCell ⟨B,6,none⟩ g') fun k=>k=B:=
 ((((((fr_set W B 0 a').trans (fr_set _ B 1 b') fun _ _ e=>e).trans (fr_set _ B 2 c') fun _ _ e=>e).trans (fr_set _ B 3 d') fun _ _ e=>e).trans (fr_set _ B 4 e') fun _ _ e=>e).trans (fr_set _ B 5 f') fun _ _ e=>e).trans (fr_set _ B 6 g') fun _ _ e=>e
end Go.Proofs
