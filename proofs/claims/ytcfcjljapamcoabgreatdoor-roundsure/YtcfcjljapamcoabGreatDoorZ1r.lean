/-
  A row of ways of the call's own, way by way.
-/
import Derived.Deep.AppendLies
import Derived.Test.YtcfcjljapamcoabGreatDoorZ0r
import Derived.Test.YtcfcjljapamcoabGreatDoorYnr
namespace Go.Proofs
open Go.RowKit Go.Shelf
set_option maxRecDepth 100000
attribute [local go_sem] Oper.semAt_some
theorem iinfo74:(Tryz.prog.info? 79).map (fun i=>(i.zero,i.size,i.bytes))=some (some (.agg #[.bool false,.slice none 0 0,.slice none 0 0,.slice none 0 0,.bool false,.slice none 0 0,.int .i64 0,.slice none 0 0]),8,144):=by kernel_rfl
structure WV where
 r:Rl
 av:Value
 kv:Value
 pv:Value
 rv:Value
 iv:Value
def WV.cs (x:WV):List Value:=wyv x.r x.av x.kv x.pv x.rv x.iv
def wcells (ws:List WV):List Value:=ws.flatMap WV.cs
theorem WV.len (x:WV):x.cs.length=8:=rfl
theorem wcells_at {ws:List WV} : ∀ {j:Nat} (hj:j<ws.length) {i:Nat} (_:i<8),(wcells ws)[j*8+i]? = (ws[j].cs)[i]? := by
 induction ws with
 | nil=>intro j hj;cases hj
 | cons x ws ih=>
  intro j hj i hi
  show (x.cs++wcells ws)[j*8+i]? = _
  match j,hj with
  | 0,_=>
   rw [List.getElem?_append_left (by rw [WV.len];omega)]
   simp
  | j+1,hj=>
   rw [List.getElem?_append_right (by rw [WV.len];omega),WV.len,show (j+1)*8+i - 8=j*8+i by omega]
   have h2:j<ws.length:=by simpa using hj
   simpa using ih h2 hi
theorem wcells_snoc (ws:List WV) (x:WV):wcells (ws++[x])=wcells ws++x.cs:=by simp [wcells]
def WOk (w0 w:World) (X:Nat→Prop) (x:WV):Prop:=RR w0 x.av x.kv x.pv x.rv x.r∧Rob X w fun W=>SR W x.iv (img x.r)
structure OwnW (w0 w:World) (v:Value) (ws:List WV):Prop where
 row:w.ownsRow w0.heap.size 79 8 v ws.length (wcells ws)
 ok:∀ x∈ws,WOk w0 w (fun k=>v.ownBlock=some k) x
 bel:Below w0.heap.size w0 w
theorem ownsRow_below8 {w w':World} {base n:Nat} {e:TypeId} {sz:Nat} {v:Value} {k:Nat} {xs:List Value} (h:w.ownsRow base e sz v k xs) (hb:Below n w w') (hn:w.heap.size≤n):w'.ownsRow base e sz v k xs:=by
 refine ⟨h.1,?_⟩
 rcases h.2 with h | ⟨g,cap,cur,rfl,h1,h2,h3⟩
 · exact .inl h
 · have:g<w.heap.size:=(Array.getElem?_eq_some_iff.1 h2).1
   exact .inr ⟨g,cap,cur,rfl,h1,(hb.block g (by omega)).trans h2,h3⟩
theorem OwnW.nil {w0 w:World} (hb:Below w0.heap.size w0 w):OwnW w0 w (.slice none 0 0) []:=⟨World.ownsRow_nil _ _ _ _,by simp,hb⟩
theorem OwnW.below {w0 w w':World} {v:Value} {ws:List WV} (h:OwnW w0 w v ws) (hb:Below w.heap.size w w'):OwnW w0 w' v ws:=
 ⟨ownsRow_below8 h.row hb (Nat.le_refl _),fun x hx=>⟨(h.ok x hx).1,(h.ok x hx).2.fr (fr_below hb (Nat.le_refl _) fun _=>False) fun _ _ e=>e.elim⟩,h.bel.trans (hb.mono h.bel.size)⟩
theorem OwnW.form {w0 w:World} {v:Value} {ws:List WV} (h:OwnW w0 w v ws):∃ a c,v = .slice a ws.length c:=by
 rcases h.row.2 with ⟨rfl,e⟩ | ⟨g,cap,cur,rfl,_⟩
 · exact ⟨none,0,by rw [e]⟩
 · exact ⟨_,cap,rfl⟩
theorem OwnW.push {w0 w w':World} {v v':Value} {ws:List WV} {x:WV} (h:OwnW w0 w v ws) (hx:WOk w0 w (fun k=>v.ownBlock=some k) x) (hr:w'.ownsRow w0.heap.size 79 8 v' (ws.length+1) (wcells ws++x.cs)) (hg:w.grownBy w' v.ownBlock) (hv:v'.ownBlock=v.ownBlock∨v'.ownBlock=some w.heap.size):OwnW w0 w' v' (ws++[x]):=by
 have hok:∀ y,WOk w0 w (fun k=>v.ownBlock=some k) y→WOk w0 w' (fun k=>v'.ownBlock=some k) y:=fun y hy=>by
  refine ⟨hy.1,?_⟩
  have h1:Rob (fun k=>v.ownBlock=some k∨w.heap.size≤k) w fun W=>SR W y.iv (img y.r):=hy.2.less fun k hk e=>e.elim id fun e=>by omega
  have h2:=h1.fr (fr_by hg) fun k _ e => .inl e
  refine h2.less fun k hk e => ?_
  rcases hv with hv | hv
  · exact .inl (by rw [←hv];exact e)
  · rw [hv] at e
    injection e with e
    exact .inr (by omega)
 refine ⟨by rw [List.length_append,wcells_snoc];exact hr,fun y hy => ?_,h.bel.grown hg h.bel.size fun k hk=>(World.ownsRow.lt h.row k hk).1⟩
 rcases List.mem_append.1 hy with hy | hy
 · exact hok y (h.ok y hy)
 · simp only [List.mem_singleton] at hy
   subst hy
   exact hok y hx
theorem OwnW.wr {w0 w:World} {v:Value} {ws:List WV} (h:OwnW w0 w v ws):WyR w v (ws.map WV.r):=by
 rcases h.row.2 with ⟨rfl,e⟩ | ⟨g,cap,cur,rfl,_,_,hc,_⟩
 · have:ws=[]:=List.eq_nil_of_length_eq_zero (by omega)
   subst this
   exact ⟨none,0,rfl,Nat.le_refl _,.inl rfl⟩
 · refine ⟨_,cap,by rw [List.length_map],by rw [List.length_map];exact hc,.inr ⟨g,0,rfl,fun j hj => ?_⟩⟩
   have hj':j<ws.length:=by simpa using hj
   have e:(ws.map WV.r)[j]'hj=ws[j].r:=by simp
   rw [e]
   have hx:=h.ok _ (List.getElem_mem hj')
   refine ⟨ws[j].av,ws[j].kv,ws[j].pv,ws[j].rv,ws[j].iv,fun i u hu => ?_,hx.1.below h.bel (Nat.le_refl _),hx.2.now⟩
   have hi:i<8:=by have:=(List.getElem?_eq_some_iff.1 hu).1;simpa [wyv] using this
   have:=World.ownsRow.cells h.row rfl (j*8+i) u (by rw [wcells_at hj' hi];exact hu)
   rw [add_zero_at] at this
   rw [Nat.zero_add]
   exact this
theorem wyv_one {w0:World} {x:WV} {W:World} (h:RR w0 x.av x.kv x.pv x.rv x.r) (hi:SR W x.iv (img x.r)):∀ u∈x.cs,u.oneCell'=true:=by
 intro u hu
 have h1:=isSl_one h.a.sl
 have h2:=isSl_one h.k.sl
 have h3:=isSl_one h.p.sl
 have h4:=isSl_one h.r.sl
 have h5:=isSl_one hi.sl
 simp only [WV.cs,wyv,List.mem_cons,List.not_mem_nil,or_false] at hu
 rcases hu with rfl | rfl | rfl | rfl | rfl | rfl | rfl | rfl
 · rfl
 · exact h1
 · exact h2
 · exact h3
 · rfl
 · exact h4
 · rfl
 · exact h5
theorem step_W {ops:Array Oper} {o:Oper} {a:Act} {K:Act→World→Prop} {Q:Exit→Act→World→Prop} {E:Prop} {w:World} (hgd:o.guard=none) (s x:Operand)
 (ho:o.op = .call { callee := .builtin .append,args:=#[s,x],argTypes:=#[62,62] })
 (w0:World) (v:Value) (ws:List WV) (hs:a.eval s=v) (hown:OwnW w0 w v ws) (g c:Nat) (y:WV) (hx:a.eval x = .slice (some ⟨g,0,none⟩) 1 c)
 (hy:w.heap[g]? = some (.cells y.cs.toArray 79 (0,0))) (hk:WOk w0 w (fun k=>v.ownBlock=some k) y) (hl:ws.length+1≤1000000)
 (h:∀ A c' w',OwnW w0 w' (.slice A (ws.length+1) c') (ws++[y])→K (a.put o.dst (.slice A (ws.length+1) c')) w') :
 if Region.wanted o (yielded ops a.tmps)=true then Oper.wp Tryz.prog o a w K Q else E:=by
 obtain ⟨i0,hi,hz0,hz1,hz2⟩:=info_parts iinfo74
 refine step_append_lies w hgd s x 62 ho w0.heap.size 79 i0 _ 8 144 Tryz.underlying62 hi hz0 hz1 hz2 rfl (by decide) v ws.length (wcells ws) hs hown.row ⟨g,0,none⟩ 1 c y.cs hx (WV.len y) ?_ (wyv_one hk.1 hk.2.now) (by decide) (by unfold maxLen;omega) (by omega) hown.bel.size _ rfl (fun g' cap w' k2 k3 k5 _ => ?_)
 · intro j u hj
   rw [add_zero_at]
   simp only [World.cell?,hy]
   simpa using hj
 · refine h _ _ w' (hown.push hk k2 k3 ?_)
   rcases k5 with h | h
   · exact .inl h.symm
   · exact .inr (by rw [h];rfl)
end Go.Proofs
