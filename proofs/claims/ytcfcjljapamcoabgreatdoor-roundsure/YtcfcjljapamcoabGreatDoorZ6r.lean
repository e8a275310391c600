/-
  A turned rule may be; rows of rules of the call's own.
-/
import Derived.Test.YtcfcjljapamcoabGreatDoorZ5r
import Derived.Test.YtcfcjljapamcoabGreatDoorMgjr
namespace Go.Proofs
open Go.RowKit Go.Shelf
set_option maxRecDepth 100000
attribute [local go_sem] Oper.semAt_some
theorem results_cell_tmp2 {fn:Func} {p u v:Tmp} {ty:TypeId} (h:fn.results=#[.cell p ty,.tmp u,.tmp v]) (tmps:Array Value) (w:World) (g:Nat) (x:Value)
 (hp:tmps.getD p undef = .pointer (some ⟨g,0,none⟩)) (hl:(loadVar ty ⟨g,0,none⟩).run Tryz.prog w = .ok x w) :
 (results fn tmps).run Tryz.prog w = .ok (.tuple #[x,tmps.getD u undef,tmps.getD v undef]) w:=by
 have hp':tmps[p]?.getD undef = .pointer (some ⟨g,0,none⟩):=by simpa using hp
 simp [results,h,hp',asAddr,hl]
theorem load_pass {w:World} {g:Nat} {x:Value} {fr:Nat × Nat} (hg:w.heap[g]? = some (.cells #[x] 24 fr)):(loadVar 24 ⟨g,0,none⟩).run Tryz.prog w = .ok (.agg #[x]) w:=
 run_loadVar_row w g 24 24 #[x] fr _ hg Tryz.underlying24 rfl (by kernel_rfl)
theorem okS_low {S:List (Int × Int)} (h:okS S=true):wd (rg S 0).1≠0:=by
 have hl:0<S.length:=by
  have:=lenU_ok h
  rcases S with _ | ⟨x,S⟩
  · simp [lenU,tot] at this
  · simp
 have hg:=((validB_iff S).1 (okS_valid h)).2
 have hw:=hg.1 _ (List.getElem_mem hl)
 rw [rg_lt hl]
 exact wd_unit (by
  obtain ⟨h1,h2⟩:=hw
  unfold isU
  omega)
theorem spk_one {r:Rl} {p:Nat} {n:Int} (h:n∈spk r p r.res.length):∃ (k:Nat) (q:Pc),n=k∧k<r.res.length∧r.res[k]? = some q∧q.k≠1∧q.y=p:=by
 unfold spk at h
 obtain ⟨k,hk,rfl⟩:=List.mem_map.1 h
 obtain ⟨h1,h2⟩:=List.mem_filter.1 hk
 have h3:=List.mem_range.1 h1
 rw [List.getElem?_eq_getElem h3] at h2
 simp only [Bool.and_eq_true,decide_eq_true_eq] at h2
 exact ⟨k,_,rfl,h3,List.getElem?_eq_getElem h3,h2.1,h2.2⟩
structure Bk (r:Rl):Prop where
 i0:0<(img r).length
 i8:(img r).length≤8
 cu:(img r).length≤r.cu
 st:(img r).any (metB straysL)=false
 tl:telB r r.key.length=true
theorem wroE_bk {r:Rl} {core:List (Int × Int)} (h:wroE r core=0):Bk r∧r.ante.any (metB core)=false∧r.post.any (metB core)=false:=by
 unfold wroE at h
 by_cases h1:(img r).length=0∨r.cu<(img r).length∨(img r).any (metB straysL)=true
 · rw [if_pos h1] at h;cases h
 rw [if_neg h1] at h
 by_cases h2:8<(img r).length
 · rw [if_pos h2] at h;cases h
 rw [if_neg h2] at h
 by_cases h3:telB r r.key.length=false
 · rw [if_pos h3] at h;cases h
 rw [if_neg h3] at h
 by_cases h4:r.ante.any (metB core)=true∨r.post.any (metB core)=true
 · rw [if_pos h4] at h;cases h
 refine ⟨⟨by omega,by omega,by omega,?_,by simpa using h3⟩,?_,?_⟩
 · cases e:(img r).any (metB straysL) with
   | false=>rfl
   | true=>exact absurd (.inr (.inr e)) h1
 · cases e:r.ante.any (metB core) with
   | false=>rfl
   | true=>exact absurd (.inl e) h4
 · cases e:r.post.any (metB core) with
   | false=>rfl
   | true=>exact absurd (.inr e) h4
theorem img_len (r:Rl):(img r).length=r.res.length:=by simp [img]
theorem resT_len (r:Rl) (k:Nat):(resT r k).length=k:=by simp [resT]
theorem rest_pc {r:Rl} (ho:Ok r) (hb:Bk r) {p:Nat} (hp:p<r.key.length):pcE (img r) (restP r (r.key.getD p []) p)=0:=by
 have hS:r.key[p]? = some (r.key.getD p []):=by rw [List.getD_eq_getElem?_getD,List.getElem?_eq_getElem hp];rfl
 have hplc:=telB_at hb.tl hp hS
 have hok:okS (r.key.getD p [])=true:=by
  rw [List.getD_eq_getElem?_getD,List.getElem?_eq_getElem hp]
  exact List.all_eq_true.1 ho.kS _ (List.getElem_mem hp)
 obtain ⟨S,hSe⟩:∃ S,r.key.getD p []=S:=⟨_,rfl⟩
 rw [hSe] at hplc hok hS ⊢
 unfold restP
 by_cases h1:lenU S=1
 · rw [if_pos h1]
   unfold pcE
   simp only [if_true]
   rw [if_neg (by simp [okS_low hok])]
 · rw [if_neg h1]
   have hone:(spk r p r.res.length).length=1:=by
    unfold plcB at hplc
    simpa [h1] using hplc
   obtain ⟨n,hn⟩:=List.length_eq_one_iff.1 hone
   obtain ⟨k,q,rfl,hk,hq,hk1,hqy⟩:=spk_one (r:=r) (p:=p) (n:=n) (by rw [hn];simp)
   rw [hn]
   simp only [List.head?_cons,Int.toNat_natCast,hq]
   have hqm:q∈r.res:=List.mem_of_getElem? hq
   have hil:=img_len r
   have himg:keyAt (img r) k=imgP r.key q:=by
    unfold keyAt img
    simp [hq]
   rcases pc_ok (ho.pc q hqm) with ⟨e,_⟩ | ⟨e,-,-,-,-⟩ | ⟨e,-,-,-,hm⟩
   · exact absurd e hk1
   · rw [if_neg (by omega)]
     unfold pcE
     simp
     omega
   · rw [if_pos e]
     have hkey:keyAt r.key q.y=S:=by
      unfold keyAt
      rw [hqy]
      simp [hS]
     have hit:imgP r.key q=q.tl:=by
      unfold imgP
      rw [if_neg hk1,if_neg (by omega)]
     have hmat:matB (keyAt (img r) k) S=true:=by
      rw [himg,hit]
      rw [hkey] at hm
      unfold matB at hm ⊢
      simp only [Bool.and_eq_true,decide_eq_true_eq] at hm ⊢
      exact ⟨okS_valid hok,hm.2.symm⟩
     unfold pcE
     simp [hmat]
     omega
theorem turn_ok {r:Rl} (ho:Ok r) (hb:Bk r):Ok (turnR r):=
 ⟨hb.i0,hb.i8,ho.a8,ho.p8,by show (resT r _).length≤16;rw [resT_len];have:=ho.k8;omega,ho.aS,List.all_eq_true.2 (img_ok ho),ho.pS,fun p hp=>by
  obtain ⟨k,hk,rfl⟩:=List.mem_map.1 hp
  exact rest_pc ho hb (List.mem_range.1 hk),by show (0:Int)≤(r.key.length:Int);omega,by show (r.key.length:Int)≤((resT r r.key.length).length:Int);rw [resT_len];omega⟩
structure RV where
 r:Rl
 av:Value
 kv:Value
 pv:Value
 rv:Value
def RV.cs (x:RV):List Value:=[.bool x.r.bg,x.av,x.kv,x.pv,.bool x.r.en,x.rv,.int .i64 x.r.cu]
def rvcells (ls:List RV):List Value:=ls.flatMap RV.cs
theorem RV.len (x:RV):x.cs.length=7:=rfl
theorem rvcells_at {ls:List RV} : ∀ {j:Nat} (hj:j<ls.length) {i:Nat} (_:i<7),(rvcells ls)[j*7+i]? = (ls[j].cs)[i]? := by
 induction ls with
 | nil=>intro j hj;cases hj
 | cons x ls ih=>
  intro j hj i hi
  show (x.cs++rvcells ls)[j*7+i]? = _
  match j,hj with
  | 0,_=>
   rw [List.getElem?_append_left (by rw [RV.len];omega)]
   simp
  | j+1,hj=>
   rw [List.getElem?_append_right (by rw [RV.len];omega),RV.len,show (j+1)*7+i - 7=j*7+i by omega]
   have h2:j<ls.length:=by simpa using hj
   simpa using ih h2 hi
theorem rvcells_snoc (ls:List RV) (x:RV):rvcells (ls++[x])=rvcells ls++x.cs:=by simp [rvcells]
structure RVk (w0 w:World) (X:Nat→Prop) (x:RV):Prop where
 a:SR w0 x.av x.r.ante
 k:SR w0 x.kv x.r.key
 p:SR w0 x.pv x.r.post
 r:Rob X w fun W=>PR W x.rv x.r.res
structure OwnRu (w0 w:World) (B:Nat) (v:Value) (ls:List RV):Prop where
 row:w.ownsRow (B+1) 61 7 v ls.length (rvcells ls)
 ok:∀ x∈ls,RVk w0 w (fun k=>k=B∨v.ownBlock=some k) x
 bel:Below w0.heap.size w0 w
 lo:w0.heap.size≤B
theorem OwnRu.below {w0 w w':World} {B:Nat} {v:Value} {ls:List RV} (h:OwnRu w0 w B v ls) (hb:Below w.heap.size w w'):OwnRu w0 w' B v ls:=
 ⟨ownsRow_below8 h.row hb (Nat.le_refl _),fun x hx=>⟨(h.ok x hx).a,(h.ok x hx).k,(h.ok x hx).p,(h.ok x hx).r.fr (fr_below hb (Nat.le_refl _) fun _=>False) fun _ _ e=>e.elim⟩,h.bel.trans (hb.mono h.bel.size),h.lo⟩
theorem OwnRu.form {w0 w:World} {B:Nat} {v:Value} {ls:List RV} (h:OwnRu w0 w B v ls):∃ a c,v = .slice a ls.length c:=by
 rcases h.row.2 with ⟨rfl,e⟩ | ⟨g,cap,cur,rfl,_⟩
 · exact ⟨none,0,by rw [e]⟩
 · exact ⟨_,cap,rfl⟩
theorem OwnRu.push {w0 w w':World} {B:Nat} {v v':Value} {ls:List RV} {x:RV} (h:OwnRu w0 w B v ls) (hx:RVk w0 w (fun k=>k=B∨v.ownBlock=some k) x) (hr:w'.ownsRow (B+1) 61 7 v' (ls.length+1) (rvcells ls++x.cs)) (hg:w.grownBy w' v.ownBlock) (hv:v'.ownBlock=v.ownBlock∨v'.ownBlock=some w.heap.size):OwnRu w0 w' B v' (ls++[x]):=by
 have hok:∀ y,RVk w0 w (fun k=>k=B∨v.ownBlock=some k) y→RVk w0 w' (fun k=>k=B∨v'.ownBlock=some k) y:=fun y hy=>by
  refine ⟨hy.a,hy.k,hy.p,?_⟩
  have h1:Rob (fun k=>(k=B∨v.ownBlock=some k)∨w.heap.size≤k) w fun W=>PR W y.rv y.r.res:=hy.r.less fun k hk e=>e.elim id fun e=>by omega
  have h2:=h1.fr (fr_by hg) fun k _ e => .inl (.inr e)
  refine h2.less fun k hk e => ?_
  rcases e with e | e
  · exact .inl (.inl e)
  · rcases hv with hv | hv
    · exact .inl (.inr (by rw [←hv];exact e))
    · rw [hv] at e
      injection e with e
      exact .inr (by omega)
 refine ⟨by rw [List.length_append,rvcells_snoc];exact hr,fun y hy => ?_,h.bel.grown hg h.bel.size fun k hk=>by have:=(World.ownsRow.lt h.row k hk).1;have:=h.lo;omega,h.lo⟩
 rcases List.mem_append.1 hy with hy | hy
 · exact hok y (h.ok y hy)
 · simp only [List.mem_singleton] at hy
   subst hy
   exact hok y hx
theorem OwnRu.psr {w0 w:World} {B:Nat} {v:Value} {ls:List RV} (h:OwnRu w0 w B v ls):PsR w v (ls.map RV.r):=by
 rcases h.row.2 with ⟨rfl,e⟩ | ⟨g,cap,cur,rfl,_,_,hc,_⟩
 · have:ls=[]:=List.eq_nil_of_length_eq_zero (by omega)
   subst this
   exact ⟨none,0,rfl,Nat.le_refl _,.inl rfl⟩
 · refine ⟨_,cap,by rw [List.length_map],by rw [List.length_map];exact hc,.inr ⟨g,0,rfl,fun j hj => ?_⟩⟩
   have hj':j<ls.length:=by simpa using hj
   have e:(ls.map RV.r)[j]'hj=ls[j].r:=by simp
   rw [e]
   have hx:=h.ok _ (List.getElem_mem hj')
   have cel:∀ (i:Nat) (u:Value),(ls[j].cs)[i]? = some u→w.cell? ⟨g,0+j*7+i,none⟩=some u:=fun i u hu=>by
    have hi:i<7:=by have:=(List.getElem?_eq_some_iff.1 hu).1;simpa [RV.cs] using this
    have:=World.ownsRow.cells h.row rfl (j*7+i) u (by rw [rvcells_at hj' hi];exact hu)
    rw [add_zero_at] at this
    rw [Nat.zero_add]
    exact this
   exact ⟨_,_,_,_,cel 0 _ rfl,cel 1 _ rfl,cel 2 _ rfl,cel 3 _ rfl,cel 4 _ rfl,cel 5 _ rfl,cel 6 _ rfl,⟨hx.a.below h.bel (Nat.le_refl _),hx.k.below h.bel (Nat.le_refl _),hx.p.below h.bel (Nat.le_refl _),hx.r.now⟩⟩
theorem rv_one {w0 w:World} {X:Nat→Prop} {x:RV} (h:RVk w0 w X x):∀ u∈x.cs,u.oneCell'=true:=by
 intro u hu
 have h1:=isSl_one h.a.sl
 have h2:=isSl_one h.k.sl
 have h3:=isSl_one h.p.sl
 have h4:=isSl_one h.r.now.sl
 simp only [RV.cs,List.mem_cons,List.not_mem_nil,or_false] at hu
 rcases hu with rfl | rfl | rfl | rfl | rfl | rfl | rfl
 · rfl
 · exact h1
 · exact h2
 · exact h3
 · rfl
 · exact h4
 · rfl
theorem step_Ru {ops:Array Oper} {o:Oper} {a:Act} {K:Act→World→Prop} {Q:Exit→Act→World→Prop} {E:Prop} {w:World} (hgd:o.guard=none) (s x:Operand)
 (ho:o.op = .call { callee := .builtin .append,args:=#[s,x],argTypes:=#[22,22] })
 (w0:World) (B:Nat) (v:Value) (ls:List RV) (hs:a.eval s=v) (hown:OwnRu w0 w B v ls) (g c:Nat) (y:RV) (hx:a.eval x = .slice (some ⟨g,0,none⟩) 1 c)
 (hy:w.heap[g]? = some (.cells y.cs.toArray 61 (0,0))) (hk:RVk w0 w (fun k=>k=B∨v.ownBlock=some k) y) (hl:ls.length+1≤1000000) (hbase:B+1≤w.heap.size)
 (h:∀ A c' w',OwnRu w0 w' B (.slice A (ls.length+1) c') (ls++[y])→w.grownBy w' v.ownBlock→K (a.put o.dst (.slice A (ls.length+1) c')) w') :
 if Region.wanted o (yielded ops a.tmps)=true then Oper.wp Tryz.prog o a w K Q else E:=by
 obtain ⟨i0,hi,hz0,hz1,hz2⟩:=info_parts inf54
 refine step_append_lies w hgd s x 22 ho (B+1) 61 i0 _ 7 120 Tryz.underlying22 hi hz0 hz1 hz2 rfl (by decide) v ls.length (rvcells ls) hs hown.row ⟨g,0,none⟩ 1 c y.cs hx (RV.len y) ?_ (rv_one hk) (by decide) (by unfold maxLen;omega) (by omega) hbase _ rfl (fun g' cap w' k2 k3 k5 _ => ?_)
 · intro j u hj
   rw [add_zero_at]
   simp only [World.cell?,hy]
   simpa using hj
 · refine h _ _ w' (hown.push hk k2 k3 ?_) k3
   rcases k5 with h | h
   · exact .inl h.symm
   · exact .inr (by rw [h];rfl)
structure TuI (w0 W3 wr:World) (B:Nat) (xv:Value) (ls:List RV):Prop where
 own:OwnRu w0 wr B xv ls
 blk:wr.heap[B]? = some (.cells #[xv] 24 (0,0))
 bel:Below B W3 wr
theorem TuI.below {w0 W3 wr w':World} {B:Nat} {xv:Value} {ls:List RV} (h:TuI w0 W3 wr B xv ls) (hb:Below wr.heap.size wr w'):TuI w0 W3 w' B xv ls:=
 ⟨h.own.below hb,(hb.block B (blk_lt h.blk)).trans h.blk,h.bel.trans (hb.mono (Nat.le_of_lt (blk_lt h.blk)))⟩
theorem TuI.more {w0 W3 wr w8:World} {B:Nat} {xv xv':Value} {ls:List RV} {y:RV} (h:TuI w0 W3 wr B xv ls) (hg:wr.grownBy w8 xv.ownBlock) (hO:OwnRu w0 w8 B xv' (ls++[y])) :
 w8.cell? ⟨B,0,none⟩=some xv∧w8.frozen? ⟨B,0,none⟩=false∧TuI w0 W3 (w8.setCell ⟨B,0,none⟩ xv') B xv' (ls++[y]):=by
 have hlo:=World.ownsRow.lt h.own.row
 have hbk:w8.heap[B]? = some (.cells #[xv] 24 (0,0)):=(hg.block B (blk_lt h.blk) fun e=>by have:=(hlo B e.symm).1;omega).trans h.blk
 have hne:∀ g,g≠B→(w8.setCell ⟨B,0,none⟩ xv').heap[g]? = w8.heap[g]? := fun g hg=>Below.heap_setCell w8 ⟨B,0,none⟩ xv' g hg
 refine ⟨by rw [cell_of hbk];rfl,free_of hbk,⟨⟨hO.row.1,?_⟩,fun x hx=>⟨(hO.ok x hx).a,(hO.ok x hx).k,(hO.ok x hx).p,(hO.ok x hx).r.fr (fr_set w8 B 0 xv') fun k _ e => .inl e⟩,hO.bel.setCell hO.lo _,hO.lo⟩,by rw [set_heap hbk];rfl,?_⟩
 · refine hO.row.2.imp id ?_
   rintro ⟨g,cap,cur,e1,k1,k2,k3⟩
   exact ⟨g,cap,cur,e1,k1,(hne g (by omega)).trans k2,k3⟩
 · exact (h.bel.grown hg (Nat.le_of_lt (blk_lt h.blk)) fun k hk=>by have:=(hlo k hk).1;omega).setCell (Nat.le_refl _) _
end Go.Proofs
